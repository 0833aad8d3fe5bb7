import PyProof.Rows.All
import Wide.All
import OpenK.AllK
import Wide.FinOn
import PyProof.GenCompD
import PyProof.ConsumeS
import HandS.Comp
import HandS.AnyAll
import HandS.GenOver
import HandS.TupSets
import HandS.ForMost
import HandS.TupAny
import HandS.IsInst
import HandS.SortInts
import HandS.DictComp
import HandS.Deep
import HandS.Wide
import HandS.ForExc
import HandS.ExcInit
import HandS.ExcIs
import HandS.ExcField
import HandS.Lambda
import HandS.Small
import KE.KDflt
import HandS.Flow
import HandS.Zip
import HandS.Style
import HandS.SetFor
import PyProof.ReprRoads
import PyProof.CallFns
import KE.GoesEnum
import HandS.ExcValue
import HandS.TupMul
import HandS.Conv
import PyProof.ListCopy
import PyProof.ListIndex
import HandS.NoneIn
import HandS.WordsDict
import HandS.Iter
import HandS.SetBool
import HandS.Strs
import KE.KDictZip
import HandS.EndTab
import HandS.Head0
import HandS.Head1
import HandS.Head2
import HandS.HeadHook4
import KE.KStateDown
import PySem.Challenge.RW_shortbars_k28_part_f_refused
set_option Elab.async false
set_option linter.all false
set_option maxRecDepth 100000
set_option maxHeartbeats 4000000
namespace GX
open PySem PySem.Spec PyProof.Rows L2 GenW

/-- where a generator expression's own frame runs -/
abbrev gcx (X : Cx) (s : Shared) (H : Hp) (scope : Scope) (cenv : Env) (fp : List Addr) (B : Around) : Cx :=
  { X with A := B, s_0 := s, H_0 := H, env := cenv, outer := X.stack, stack := cenv :: X.stack, ex := fp,
           fn := fun x => scope.names.lookup x == some .cell, pn := [], xe := fun _ _ => False }

/-- the frame's environment -/
abbrev gen0 (X : Cx) (scope : Scope) (C : Addr) (code : Value) : Env :=
  genEnv scope (cloFrom X.env.cells scope.names []) C code builtinsNs X.env

section
variable {X : Cx} {pins : List (Addr × Obj)} {σ : L2.St} {H : Hp} {s : Shared}

theorem gen_start {scope : Scope} {own : List (Str × Nat)} {fp : List Addr} {code : Value} {B : Around}
    {h2 : Heap} {g2 : Array GenState} {d2 : Drawn} {t2 : Nat}
    (I : Inv X pins σ H s) (ok : BlkOk X.N X.env.scope scope own) (hN : X.N.Nodup)
    (nocell : ∀ y ∈ scope.names, y.2 ≠ .cell)
    (hfp : ∀ b ∈ fp, FpOk X pins H b ∧ b < s.heap.objs.size)
    (hfr : B.frames = some (gen0 X scope s.heap.objs.size code :: X.stack)) (hcalm : X.calm = true → B.handled = none)
    (kp : ∀ b o, s.heap.get? b = some o → h2.get? b = some o)
    (ns : ∃ m, h2.Ns s.heap.objs.size m) (hb : AllBare g2) :
    Inv (gcx X s H scope (gen0 X scope s.heap.objs.size code) fp B) [] (wipe σ (own.map (·.2))) H
      { s with heap := h2, gens := g2, drawn := d2, toks := t2 } := by
  have hfree : ∀ y ∈ scope.names, y.2 = .free → ∃ c, X.env.cells.lookup y.1 = some c := by
    intro y hy e
    rcases ok.free y hy e with k | k
    · exact I.ok.has _ (.inl k)
    · exact I.ok.has _ (.inr k)
  have cmem : ∀ {y c}, (cloFrom X.env.cells scope.names []).lookup y = some c →
      X.env.cells.lookup y = some c ∧ c < s.heap.objs.size := by
    intro y c e
    rcases cloFrom_mem (PySem.mem_of_lookup e) with hm | ⟨h1, rfl⟩
    · cases hm
    · obtain ⟨c, hc⟩ := hfree _ h1 rfl
      rw [hc]
      obtain ⟨w, z⟩ := I.cell _ _ hc
      exact ⟨rfl, z.lt⟩
  have chas : ∀ {y}, scope.names.lookup y = some .free →
      ∃ c, (cloFrom X.env.cells scope.names []).lookup y = some c ∧ X.env.cells.lookup y = some c := by
    intro y hl
    have hy : (y, NameKind.free) ∈ scope.names := PySem.mem_of_lookup hl
    obtain ⟨c', e'⟩ := mem_lookup (cloFrom_has (cells := X.env.cells) (acc := []) hy)
    exact ⟨c', e', (cmem e').1⟩
  generalize hce : gen0 X scope s.heap.objs.size code = ce at hfr ⊢
  have cL : ce.locals = s.heap.objs.size := by subst hce; rfl
  have cC : ce.cells = cloFrom X.env.cells scope.names [] := by subst hce; rfl
  have cS : ce.scope = scope := by subst hce; rfl
  have cF : ce.frame = some ce.locals := by subst hce; rfl
  have cG : ce.globals = mainGlobals := by subst hce; exact I.ok.glob
  have cB : ce.builtins = builtinsNs := by subst hce; rfl
  have okB : (gcx X s H scope ce fp B).Ok :=
    { mod := I.ok.mod
      kind := by show ce.scope.kind = _; rw [cS]; exact ok.kind
      glob := cG
      blt := cB
      above := by show s.heap.objs.size ≤ ce.locals; rw [cL]; exact Nat.le_refl _
      inj := fun x y c e1 e2 => by
        have e1 : ce.cells.lookup x = some c := e1
        have e2 : ce.cells.lookup y = some c := e2
        rw [cC] at e1 e2
        exact I.ok.inj x y c (cmem e1).1 (cmem e2).1
      has := fun x hx => by
        have key : scope.names.lookup x = some .free := by
          rcases hx with hx | hx
          · have hx : ce.scope.names.lookup x = some .cell := hx
            rw [cS] at hx
            exact absurd rfl (nocell _ (PySem.mem_of_lookup hx))
          · have hx : ce.scope.names.lookup x = some .free := hx
            rw [cS] at hx
            exact hx
        obtain ⟨c, e, _⟩ := chas key
        exact ⟨c, by show ce.cells.lookup x = _; rw [cC]; exact e⟩
      cab := fun x c z _ => by
        have z : (scope.names.lookup x == some NameKind.cell) = true := z
        have z : scope.names.lookup x = some .cell := by simpa using z
        exact absurd rfl (nocell _ (PySem.mem_of_lookup z))
      hd := hcalm
      frames := hfr
      stk := .inr ⟨rfl, cF⟩
      exf := fun b hb => ⟨by show b ≠ ce.locals; rw [cL]; exact Nat.ne_of_lt (hfp b hb).2, fun y c e => by
        have e : ce.cells.lookup y = some c := e
        rw [cC] at e
        exact (hfp b hb).1.2.2.2.2.1 y c (cmem e).1⟩
      bs := I.bs
      bsz := Nat.le_trans I.ok.bsz I.sz
      noex := fun b o e hb => by
        rcases (hfp b hb).1.2.2.2.1 with z | z
        · exact I.ok.noex b o e z
        · exact absurd (Nat.lt_of_lt_of_le (Heap.lt_size e) (Nat.le_trans I.ok.bsz z)) (Nat.lt_irrefl _)
      exfs := fun b hb z => by
        rcases List.mem_cons.mp (I.stkSub b z) with z | z
        · exact (hfp b hb).1.2.1 z
        · exact (hfp b hb).1.2.2.1 z
      funs := I.stack
      frf := I.stkFree }
  exact
    { ok := okB
      os := rfl
      bare := hb
      base := Un.kept kp
      loc := by
        obtain ⟨m, hn⟩ := ns
        refine ⟨m, by show Heap.Ns _ ce.locals _; rw [cL]; exact hn, fun i y av e1 e2 e3 => ?_⟩
        obtain ⟨e2, hne⟩ := wipe_some e2
        have hfr : scope.names.lookup y = some .free := by
          have e3 : Vis ce.scope y := e3
          rw [cS] at e3
          have no : ∀ k, scope.names.lookup y = some k → (k = .local ∨ k = .cell) → False := by
            intro k e hh
            rcases ok.own _ (PySem.mem_of_lookup e) hh with e' | e'
            · obtain ⟨p, hp, hpy⟩ := List.mem_map.mp e'
              have e4 := ok.ix p hp
              have q : p.1 = y := hpy
              rw [q] at e4
              exact hne (List.mem_map.mpr ⟨p, hp, nodup_ix hN e4 e1⟩)
            · exact e' (List.mem_of_getElem? e1)
          rcases e3 with e3 | e3 | e3
          · exact (no _ e3 (.inl rfl)).elim
          · exact (no _ e3 (.inr rfl)).elim
          · exact e3
        obtain ⟨m0, _, hl⟩ := I.loc
        have hvis : Vis X.env.scope y := by
          rcases ok.free _ (PySem.mem_of_lookup hfr) rfl with k | k
          · exact .inr (.inl k)
          · exact .inr (.inr k)
        obtain ⟨u, r, q⟩ := hl i y av e1 e2 hvis
        refine ⟨u, r, .inr ⟨.inr (by show ce.scope.names.lookup y = _; rw [cS]; exact hfr), ?_⟩⟩
        obtain ⟨c, h1, h3⟩ := chas hfr
        rcases q with ⟨k, _⟩ | ⟨_, c', e', z⟩
        · have k : X.env.scope.names.lookup y = some .local := k
          rcases ok.free _ (PySem.mem_of_lookup hfr) rfl with k' | k'
          · rw [show X.env.scope.names.lookup y = _ from k'] at k; cases k
          · rw [show X.env.scope.names.lookup y = _ from k'] at k; cases k
        · rw [h3] at e'; cases e'
          exact ⟨c, by show ce.cells.lookup y = _; rw [cC]; exact h1, z.keeps kp⟩
      cell := fun y c e => by
        have e : ce.cells.lookup y = some c := e
        rw [cC] at e
        obtain ⟨v, z⟩ := I.cell y c (cmem e).1
        exact ⟨v, z.keeps kp⟩
      free := by show H ce.locals = none; rw [cL]; exact I.hok.fresh (Nat.le_refl _)
      freeC := fun y c e => by
        have e : ce.cells.lookup y = some c := e
        rw [cC] at e
        exact I.freeC y c (cmem e).1
      pin := fun p hp => absurd (show p ∈ ([] : List (Addr × Obj)) ++ [] from hp) (by simp)
      hok := I.hok.kept kp
      len := by rw [wipe_length]; exact I.len }
end
end GX

set_option Elab.async false
set_option linter.all false
set_option maxRecDepth 100000
set_option maxHeartbeats 4000000
namespace GX
open PySem PySem.Spec PyProof.Rows L2 GenW

/-- what may change while the generator sleeps -/
structure Nap (s s' : Shared) : Prop where
  heap : s'.heap = s.heap
  os : s'.os = s.os
  bare : AllBare s'.gens

theorem Inv.nap {X : Cx} {pnz : List (Addr × Obj)} {σ : L2.St} {H : Hp} {s s' : Shared} (I : Inv X pnz σ H s) (z : Nap s s') : Inv X pnz σ H s' := by
  obtain ⟨h', g', d', t', o'⟩ := s'
  obtain ⟨z1, z2, z3⟩ := z
  have z1 : h' = s.heap := z1
  have z2 : o' = s.os := z2
  subst z1; subst z2
  exact
    { ok := I.ok, os := I.os, bare := z3, base := I.base, loc := I.loc, cell := I.cell, free := I.free
      freeC := I.freeC, pin := I.pin, hok := I.hok, len := I.len }

section
variable {Y : Cx} {pa : Addr × Obj} {σv : L2.St} {Q : Bool → Hp → Prop} {W : Nat → Nat → Hp → Prop} {go : Bool}
  {fp : List Addr} {tn : Nat → Heap → Prop}

/-- at the head of a turn -/
def Hd (Y : Cx) (pa : Addr × Obj) (σv : L2.St) (fp : List Addr) (tn : Nat → Heap → Prop) (W : Nat → Nat → Hp → Prop) (n : Nat) (s : Shared) : Prop :=
  s.heap.get? pa.1 = some pa.2 ∧ s.heap.NoLimit ∧ AllBare s.gens

/-- behind a yield of the bool c -/
def Yd (Y : Cx) (pa : Addr × Obj) (σv : L2.St) (fp : List Addr) (tn : Nat → Heap → Prop) (W : Nat → Nat → Hp → Prop) (Q : Bool → Hp → Prop) (go : Bool) : Protocol :=
  fun n _ v s kap => ∃ c : Bool, v = .bool c ∧
    if c = go then Hd Y pa σv fp tn W n s ∧ ∀ s', Nap s s' → kap (.send .none) s'
    else ∃ H, Inv Y [pa] σv H s ∧ Q (!go) H

/-- how the generator ends -/
def Nd (Y : Cx) (pa : Addr × Obj) (σv : L2.St) (Q : Bool → Hp → Prop) (go : Bool) : GenEnd :=
  fun n s₀ r s => r = .ok .next ∧ ∃ H, Inv Y [pa] σv H s ∧ Q go H

/-- the turns, as a reading -/
def Trn (J : It) (g : TG) (tt : TT) (te : TE) (vs : List Nat) (σ : L2.St) (W : Nat → Nat → Hp → Prop) (Q : Bool → Hp → Prop) (go : Bool) : Prop :=
  ∀ i m H, W i m H →
    (J.stop i H ∧ Q go H) ∨ (J.go i H ∧ ∃ Nx : Hp → Prop, (∀ H', Nx H' → ∃ m', m' < m ∧ W (i + 1) m' H') ∧
      ∀ x H', J.yld i H x H' → g x (wipe σ vs) H' fun σ2 H2 => wipe σ2 vs = wipe σ vs ∧ tt σ2 H2 fun b H3 =>
        if b = true then te σ2 H3 fun y H4 => ∃ c, y = .bl c ∧ (if c = go then Nx H4 else Q (!go) H4) else Nx H3)

theorem nap_refl {s : Shared} (h : AllBare s.gens) : Nap s s := ⟨rfl, rfl, h⟩

/-- the generator's loop -/
theorem seg_gx {elt tg iter : Expr} {ifs : List Expr} {scope : Scope} {pos : Pos} {it : Addr} {J : It} {g : TG} {tt : TT} {te : TE} {vs : List Nat} {σ : L2.St} {A : Around}
    (hA : A.over (.compLoop (.GeneratorExp elt [⟨tg, iter, ifs, 0⟩] scope pos) 0 (.ref it) .none Y.env) [] = Y.A)
    (hE : Y.xe = fun _ _ => False) (hpn : Y.pn = []) (cls1 : Y.calm = true) (hco : Y.env.scope.isCoroutine = false) (hfx : Y.ex = fp)
    (hpa : ∀ b ∈ fp, pa.1 ≠ b)
    (T : Turn Y.prog Y.w Y.K tg J fp it tn) (pg : PG Y tg g) (pt : PTs Y ifs tt) (pe : PE Y elt te)
    (tr : Trn J g tt te vs σ W Q go) :
    ∀ (m n : Nat) (i : Nat) (H : Hp) (s₀ s : Shared), m < n → Inv Y [pa] (wipe σ vs) H s → tn i s.heap → (∀ b ∈ fp, H b = none) → W i m H →
      Seg (model Y.prog Y.w) A (Nd Y pa (wipe σ vs) Q go) (Yd Y pa (wipe σ vs) fp tn W Q go) n s₀
        (.compLoop (.GeneratorExp elt [⟨tg, iter, ifs, 0⟩] scope pos) 0 (.ref it) .none Y.env)
        ((model Y.prog Y.w).den (.compLoop (.GeneratorExp elt [⟨tg, iter, ifs, 0⟩] scope pos) 0 (.ref it) .none Y.env)) [] s := by
  have stat : ∀ {σ' : L2.St} {H' : Hp} {s' : Shared}, Inv Y [pa] σ' H' s' → (∀ b ∈ fp, H' b = none) → ∀ b ∈ fp, FpOk Y [pa] H' b := by
    intro σ' H' s' I' nsA b hbb
    have hb' : b ∈ Y.ex := by rw [hfx]; exact hbb
    refine ⟨nsA b hbb, (I'.ok.exf b hb').1, I'.ok.exfs b hb', .inl hb', fun x c e => (I'.ok.exf b hb').2 x c e, fun p hpz => ?_⟩
    rw [hpn] at hpz
    have e : p = pa := by simpa using hpz
    rw [e]; exact hpa b hbb
  intro m
  induction m using Nat.strongRecOn with
  | ind m indh =>
    intro n i H s₀ s hmn I stt nsA w
    show Seg _ A _ _ _ s₀ _ ((compTurn (.GeneratorExp elt [⟨tg, iter, ifs, 0⟩] scope pos) 0 (.ref it) .none Y.env).onRaise (leaving Y.env)) [] s
    rw [compTurn_gen, Sem.onRaise_eq_wrap]
    refine seg_bind_wrap (wpAny_standAt ?_)
    rcases tr i m H w with ⟨stop, q⟩ | ⟨gg, Nx, hNx, step⟩
    · have td := T.done Y rfl rfl rfl cls1 i [pa] s _ H (fun _ _ => False) I (stat I nsA) stt stop
      refine seg_bind_wrap ?_
      rw [hA]
      refine thnF td fun r s6 ⟨rmA, I6⟩ => ?_
      subst rmA
      exact seg_end (.ok .next) ⟨rfl, H, I6, q⟩
    · have ti := T.item Y rfl rfl rfl cls1 i [pa] s _ H (fun _ _ => False) I (stat I nsA) stt gg
      refine seg_bind_wrap ?_
      rw [hA]
      refine thnF ti fun r s6 ⟨u, rmA, h6⟩ => ?_
      subst rmA
      refine seg_bind_wrap ?_
      rw [hA]
      refine thnF h6 fun _ s7 ⟨x, H7, I7, r7, y7, st7, n7⟩ => ?_
      have I7' := I7.pinned (stat I7 n7) (T.obj _ _ st7)
      refine seg_bind_wrap ?_
      rw [hA]
      have rg := pg.run _ s7 _ H7 x u _ I7' r7 (step x H7 y7)
      rw [hE] at rg
      refine thnF rg fun _ s8 ⟨σ8, H8, I8, hw8, q8⟩ => ?_
      refine seg_bind_wrap ?_
      rw [hA]
      have rt := pt.run _ s8 σ8 H8 _ I8 q8
      rw [hE] at rt
      refine thnF rt fun b s9 ⟨H9, I9, q9⟩ => ?_
      have back : ∀ {s' : Shared} {H' : Hp}, Inv Y ([pa] ++ pinsAt fp s7.heap) σ8 H' s' →
          Inv Y [pa] (wipe σ vs) H' s' ∧ tn (i + 1) s'.heap ∧ ∀ b ∈ fp, H' b = none := by
        intro s' H' I'
        have pin' : ∀ b ∈ fp, ∀ o, s7.heap.get? b = some o → s'.heap.get? b = some o ∧ H' b = none := fun b hbb o e =>
          let z := I'.pin (b, o) (List.mem_append_right _ (List.mem_append_right _ (mem_pinsAt hbb e)))
          ⟨z.1, z.2.1⟩
        have lnE : (wipe σ vs).length = σ8.length := by rw [← hw8, wipe_length]
        refine ⟨(I'.unpinned (pins := [pa])).weak lnE fun j v e => ?_, T.keep _ _ _ st7 fun b hbb o e => (pin' b hbb o e).1, fun b hbb => ?_⟩
        · rw [← hw8] at e
          exact (wipe_some e).1
        · obtain ⟨o, e, _⟩ := T.obj _ _ st7 b hbb
          exact (pin' b hbb o e).2
      cases b with
      | false =>
        simp only [Bool.false_eq_true, if_false] at q9 ⊢
        obtain ⟨m', memb, w'⟩ := hNx H9 q9
        obtain ⟨I10, st10, n10⟩ := back I9
        exact seg_again rfl (indh m' memb n (i + 1) H9 s₀ s9 (by omega) I10 st10 n10 w')
      | true =>
        simp only [if_true] at q9 ⊢
        have hyy : ∀ v, yieldOut Y.env v = yieldValue v := fun v => by simp only [yieldOut, hco, Bool.false_eq_true, if_false]
        simp only [hyy]
        rw [Sem.bind_eq_wrap', Sem.bind_eq_wrap', Sem.wrap_wrap, Sem.wrap_wrap]
        refine seg_wrap ?_
        rw [hA]
        have re := pe.run _ s9 σ8 H9 _ I9 q9
        rw [hE] at re
        refine thnF re fun z s10 ⟨yv, H10, I10, r10, c, hc10, nx⟩ => ?_
        subst hc10
        obtain rfl : z = Value.bool c := r10
        obtain ⟨I11, st11, n11⟩ := back I10
        have hn1 : ∃ k, n = k + 1 := ⟨n - 1, by omega⟩
        obtain ⟨k, rfl⟩ := hn1
        refine seg_at (seg_yield rfl rfl rfl ⟨c, rfl, ?_⟩)
        by_cases hcg : c = go
        · rw [if_pos hcg]
          rw [if_pos hcg] at nx
          obtain ⟨m', memb, w'⟩ := hNx H10 nx
          refine ⟨⟨(I11.pin pa (List.mem_append_right _ List.mem_cons_self)).1, I11.nolimit, I11.bare⟩, fun s'' z => ?_⟩
          refine seg_again rfl (indh m' memb k (i + 1) H10 s'' s'' (by omega) (Inv.nap I11 z) ?_ n11 w')
          rw [z.heap]; exact st11
        · rw [if_neg hcg]
          rw [if_neg hcg] at nx
          exact ⟨H10, I11, nx⟩
end
end GX

set_option Elab.async false
set_option linter.all false
set_option maxRecDepth 100000
set_option maxHeartbeats 4000000
namespace GX
open PySem PySem.Spec PyProof.Rows L2 GenW

theorem bare_set {s : Shared} {g : Nat} {x : GenState} (h : AllBare s.gens) (atX : x.bare = true) : AllBare (s.setGen g x).gens := by
  intro y hyy
  have hyy : y ∈ s.gens.setIfInBounds g x := hyy
  obtain ⟨i, hii, e⟩ := Array.mem_iff_getElem.mp hyy
  rw [Array.getElem_setIfInBounds] at e
  · by_cases q : g = i
    · rw [if_pos q] at e; rw [← e]; exact atX
    · rw [if_neg q] at e
      rw [← e]; exact h _ (Array.getElem_mem _)
  · rw [Array.size_setIfInBounds] at hii
    exact hii

section
variable {Y : Cx} {pa : Addr × Obj} {σv : L2.St} {Q : Bool → Hp → Prop} {W : Nat → Nat → Hp → Prop} {go : Bool}
  {fp : List Addr} {tn : Nat → Heap → Prop} {A : Around} {g : Nat}

/-- the generator pa.1 sleeps, at most n yields to come -/
structure Slp (Y : Cx) (pa : Addr × Obj) (σv : L2.St) (fp : List Addr) (tn : Nat → Heap → Prop) (W : Nat → Nat → Hp → Prop) (Q : Bool → Hp → Prop) (go : Bool)
    (A : Around) (g n : Nat) (s : Shared) : Prop where
  gen : s.heap.IsGen pa.1 g
  lim : s.heap.NoLimit
  bare : AllBare s.gens
  goes : ∃ gs, s.gens[g]? = some gs ∧ ∀ s', Nap s s' → gs.Goes (model Y.prog Y.w) A.in1 (Nd Y pa σv Q go) (Yd Y pa σv fp tn W Q go) n (.send .none) s'

theorem isgen_of {h : Heap} {a : Addr} {o : Obj} (glb : ∃ nm qn, o.cls = .type "generator" ∧ o.data = .fields #[.int g 0, nm, qn] ∧ o.slots = #[]) (e : h.get? a = some o) : h.IsGen a g := by
  obtain ⟨nm, qn, r⟩ := glb
  exact ⟨o, nm, qn, e, r⟩

/-- one draw -/
theorem draw_gx (hh : A.handled = none) (hroom : A.depth < recursionLimit)
    (glb : ∃ nm qn, pa.2.cls = .type "generator" ∧ pa.2.data = .fields #[.int g 0, nm, qn] ∧ pa.2.slots = #[])
    {n : Nat} {s : Shared} {E : Value → Shared → Prop} (z : Slp Y pa σv fp tn W Q go A g n s) :
    wpAny (model Y.prog Y.w) A (pyNext (.ref pa.1)) (fun r s' => match r with
      | none => ∃ H, Inv Y [pa] σv H s' ∧ Q go H
      | some v => ∃ c : Bool, v = .bool c ∧ if c = go then (∃ k, n = k + 1 ∧ Slp Y pa σv fp tn W Q go A g k s') else ∃ H, Inv Y [pa] σv H s' ∧ Q (!go) H) E s := by
  obtain ⟨gs, hgs, hgo⟩ := z.goes
  have hlt : g < s.gens.size := by
    rcases Nat.lt_or_ge g s.gens.size with h' | h'
    · exact h'
    · rw [Array.getElem?_eq_none h'] at hgs; cases hgs
  refine wpAny_gsz (n := g + 1) hlt ?_
  refine wpAny_pyNext_genexpQ (P := fun n s₀ s₁ => ∃ H, Inv Y [pa] σv H s₁ ∧ Q go H) hh z.lim hroom z.gen hgs
    (hgo _ ⟨rfl, rfl, bare_set z.bare rfl⟩) (fun v s₁ gs' hbb vis hsz => ?_) (fun s₁ hpz h' kps hsz => ?_)
  · obtain ⟨c, rfl, vis⟩ := vis
    refine ⟨c, rfl, ?_⟩
    have hgz : g < s₁.gens.size := by
      have e : (s₁.setGen g gs').gens.size = s₁.gens.size := setGen_size s₁ g gs'
      have q : g + 1 ≤ (s₁.setGen g gs').gens.size := hsz
      omega
    by_cases hcg : c = go
    · rw [if_pos hcg] at vis ⊢
      obtain ⟨⟨pin, nl, bare⟩, kap⟩ := vis
      have n1 : ∃ k, n = k + 1 := by
        cases n with
        | zero => exact absurd (kap s₁ (nap_refl bare)) (fun f => f)
        | succ k => exact ⟨k, rfl⟩
      obtain ⟨k, rfl⟩ := n1
      refine ⟨k, rfl, isgen_of glb pin, nl, bare_set bare hbb, gs', ?_, fun s'' z' => ?_⟩
      · show (s₁.gens.setIfInBounds g gs')[g]? = some gs'
        simp [hgz]
      · exact kap s'' ⟨z'.heap, z'.os, z'.bare⟩
    · rw [if_neg hcg] at vis ⊢
      obtain ⟨H, I, q⟩ := vis
      exact ⟨H, Inv.nap I ⟨rfl, rfl, bare_set I.bare hbb⟩, q⟩
  · obtain ⟨H, I, q⟩ := hpz
    refine ⟨H, ?_, q⟩
    have J : Inv Y [pa] σv H { s₁ with heap := h', toks := s₁.toks } := I.kept kps
    exact Inv.nap J ⟨rfl, rfl, bare_set I.bare rfl⟩

/-- all(the generator) -/
theorem all_gx {R : Result → Shared → Prop} (hh : A.handled = none) (hroom : A.depth < recursionLimit)
    (glb : ∃ nm qn, pa.2.cls = .type "generator" ∧ pa.2.data = .fields #[.int g 0, nm, qn] ∧ pa.2.slots = #[])
    (hR : ∀ b s' H, Inv Y [pa] σv H s' → Q b H → R (.ok (.ret (.bool b))) s') :
    ∀ (n : Nat) (s : Shared), Slp Y pa σv fp tn W Q true A.in1 g n s → codeAny (model Y.prog Y.w) A (.builtin "all.loop" ⟨[.ref pa.1], []⟩) R s := by
  intro n
  induction n with
  | zero =>
    intro s z
    refine codeAny_builtin F.entry_all_loop ?_
    rw [Around.under_plainId F.plain_all_loop _]
    show wpAny _ A.in1 (pyNext (.ref pa.1) >>= _) _ _ s
    refine wpAny_bind (wpAny_mono (draw_gx (A := A.in1) (show A.in1.handled = none from hh) (show A.in1.depth < recursionLimit from hroom) glb z) (fun r s' h => ?_) fun _ _ e => e)
    cases r with
    | none =>
      obtain ⟨H, I, q⟩ := h
      exact wpAny_bind (wpAny_rule (wpAny_pure (hR true s' H I q)))
    | some v =>
      obtain ⟨c, rfl, h⟩ := h
      refine wpAny_bind (wpAny_holding (wpAny_truthy_bool ?_))
      refine wpAny_bind (wpAny_letGo ?_)
      cases c with
      | true =>
        rw [if_pos rfl] at h
        obtain ⟨k, e, _⟩ := h
        cases e
      | false =>
        rw [if_neg (by decide)] at h
        obtain ⟨H, I, q⟩ := h
        simp only [Bool.false_eq_true, if_false]
        exact wpAny_bind (wpAny_rule (wpAny_pure (hR false s' H I q)))
  | succ n indh =>
    intro s z
    refine codeAny_builtin F.entry_all_loop ?_
    rw [Around.under_plainId F.plain_all_loop _]
    show wpAny _ A.in1 (pyNext (.ref pa.1) >>= _) _ _ s
    refine wpAny_bind (wpAny_mono (draw_gx (A := A.in1) (show A.in1.handled = none from hh) (show A.in1.depth < recursionLimit from hroom) glb z) (fun r s' h => ?_) fun _ _ e => e)
    cases r with
    | none =>
      obtain ⟨H, I, q⟩ := h
      exact wpAny_bind (wpAny_rule (wpAny_pure (hR true s' H I q)))
    | some v =>
      obtain ⟨c, rfl, h⟩ := h
      refine wpAny_bind (wpAny_holding (wpAny_truthy_bool ?_))
      refine wpAny_bind (wpAny_letGo ?_)
      cases c with
      | true =>
        rw [if_pos rfl] at h
        obtain ⟨k, e, z'⟩ := h
        have e' : n = k := by omega
        subst e'
        simp only [if_true]
        exact wpAny_pure ⟨plainId_quiet F.plain_all_loop _, indh s' z'⟩
      | false =>
        rw [if_neg (by decide)] at h
        obtain ⟨H, I, q⟩ := h
        simp only [Bool.false_eq_true, if_false]
        exact wpAny_bind (wpAny_rule (wpAny_pure (hR false s' H I q)))

/-- any(the generator) -/
theorem any_gx {R : Result → Shared → Prop} (hh : A.handled = none) (hroom : A.depth < recursionLimit)
    (glb : ∃ nm qn, pa.2.cls = .type "generator" ∧ pa.2.data = .fields #[.int g 0, nm, qn] ∧ pa.2.slots = #[])
    (hR : ∀ b s' H, Inv Y [pa] σv H s' → Q b H → R (.ok (.ret (.bool b))) s') :
    ∀ (n : Nat) (s : Shared), Slp Y pa σv fp tn W Q false A.in1 g n s → codeAny (model Y.prog Y.w) A (.builtin "any.loop" ⟨[.ref pa.1], []⟩) R s := by
  intro n
  induction n with
  | zero =>
    intro s z
    refine codeAny_builtin F.entry_any_loop ?_
    rw [Around.under_plainId F.plain_any_loop _]
    show wpAny _ A.in1 (pyNext (.ref pa.1) >>= _) _ _ s
    refine wpAny_bind (wpAny_mono (draw_gx (A := A.in1) (show A.in1.handled = none from hh) (show A.in1.depth < recursionLimit from hroom) glb z) (fun r s' h => ?_) fun _ _ e => e)
    cases r with
    | none =>
      obtain ⟨H, I, q⟩ := h
      exact wpAny_bind (wpAny_rule (wpAny_pure (hR false s' H I q)))
    | some v =>
      obtain ⟨c, rfl, h⟩ := h
      refine wpAny_bind (wpAny_holding (wpAny_truthy_bool ?_))
      refine wpAny_bind (wpAny_letGo ?_)
      cases c with
      | false =>
        rw [if_pos rfl] at h
        obtain ⟨k, e, _⟩ := h
        cases e
      | true =>
        rw [if_neg (by decide)] at h
        obtain ⟨H, I, q⟩ := h
        simp only [if_true]
        exact wpAny_bind (wpAny_rule (wpAny_pure (hR true s' H I q)))
  | succ n indh =>
    intro s z
    refine codeAny_builtin F.entry_any_loop ?_
    rw [Around.under_plainId F.plain_any_loop _]
    show wpAny _ A.in1 (pyNext (.ref pa.1) >>= _) _ _ s
    refine wpAny_bind (wpAny_mono (draw_gx (A := A.in1) (show A.in1.handled = none from hh) (show A.in1.depth < recursionLimit from hroom) glb z) (fun r s' h => ?_) fun _ _ e => e)
    cases r with
    | none =>
      obtain ⟨H, I, q⟩ := h
      exact wpAny_bind (wpAny_rule (wpAny_pure (hR false s' H I q)))
    | some v =>
      obtain ⟨c, rfl, h⟩ := h
      refine wpAny_bind (wpAny_holding (wpAny_truthy_bool ?_))
      refine wpAny_bind (wpAny_letGo ?_)
      cases c with
      | false =>
        rw [if_pos rfl] at h
        obtain ⟨k, e, z'⟩ := h
        have e' : n = k := by omega
        subst e'
        simp only [Bool.false_eq_true, if_false]
        exact wpAny_pure ⟨plainId_quiet F.plain_any_loop _, indh s' z'⟩
      | true =>
        rw [if_neg (by decide)] at h
        obtain ⟨H, I, q⟩ := h
        simp only [if_true]
        exact wpAny_bind (wpAny_rule (wpAny_pure (hR true s' H I q)))
end
end GX

set_option Elab.async false
set_option linter.all false
set_option maxRecDepth 100000
set_option maxHeartbeats 4000000
namespace GX
open PySem PySem.Spec PyProof.Rows L2 GenW GxR

/-- the generator's loop, as code -/
abbrev gcode (elt tg iter : Expr) (ifs : List Expr) (scope : Scope) (gpos : Pos) (it : Addr) (ce : Env) : Code :=
  .compLoop (.GeneratorExp elt [⟨tg, iter, ifs, 0⟩] scope gpos) 0 (.ref it) .none ce

theorem room_gx {k : Nat} {A : Around} {elt tg iter : Expr} {ifs : List Expr} {scope : Scope} {gpos : Pos} {it : Addr} {ce : Env} (r : Room (k + 1) A) :
    Room k (A.in1.in1.over (gcode elt tg iter ifs scope gpos it ce) []) :=
  ⟨r.hd, by have := r.dp; show A.depth + 0 + 1 + 3 * k + 5 < recursionLimit; omega,
    by have := r.un; show A.units + 1 + 1 + 0 + 3 + 16 * k + 200 < cLine; omega⟩

/-- what is written of the generator expression and its surroundings -/
structure GenOk (X : Cx) (c P : Addr) (scope : Scope) (own : List (Str × Nat)) (iter : Expr) : Prop where
  tab : TabB X.base X.mg c P
  code : X.env.code = .ref c
  blk : BlkOk X.N X.env.scope scope own
  nocell : ∀ y ∈ scope.names, y.2 ≠ .cell
  dot : scope.names.lookup (".0" : Str) = some NameKind.local
  co : scope.isCoroutine = false
  nd : X.N.Nodup
  calm : X.calm = true
  fold : ∀ v, genFold iter X.env v = pure v

/-- any(..) (go = false), all(..) (go = true), as a reading -/
def tGx (P : Addr) (go : Bool) (wi : TI) (g : TG) (tt : TT) (te : TE) (vs : List Nat) : TE := fun σ H Q =>
  wi σ H fun J H1 => TabG H1 P ∧ ∀ H2, Tabbed P H1 H2 → ∃ W : Nat → Nat → Hp → Prop, (∃ m, W 0 m H2) ∧ Trn J g tt te vs σ W (fun b H => Q (.bl b) H) go

section
variable {X : Cx} {pnz : List (Addr × Obj)} {σ : L2.St} {H : Hp} {s : Shared}

theorem make_gx {c P : Addr} {elt tg iter : Expr} {ifs : List Expr} {gpos : Pos} {scope : Scope} {own : List (Str × Nat)} {wi : TI} {g : TG} {tt : TT} {te : TE} {k : Nat} {go : Bool}
    {Q : VK} {Q' : Value → Shared → Prop}
    (rmA : Room (k + 1) X.A) (G : GenOk X c P scope own iter) (hii : PI X tg iter wi)
    (glb : ∀ s H C code fp B, Room k B → PG (gcx X s H scope (gen0 X scope C code) fp B) tg g)
    (isT : ∀ s H C code fp B, Room k B → PTs (gcx X s H scope (gen0 X scope C code) fp B) ifs tt)
    (enm : ∀ s H C code fp B, Room k B → PE (gcx X s H scope (gen0 X scope C code) fp B) elt te)
    (I : Inv X pnz σ H s) (h : tGx P go wi g tt te (own.map (·.2)) σ H Q)
    (kont : ∀ (Y : Cx) (pa : Addr × Obj) (σv : L2.St) (fp : List Addr) (tn : Nat → Heap → Prop) (W : Nat → Nat → Hp → Prop) (gi n : Nat) (s5 : Shared),
      Y.prog = X.prog → Y.w = X.w →
      (∃ nm qn, pa.2.cls = .type "generator" ∧ pa.2.data = .fields #[.int gi 0, nm, qn] ∧ pa.2.slots = #[]) →
      Slp Y pa σv fp tn W (fun b H => Q (.bl b) H) go X.A.in1 gi n s5 →
      (∀ b H' s', Inv Y [pa] σv H' s' → Q (.bl b) H' → EP X pnz σ Q (.bool b) s') → Q' (.ref pa.1) s5) :
    wpAny (model X.prog X.w) X.A (eval (.GeneratorExp elt [⟨tg, iter, ifs, 0⟩] scope gpos) X.env) Q' X.xe s := by
  have hfree : ∀ y ∈ scope.names, y.2 = .free → ∃ c, X.env.cells.lookup y.1 = some c := by
    intro y hyy e
    rcases G.blk.free y hyy e with k | k
    · exact I.ok.has _ (.inl k)
    · exact I.ok.has _ (.inr k)
  refine wpAny_GeneratorExp_make G.co (closure_ok hfree) G.nocell G.dot G.blk.kind (by have := rmA.dp; omega) ?_ G.fold
  refine thn (hii.run pnz s σ H _ I h) fun xv s1 atX => thn atX fun itv s2 h2 => ?_
  obtain ⟨it, fp, tn, J, H2, e, I2, T, st2, f2, ⟨ps, hP, htr⟩, q⟩ := h2
  subst e
  refine ⟨I2.nolimit, ?_⟩
  have hPs : s2.heap.get? P = some { cls := .none, data := .fields ps } := I2.hok P _ hP
  have TB := G.tab
  have cd : PySem.W.CodeHd s2.heap c P := TB.code.keeps fun b u e => I2.bk b u e
  -- the table stands, perhaps grown
  have cont : ∀ (code : Value) (h3 : Heap) (tk : Nat) (more : Array Value), Heap.ExtBut P s2.heap h3 → s2.heap.objs.size ≤ h3.objs.size →
      h3.get? P = some { cls := .none, data := .fields (ps ++ more) } → TriplesOk (ps ++ more).toList →
      wpAny (model X.prog X.w) X.A (builtinsFor X.env.globals X.env.builtins) (fun bi s₄ =>
        ∀ h', h'.Ns s₄.heap.objs.size (fun y => if y = ".0" then some (Value.ref it) else none) → Heap.SameBut s₄.heap.objs.size (s₄.heap.push { cls := .type "frame", data := .dict #[] }) h' →
          Q' (.ref h'.objs.size) { s₄ with
            gens := s₄.gens.push (.fresh (.compStart (.GeneratorExp elt [⟨tg, iter, ifs, 0⟩] scope gpos) 0 (.ref it) .none (genEnv scope (cloFrom X.env.cells scope.names []) s₄.heap.objs.size code bi X.env))),
            toks := s₄.toks + 1 + 1 + 1,
            heap := h'.push { cls := .type "generator", data := .fields #[.int s₄.gens.size 0, .str "<genexpr>" (s₄.toks + 1), .str (X.env.qual ++ "<genexpr>") (s₄.toks + 1 + 1)] } }) X.xe { s2 with heap := h3, toks := tk } := by
    intro code h3 tk more atX hsz hP3 ht3
    have keep3 : ∀ b u, b ≠ P → s2.heap.get? b = some u → h3.get? b = some u := fun b u hbb e => atX b u hbb e
    have I3 : Inv X pnz σ (upd H2 P (.tbl (ps ++ more))) { s2 with heap := h3, gens := s2.gens, drawn := s2.drawn, toks := tk } :=
      inv_tab I2 hP keep3 hP3 I2.bare
    generalize hs3 : ({ s2 with heap := h3, toks := tk } : Shared) = s3
    have I3 : Inv X pnz σ (upd H2 P (.tbl (ps ++ more))) s3 := by rw [← hs3]; exact I3
    have s3h : s3.heap = h3 := by rw [← hs3]
    have hT3 : Tabbed P H2 (upd H2 P (.tbl (ps ++ more))) := ⟨⟨ps ++ more, upd_same, ht3⟩, fun b hbb => upd_ne hbb⟩
    obtain ⟨W, ⟨m0, w0⟩, trn⟩ := q _ hT3
    generalize hH3 : upd H2 P (.tbl (ps ++ more)) = H3 at I3 w0 hT3
    obtain ⟨bm, ob, eq1, eq2, eq3, e4, e5, e6, e7, e8⟩ := TB.bm
    refine wpAny_builtinsFor (m := X.mg) (by rw [I3.ok.glob]; exact I3.mod.glob.keeps I3.bk) eq1 eq2 (I3.bk _ _ e5) e6 e7 e8 ?_
    intro h' hn' hs'
    have szh : h'.objs.size = s3.heap.objs.size + 1 := by rw [hs'.1, Heap.size_push]
    have keep' : ∀ b o, s3.heap.get? b = some o → h'.get? b = some o := fun b o e =>
      hs'.extBut b o (Nat.ne_of_lt (Heap.lt_size e)) (Heap.get?_push_of_some _ e)
    -- the iterator's objects
    have lt2 : ∀ b ∈ fp, b < s2.heap.objs.size := fun b hbb => by
      obtain ⟨o, e, _⟩ := T.obj _ _ st2 b hbb
      exact Heap.lt_size e
    have nP : ∀ b ∈ fp, b ≠ P := fun b hbb z => by
      have := (f2 b hbb).1
      rw [z, hP] at this; cases this
    have f3 : ∀ b ∈ fp, FpOk X pnz H3 b ∧ b < s3.heap.objs.size := fun b hbb => by
      refine ⟨⟨?_, (f2 b hbb).2⟩, ?_⟩
      · rw [← hH3, upd_ne (nP b hbb)]; exact (f2 b hbb).1
      · rw [s3h]; exact Nat.lt_of_lt_of_le (lt2 b hbb) hsz
    have st3 : tn 0 s3.heap := T.keep _ _ _ st2 fun b hbb o e => by rw [s3h]; exact keep3 b o (nP b hbb) e
    generalize hgo : ({ cls := .type "generator", data := .fields #[.int s3.gens.size 0, .str "<genexpr>" (s3.toks + 1), .str (X.env.qual ++ "<genexpr>") (s3.toks + 1 + 1)] } : Obj) = gob
    have keep5 : ∀ b o, s3.heap.get? b = some o → (h'.push gob).get? b = some o := fun b o e => Heap.get?_push_of_some _ (keep' b o e)
    generalize hce : genEnv scope (cloFrom X.env.cells scope.names []) s3.heap.objs.size code builtinsNs X.env = ce
    have ceq : gen0 X scope s3.heap.objs.size code = ce := hce
    have gobf : gob.isFreed = false := by rw [← hgo]; rfl
    let B := X.A.in1.in1.over (gcode elt tg iter ifs scope gpos it ce) []
    have rB : Room k B := room_gx rmA
    have frB : B.frames = some (ce :: X.stack) := by
      show pushEnvs (Code.envs (gcode elt tg iter ifs scope gpos it ce)) (pushEnvs [] X.A.frames) = _
      rw [I3.ok.frames]
      rfl
    have I5 : Inv (gcx X s3 H3 scope ce fp B) [] (wipe σ (own.map (·.2))) H3
        { s3 with heap := h'.push gob, gens := s3.gens.push (.fresh (.compStart (.GeneratorExp elt [⟨tg, iter, ifs, 0⟩] scope gpos) 0 (.ref it) .none ce)), drawn := s3.drawn, toks := s3.toks + 1 + 1 + 1 } := by
      rw [← ceq]
      refine gen_start I3 G.blk G.nd G.nocell f3 (by rw [ceq]; exact frB) (fun _ => rmA.hd) keep5 ⟨_, hn'.push _⟩ (I3.bare.push rfl)
    have I6 : Inv (gcx X s3 H3 scope ce fp B) [(h'.objs.size, gob)] (wipe σ (own.map (·.2))) H3
        { s3 with heap := h'.push gob, gens := s3.gens.push (.fresh (.compStart (.GeneratorExp elt [⟨tg, iter, ifs, 0⟩] scope gpos) 0 (.ref it) .none ce)), drawn := s3.drawn, toks := s3.toks + 1 + 1 + 1 } := by
      refine I5.pins_of fun p hpz => ?_
      rw [List.mem_singleton.mp hpz]
      refine ⟨Heap.get?_push_size _ gobf, I3.hok.fresh (by rw [szh]; exact Nat.le_succ _), ?_, fun z => ?_, fun v z => ?_⟩
      · show h'.objs.size ≠ ce.locals
        rw [← hce]
        show h'.objs.size ≠ s3.heap.objs.size
        exact Nat.ne_of_gt (by rw [szh]; exact Nat.lt_succ_self _)
      · have z : h'.objs.size ∈ frs X.stack := z
        obtain ⟨_, o, obj1, _⟩ := I3.stack.mem z
        exact absurd (Heap.lt_size obj1) (Nat.not_lt.mpr (by rw [szh]; exact Nat.le_succ _))
      · rw [← hgo] at z; cases z
    generalize hs5 : ({ s3 with heap := h'.push gob, gens := s3.gens.push (.fresh (.compStart (.GeneratorExp elt [⟨tg, iter, ifs, 0⟩] scope gpos) 0 (.ref it) .none ce)), drawn := s3.drawn, toks := s3.toks + 1 + 1 + 1 } : Shared) = s5 at I5 I6
    have s5h : s5.heap = h'.push gob := by rw [← hs5]
    have st5 : tn 0 s5.heap := T.keep _ _ _ st3 fun b _ o e => by rw [s5h]; exact keep5 b o e
    have hpa : ∀ b ∈ fp, (h'.objs.size, gob).1 ≠ b := fun b hbb z => by
      have h1 := (f3 b hbb).2
      have z : h'.objs.size = b := z
      rw [← z, szh] at h1
      exact absurd h1 (Nat.not_lt.mpr (Nat.le_succ _))
    have loop := seg_gx (Y := gcx X s3 H3 scope ce fp B) (pa := (h'.objs.size, gob)) (elt := elt) (tg := tg) (iter := iter) (ifs := ifs) (scope := scope) (pos := gpos) (it := it) (A := X.A.in1.in1)
      (Q := fun b H => Q (.bl b) H) (W := W) (go := go) (fp := fp) (tn := tn)
      rfl rfl rfl G.calm (by show ce.scope.isCoroutine = false; rw [← hce]; exact G.co) rfl hpa T
      (by rw [← ceq] at *; exact glb s3 H3 _ code fp _ rB) (by rw [← ceq] at *; exact isT s3 H3 _ code fp _ rB) (by rw [← ceq] at *; exact enm s3 H3 _ code fp _ rB) trn
    have hgen : ∃ nm qn, gob.cls = .type "generator" ∧ gob.data = .fields #[.int s3.gens.size 0, nm, qn] ∧ gob.slots = #[] :=
      ⟨_, _, by rw [← hgo], by rw [← hgo], by rw [← hgo]⟩
    have fin : Q' (.ref h'.objs.size) s5 := by
      refine kont (gcx X s3 H3 scope ce fp B) (h'.objs.size, gob) (wipe σ (own.map (·.2))) fp tn W s3.gens.size (m0 + 1) s5 rfl rfl
        hgen ⟨?_, I6.nolimit, I6.bare, ?_⟩ (fun b H' s' I' qq => ?_)
      · refine isgen_of hgen ?_
        rw [s5h]; exact Heap.get?_push_size _ gobf
      · refine ⟨.fresh (.compStart (.GeneratorExp elt [⟨tg, iter, ifs, 0⟩] scope gpos) 0 (.ref it) .none ce), ?_, fun s' z => ⟨rfl, ?_⟩⟩
        · rw [← hs5]
          exact Array.getElem?_push_size ..
        · -- compStart
          have lp := loop m0 (m0 + 1) 0 H3 s' s' (Nat.lt_succ_self _) (Inv.nap I6 z) (by rw [z.heap]; exact st5) (fun b hbb => (f3 b hbb).1.1) w0
          show Seg _ _ _ _ _ s' _ ((compStart (.GeneratorExp elt [⟨tg, iter, ifs, 0⟩] scope gpos) 0 (.ref it) .none ce).onRaise (leaving ce)) [] s'
          unfold compStart
          rw [Sem.onRaise_eq_wrap]
          show Seg _ _ _ _ _ s' _ ((ask >>= _).wrap _ _ _ _) [] s'
          refine seg_bind_wrap (wpAny_askSetting ?_)
          have stz : tn 0 s'.heap := by rw [z.heap]; exact st5
          split
          · exact seg_again rfl lp
          · refine seg_bind_wrap (wpAny_rule ?_)
            first
              | exact seg_bind_wrap (wpAny_standAt (seg_bind_wrap (T.self _ 0 s' _ _ stz (seg_again rfl lp))))
              | (show Seg _ _ _ _ _ s' _ ((standAt iter.pos >>= _).wrap _ _ _ _) [] s'
                 exact seg_bind_wrap (wpAny_standAt (seg_bind_wrap (T.self _ 0 s' _ _ stz (seg_again rfl lp)))))
      · have J : Inv X pnz σ H' s' := I3.call' (ch := fp) I'.os I'.base I'.hok I'.bare fun b hbb =>
          ⟨(f3 b hbb).1.2.2.2.1, (f3 b hbb).1.2.1, (f3 b hbb).1.2.2.2.2.1, (f3 b hbb).1.2.2.2.2.2⟩
        exact ⟨.bl b, H', J, rfl, qq⟩
    exact fin
  cases fpz : codeAmong gpos ps.toList with
  | none =>
    refine wpAny_genexprCodeX G.code (cd.code hPs htr) (cd.tab hPs) fpz fun c' h' tk atX hge hlt hco' _ htab' _ => ?_
    obtain ⟨o1, vs, f1, tf, fl, tg, inF, tx, tt, op, _, _, _, _, _, _, _, _, _, htr2, _⟩ := hco'
    exact cont _ h' tk _ atX (Nat.le_trans hge (Nat.le_of_lt hlt)) htab'.2 htr2
  | some cv =>
    refine wpAny_genexprCode_hit G.code (cd.code hPs htr) fpz ?_
    have := cont cv s2.heap s2.toks #[] (Heap.ExtBut.refl _ _) (Nat.le_refl _) (by simpa using hPs) (by simpa using htr)
    exact this
end
end GX

set_option Elab.async false
set_option linter.all false
set_option maxRecDepth 100000
set_option maxHeartbeats 4000000
namespace GX
open PySem PySem.Spec PyProof.Rows L2 GenW GxR

section
variable {X : Cx}

theorem pe_allG {c P : Addr} {elt tg iter : Expr} {ifs : List Expr} {p pos gpos : Pos} {scope : Scope} {own : List (Str × Nat)} {wi : TI} {g : TG} {tt : TT} {te : TE} {k : Nat}
    (rmA : Room (k + 1) X.A) (hgl : Gl X "all") (memb : X.mg "all" = none) (G : GenOk X c P scope own iter) (hii : PI X tg iter wi)
    (glb : ∀ s H C code fp B, Room k B → PG (gcx X s H scope (gen0 X scope C code) fp B) tg g)
    (isT : ∀ s H C code fp B, Room k B → PTs (gcx X s H scope (gen0 X scope C code) fp B) ifs tt)
    (enm : ∀ s H C code fp B, Room k B → PE (gcx X s H scope (gen0 X scope C code) fp B) elt te)
    (hse : starEach [.GeneratorExp elt [⟨tg, iter, ifs, 0⟩] scope gpos] X.env = (false, eval (.GeneratorExp elt [⟨tg, iter, ifs, 0⟩] scope gpos) X.env) :: starEach [] X.env := by rfl) :
    PE X (.Call (.Name "all" p) [.GeneratorExp elt [⟨tg, iter, ifs, 0⟩] scope gpos] [] pos) (tGx P true wi g tt te (own.map (·.2))) := by
  have hbb : bootBuiltins "all" = some (.builtin "all") := by decide +kernel
  refine ⟨fun pnz s σ H Q I h => ?_⟩
  refine wpAny_Call_Name_kw (ld_blt I hgl memb hbb ?_)
  refine PyProof.Rows.callWith_builtin1 ?_ hse (by rfl)
  rw [hse]
  show wpAny _ _ (spliced ((false, eval (.GeneratorExp elt [⟨tg, iter, ifs, 0⟩] scope gpos) X.env) :: backTo pos (starEach [] X.env))) _ _ s
  refine Calls.spliced_cons (make_gx rmA G hii glb isT enm I h fun Y pa σv fp tn W gi n s5 eq1 eq2 hgen z fin => ?_)
  refine Calls.spliced_nil ?_
  refine call_function_tree F.kind_all F.plain_all F.entry_all (F.args_all1 _) ?_
  unfold Builtin.«all»
  refine wpAny_bind (m := oneArg "all" _) (wpAny_pure ?_)
  refine wpAny_bind (wpAny_pyIter_gen z.gen ?_)
  refine wpAny_pure ⟨plainId_quiet F.plain_all_loop _, ?_⟩
  rw [← eq1, ← eq2]
  exact all_gx (A := X.A) (show X.A.handled = none from rmA.hd) rmA.depth hgen (fun b s' H' I' q => fin b H' s' I' q) n s5 z

theorem pe_anyG {c P : Addr} {elt tg iter : Expr} {ifs : List Expr} {p pos gpos : Pos} {scope : Scope} {own : List (Str × Nat)} {wi : TI} {g : TG} {tt : TT} {te : TE} {k : Nat}
    (rmA : Room (k + 1) X.A) (hgl : Gl X "any") (memb : X.mg "any" = none) (G : GenOk X c P scope own iter) (hii : PI X tg iter wi)
    (glb : ∀ s H C code fp B, Room k B → PG (gcx X s H scope (gen0 X scope C code) fp B) tg g)
    (isT : ∀ s H C code fp B, Room k B → PTs (gcx X s H scope (gen0 X scope C code) fp B) ifs tt)
    (enm : ∀ s H C code fp B, Room k B → PE (gcx X s H scope (gen0 X scope C code) fp B) elt te)
    (hse : starEach [.GeneratorExp elt [⟨tg, iter, ifs, 0⟩] scope gpos] X.env = (false, eval (.GeneratorExp elt [⟨tg, iter, ifs, 0⟩] scope gpos) X.env) :: starEach [] X.env := by rfl) :
    PE X (.Call (.Name "any" p) [.GeneratorExp elt [⟨tg, iter, ifs, 0⟩] scope gpos] [] pos) (tGx P false wi g tt te (own.map (·.2))) := by
  refine ⟨fun pnz s σ H Q I h => ?_⟩
  refine wpAny_Call_Name_kw (ld_blt I hgl memb boot_any ?_)
  refine PyProof.Rows.callWith_builtin1 ?_ hse (by rfl)
  rw [hse]
  show wpAny _ _ (spliced ((false, eval (.GeneratorExp elt [⟨tg, iter, ifs, 0⟩] scope gpos) X.env) :: backTo pos (starEach [] X.env))) _ _ s
  refine Calls.spliced_cons (make_gx rmA G hii glb isT enm I h fun Y pa σv fp tn W gi n s5 eq1 eq2 hgen z fin => ?_)
  refine Calls.spliced_nil ?_
  refine call_function_tree F.kind_any F.plain_any F.entry_any (F.args_any1 _) ?_
  unfold Builtin.«any»
  refine wpAny_bind (m := oneArg "any" _) (wpAny_pure ?_)
  refine wpAny_bind (wpAny_pyIter_gen z.gen ?_)
  refine wpAny_pure ⟨plainId_quiet F.plain_any_loop _, ?_⟩
  rw [← eq1, ← eq2]
  exact any_gx (A := X.A) (show X.A.handled = none from rmA.hd) rmA.depth hgen (fun b s' H' I' q => fin b H' s' I' q) n s5 z
end
end GX

set_option Elab.async false
set_option linter.all false
set_option maxRecDepth 100000
set_option maxHeartbeats 4000000
/-! sets of tuples of ints and texts -/
namespace TZ
open PySem PySem.Spec PyProof.Rows L2

abbrev tk (P : Program) (w : World) (k : List Key) : Int := tupleKeyHash (mixKind P w) k
abbrev Tup (P : Program) (w : World) (h : Heap) (k : List Key) (a : Addr) : Prop := IsTupleKey (mixKind P w) h k a

section
variable {P : Program} {w : World} {A : Around} {E : Value → Shared → Prop} {s : Shared}

theorem plain_items {k : List Key} {vs : List Value} (h : ItemsAre (mixKind P w) k vs) :
    ∀ v ∈ vs, (∃ i t, v = Value.int i t) ∨ ∃ x t, v = Value.str x t := by
  induction h with
  | nil => intro v vis; cases vis
  | @cons k0 u ks us h1 _ indh =>
    intro v vis
    rcases List.mem_cons.mp vis with e | vis
    · rcases keyIs_shape (show keyIs k0 u = true from h1) with ⟨i, t, _, q⟩ | ⟨x, t, _, q⟩
      · exact .inl ⟨i, t, e.trans q⟩
      · exact .inr ⟨x, t, e.trans q⟩
    · exact indh v vis

theorem noClass {v : Value} (h : (∃ i t, v = Value.int i t) ∨ ∃ x t, v = Value.str x t) (n : Nat) : ofAClassStatement n v = pure false := by
  rcases h with ⟨i, t, rfl⟩ | ⟨x, t, rfl⟩
  · cases n <;> rfl
  · cases n <;> rfl
theorem byVal {v : Value} (h : (∃ i t, v = Value.int i t) ∨ ∃ x t, v = Value.str x t) (n : Nat) : ∃ b, hashByValue n v = pure b := by
  rcases h with ⟨i, t, rfl⟩ | ⟨x, t, rfl⟩
  · exact ⟨true, by cases n <;> rfl⟩
  · exact ⟨false, by cases n <;> rfl⟩

theorem tupNoClass {k : List Key} {b : Addr} {Q : Bool → Shared → Prop} (kps : Tup P w s.heap k b) (q : Q false s) :
    wpAny (model P w) A (ofAClassStatement 8 (.ref b)) Q E s := by
  have ty := kps.typeIs
  obtain ⟨o, its, n, eo, _, ed, ei⟩ := kps
  unfold ofAClassStatement
  refine wpAny_bind (wpAny_typeOf ty ?_)
  dsimp only
  simp only [show (("tuple" : String) == "tuple") = true from by decide, if_true, Bool.not_true, Bool.false_eq_true, if_false]
  try refine wpAny_bind (wpAny_pure ?_)
  try simp only [Bool.not_true, Bool.false_eq_true, if_false]
  show wpAny _ _ (seqItems? (.ref b) >>= _) _ _ s
  refine wpAny_bind (wpAny_seqItems eo ed ?_)
  dsimp only
  refine wpAny_bind ?_
  show wpAny _ _ (forIn its _ _) _ _ s
  rw [← Array.forIn_toList]
  refine wpAny_forIn_list _ (fun rest r s' => r.1 = none ∧ s' = s ∧ ∀ v ∈ rest, (∃ i t, v = Value.int i t) ∨ ∃ x t, v = Value.str x t) _ ?_ ?_ _ _ ⟨rfl, rfl, plain_items ei⟩
  · rintro v rest r s' ⟨z, rfl, all⟩
    rw [noClass (all v List.mem_cons_self)]
    refine wpAny_bind (wpAny_pure ?_)
    simp only [Bool.false_eq_true, if_false]
    exact wpAny_pure ⟨rfl, rfl, fun u hu' => all u (List.mem_cons_of_mem _ hu')⟩
  · rintro ⟨r1, r2⟩ s' ⟨z, rfl, _⟩
    simp only at z
    subst z
    exact wpAny_pure q

theorem tupByVal {k : List Key} {b : Addr} {Q : Bool → Shared → Prop} (kps : Tup P w s.heap k b) (q : ∀ c, Q c s) :
    wpAny (model P w) A (hashByValue 8 (.ref b)) Q E s := by
  have ty := kps.typeIs
  obtain ⟨o, its, n, eo, _, ed, ei⟩ := kps
  unfold hashByValue
  refine wpAny_bind (wpAny_specialOf ty F.slot_tuple_hash.lookup ?_)
  show wpAny _ _ (seqItems? (.ref b) >>= _) _ _ s
  refine wpAny_bind (wpAny_seqItems eo ed ?_)
  refine wpAny_bind ?_
  show wpAny _ _ (forIn its _ _) _ _ s
  rw [← Array.forIn_toList]
  refine wpAny_forIn_list _ (fun rest r s' => r.1 = none ∧ s' = s ∧ ∀ v ∈ rest, (∃ i t, v = Value.int i t) ∨ ∃ x t, v = Value.str x t) _ ?_ ?_ _ _ ⟨rfl, rfl, plain_items ei⟩
  · rintro v rest r s' ⟨z, rfl, all⟩
    obtain ⟨b, eb⟩ := byVal (all v List.mem_cons_self) 7
    rw [eb]
    refine wpAny_bind (wpAny_pure ?_)
    cases b with
    | true =>
      simp only [Bool.not_true, Bool.false_eq_true, if_false]
      exact wpAny_pure ⟨rfl, rfl, fun u hu' => all u (List.mem_cons_of_mem _ hu')⟩
    | false =>
      simp only [Bool.not_false, if_true]
      exact wpAny_pure (wpAny_pure (q _))
  · rintro ⟨r1, r2⟩ s' ⟨z, rfl, _⟩
    simp only at z
    subst z
    exact wpAny_pure (q _)
end
end TZ

set_option Elab.async false
set_option linter.all false
set_option maxRecDepth 100000
set_option maxHeartbeats 4000000
namespace TZ
open PySem PySem.Spec PyProof.Rows L2

section
variable {P : Program} {w : World} {A : Around} {E : Value → Shared → Prop} {s : Shared}

theorem tupUnseen {k : List Key} {b : Addr} {Q : Bool → Shared → Prop} (kps : Tup P w s.heap k b) {ys : List Value}
    (hyy : ∀ y ∈ ys, ∃ k' c, y = Value.ref c ∧ Tup P w s.heap k' c) (q : Q false s) : wpAny (model P w) A (searchCouldBeSeen (.ref b) ys) Q E s := by
  unfold searchCouldBeSeen
  refine wpAny_bind ?_
  refine wpAny_forIn_list _ (fun rest r s' => r.1 = none ∧ s' = s ∧ ∀ y ∈ rest, ∃ k' c, y = Value.ref c ∧ Tup P w s.heap k' c) _ ?_ ?_ _ _ ⟨rfl, rfl, hyy⟩
  · rintro v rest r s' ⟨z, rfl, all⟩
    obtain ⟨k', c, rfl, cls1⟩ := all v List.mem_cons_self
    have more : ∀ y ∈ rest, ∃ k' c, y = Value.ref c ∧ Tup P w s'.heap k' c := fun u hu' => all u (List.mem_cons_of_mem _ hu')
    dsimp only
    by_cases vis : (b == c || (carriedByValue (.ref b) && carriedByValue (.ref c))) = true
    · exact wp_if_pos vis (wpAny_pure ⟨rfl, rfl, more⟩)
    · refine wp_if_neg vis (wpAny_bind (wpAny_eqIsQuiet_tuple kps ?_))
      simp only [Bool.not_true, Bool.false_eq_true, if_false]
      refine wpAny_bind (wpAny_eqIsQuiet_tuple cls1 ?_)
      simp only [Bool.not_true, Bool.false_eq_true, if_false]
      refine wpAny_bind (tupNoClass kps ?_)
      simp only [Bool.false_eq_true, if_false]
      refine wpAny_bind (tupNoClass cls1 ?_)
      simp only [Bool.false_eq_true, if_false]
      exact wpAny_pure ⟨rfl, rfl, more⟩
  · rintro ⟨r1, r2⟩ s' ⟨z, rfl, _⟩
    simp only at z
    subst z
    exact wpAny_pure q

/-- the set at a: its tuples (address, keys) as they lie -/
structure Lay (P : Program) (w : World) (h : Heap) (a : Addr) (L : List (Addr × List Key)) (es : Array (Int × Value)) (ep : Nat) (t : SetTable) : Prop where
  here : ∃ o, h.get? a = some o ∧ o.ExactSet ∧ o.data = .set es ep t
  rws : es.toList = L.map fun p => (tk P w p.2, Value.ref p.1)
  tbl : TabOk t (L.map fun p => tk P w p.2)
  apart : (L.map (·.2)).Nodup
  each : ∀ p ∈ L, Tup P w h p.2 p.1
  wide : L.length * 5 < t.mask * 3
  few : L.length ≤ 15

variable {a : Addr} {L : List (Addr × List Key)} {es : Array (Int × Value)} {ep : Nat} {t : SetTable}
theorem Lay.num (Z : Lay P w s.heap a L es ep t) : es.size = L.length := by
  have e := congrArg List.length Z.rws
  rwa [Array.length_toList, List.length_map] at e
theorem Lay.fit (Z : Lay P w s.heap a L es ep t) : t.fits es.size = true := by
  have h1 := Z.tbl.sz
  rw [List.length_map] at h1
  have h2 := Z.num
  have h3 := Z.wide
  unfold SetTable.fits SetTable.fill
  rw [Z.tbl.dm, Bool.and_eq_true, beq_iff_eq, decide_eq_true_eq]
  show t.place.size = es.size ∧ t.place.size + 0 ≤ t.mask
  omega
theorem Lay.at_ (Z : Lay P w s.heap a L es ep t) {i : Nat} {p : Addr × List Key} (h : L[i]? = some p) : es[i]? = some (tk P w p.2, Value.ref p.1) := by
  rw [← Array.getElem?_toList, Z.rws, List.getElem?_map, h]; rfl
theorem Lay.odd (Z : Lay P w s.heap a L es ep t) : ¬ t.gaveWay = true := by
  unfold SetTable.gaveWay
  rw [mask_odd Z.tbl.mok]
  decide

/-- the c-th look for the hash h -/
abbrev lk (t : SetTable) (h : Int) (c : Nat) : SetTable.Probe := nth t.mask (runAt t.mask (SetTable.bits h % (t.mask + 1)) (SetTable.bits h)) c
theorem lk_plain (t : SetTable) (h : Int) (c : Nat) : (lk t h c).dummy = none := by
  have key : ∀ (n : Nat) (p : SetTable.Probe), p.dummy = none → (nth t.mask p n).dummy = none := by
    intro n
    induction n with
    | zero => exact fun p h => h
    | succ n indh =>
      intro p h
      refine indh (adv t.mask p) ?_
      unfold adv
      split <;> exact h
  exact key c _ rfl
theorem lk_add (t : SetTable) (h : Int) (c q : Nat) : nth t.mask (lk t h c) q = lk t h (c + q) := (nth_add t.mask c _ q).symm

theorem look_from (Z : Lay P w s.heap a L es ep t) {x : Addr} {k : List Key} (atX : Tup P w s.heap k x) (atU : A.units < cLine) {K : Nat}
    (hKf : K < 10 * SetTable.turns t.mask) (hK : way t.mask (tk P w k) K ∉ t.place.toList) (hKb : ∀ c, c < K → way t.mask (tk P w k) c ∈ t.place.toList)
    {Q : SetFound → Shared → Prop} (yes : k ∈ L.map (·.2) → Q (.there none) s) (no : k ∉ L.map (·.2) → Q (.free (way t.mask (tk P w k) K) false) s) :
    ∀ (f c : Nat) (stand : Option SetTable.Probe), stand.getD (t.probeStart (tk P w k)) = lk t (tk P w k) c → c ≤ K → K - c < f →
      (∀ (i : Nat) p, L[i]? = some p → p.2 = k → ∃ c', c ≤ c' ∧ c' < K ∧ t.place.toList[i]? = some (way t.mask (tk P w k) c')) →
      wpAny (model P w) A (setSearchFrom a (.ref x) (tk P w k) true f stand) Q E s := by
  intro f
  induction f with
  | zero => exact fun c stand _ _ z _ => absurd z (Nat.not_lt_zero _)
  | succ f again =>
    intro c stand hst cls1 fpz hre
    obtain ⟨o, obj1, hex, dat1⟩ := Z.here
    rw [setSearchFrom_succ]
    refine wpAny_bind (wpAny_setState_of obj1 dat1 Z.fit ?_)
    dsimp only
    refine wp_if_neg Z.odd ?_
    try refine wpAny_bind (wpAny_pure ?_)
    have wj : ∀ q, (nth t.mask (lk t (tk P w k) c) q).j = way t.mask (tk P w k) (c + q) := fun q => congrArg SetTable.Probe.j (lk_add t (tk P w k) c q)
    have hAt : ∀ (i : Nat) p, L[i]? = some p → (fun i => (es[i]?.map (·.1)).getD 0) i = tk P w p.2 := fun i p hpz => by
      show (es[i]?.map (·.1)).getD 0 = _
      rw [Z.at_ hpz]; rfl
    rcases go_spec t Z.tbl.ris Z.tbl.dm (fun i => (es[i]?.map (·.1)).getD 0) (tk P w k) (10 * SetTable.turns t.mask) (K - c) (lk t (tk P w k) c) (lk_plain t _ c) (by omega)
      (fun q sqA => by rw [wj]; exact hKb (c + q) (by omega)) (by rw [wj, show c + (K - c) = K by omega]; exact hK) with ⟨q, i, sqA, hii, hh, hno, hpr⟩ | ⟨hno, hpr⟩
    · have pr : t.probe (fun i => (es[i]?.map (·.1)).getD 0) (tk P w k) (stand.getD (t.probeStart (tk P w k))) = some (.candidate (way t.mask (tk P w k) (c + q)) i (lk t (tk P w k) (c + (q + 1)))) := by
        rw [hst, ← wj, ← lk_add]
        exact hpr
      rw [pr]
      dsimp only
      rw [wj] at hii
      have ltI : i < L.length := by
        have h1 := (List.getElem?_eq_some_iff.mp hii).1
        have h2 := Z.tbl.sz
        rw [List.length_map] at h2
        rw [Array.length_toList] at h1
        omega
      obtain ⟨p, hpz⟩ : ∃ p, L[i]? = some p := ⟨_, List.getElem?_eq_getElem ltI⟩
      have pL : p ∈ L := List.mem_of_getElem? hpz
      have pT := Z.each p pL
      have rest : wpAny (model P w) A (searchRest a (.ref x) (tk P w k) true f es t (way t.mask (tk P w k) (c + q)) i (lk t (tk P w k) (c + (q + 1)))) Q E s := by
        unfold searchRest
        rw [Z.at_ hpz]
        dsimp only
        refine wpAny_bind (wpAny_holding (wpAny_eqBool_tuple atU pT atX ?_))
        refine wpAny_bind (wpAny_setState_of obj1 dat1 Z.fit ?_)
        dsimp only
        by_cases hkk : p.2 = k
        · exact wp_if_pos (by simp [hkk]) (wpAny_pure (yes (List.mem_map.mpr ⟨p, pL, hkk⟩)))
        · refine wp_if_neg (by simp [hkk]) ?_
          try refine wpAny_bind (wpAny_pure ?_)
          rw [sameMem]
          dsimp only
          have live : t.slot (way t.mask (tk P w k) (c + q)) = .live i := slot_live Z.tbl.ris hii
          simp only [if_true, live, Z.at_ hpz]
          refine wpAny_bind (wpAny_isSame_ref_self (wpAny_bind (wpAny_pure ?_)))
          simp only [if_true]
          refine wp_if_neg (by simp [hkk]) ?_
          refine again (c + (q + 1)) _ rfl (by omega) (by omega) fun i0 p0 h0 k0 => ?_
          obtain ⟨c', a1, a2, a3⟩ := hre i0 p0 h0 k0
          refine ⟨c', ?_, a2, a3⟩
          have n1 : ¬ c' < c + q := fun z => hno (c' - c) i0 (by omega) (by rw [wj, show c + (c' - c) = c' by omega]; exact a3) ((hAt i0 p0 h0).trans (congrArg (tk P w) k0))
          have n2 : c' ≠ c + q := fun z => by
            rw [z] at a3
            have s0 := slot_live Z.tbl.ris a3
            rw [live] at s0
            injection s0 with s0
            rw [← s0, hpz] at h0
            exact hkk ((congrArg Prod.snd (Option.some.inj h0)).trans k0)
          omega
      by_cases lnE : t.led = true
      · refine wp_if_neg (by simp [lnE]) ?_
        try refine wpAny_bind (wpAny_pure ?_)
        exact rest
      · refine wp_if_pos (by simp [lnE]) ?_
        refine wpAny_bind (tupUnseen atX (fun y hyy => ?_) ?_)
        · obtain ⟨e, enm, ee⟩ := List.mem_map.mp hyy
          have he2 : e ∈ es.toList := by
            have z : e ∈ es ∧ e.1 = tk P w k := by simpa using enm
            simpa using z.1
          rw [Z.rws] at he2
          obtain ⟨p2, hp2, eq2⟩ := List.mem_map.mp he2
          exact ⟨p2.2, p2.1, by rw [← ee, ← eq2], Z.each p2 hp2⟩
        · refine wp_if_neg (by decide) ?_
          try refine wpAny_bind (wpAny_pure ?_)
          exact rest
    · have pr : t.probe (fun i => (es[i]?.map (·.1)).getD 0) (tk P w k) (stand.getD (t.probeStart (tk P w k))) = some (.empty (way t.mask (tk P w k) K) none) := by
        have eq2 : way t.mask (tk P w k) K = (nth t.mask (lk t (tk P w k) c) (K - c)).j := by
          rw [wj, show c + (K - c) = K by omega]
        rw [hst, eq2]
        exact hpr
      rw [pr]
      dsimp only
      refine wpAny_pure (no fun memb => ?_)
      obtain ⟨p0, h0, k0⟩ := List.mem_map.mp memb
      obtain ⟨i0, hi0, e0⟩ := List.getElem_of_mem h0
      have h00 : L[i0]? = some p0 := by rw [List.getElem?_eq_getElem hi0, e0]
      obtain ⟨c', a1, a2, a3⟩ := hre i0 p0 h00 k0
      exact hno (c' - c) i0 (by omega) (by rw [wj, show c + (c' - c) = c' by omega]; exact a3) ((hAt i0 p0 h00).trans (congrArg (tk P w) k0))

theorem look (Z : Lay P w s.heap a L es ep t) {x : Addr} {k : List Key} (atX : Tup P w s.heap k x) (atU : A.units < cLine) {Q : SetFound → Shared → Prop}
    (yes : k ∈ L.map (·.2) → Q (.there none) s)
    (no : ∀ K, k ∉ L.map (·.2) → way t.mask (tk P w k) K ∉ t.place.toList → (∀ c, c < K → way t.mask (tk P w k) c ∈ t.place.toList) → Q (.free (way t.mask (tk P w k) K) false) s) :
    wpAny (model P w) A (setSearch a (.ref x) (tk P w k) true) Q E s := by
  have hww := Z.wide
  obtain ⟨K, hKf, hK, hKb⟩ := Z.tbl.first (by rw [List.length_map]; omega) (tk P w k)
  have big : K < 100000 := by
    have : 10 * SetTable.turns t.mask ≤ 1420 := by
      unfold SetTable.turns
      rcases Z.tbl.mok with e | e | e <;> omega
    omega
  unfold setSearch
  refine look_from Z atX atU hKf hK hKb yes (fun nsA => no K nsA hK hKb) 100000 0 none rfl (Nat.zero_le _) (by omega) fun i p hpz kps => ?_
  have hii : (L.map fun p => tk P w p.2)[i]? = some (tk P w k) := by rw [List.getElem?_map, hpz, ← kps]; rfl
  have ltI : i < t.place.toList.length := by
    have h1 := (List.getElem?_eq_some_iff.mp hpz).1
    have h2 := Z.tbl.sz
    rw [List.length_map] at h2
    rw [Array.length_toList]
    omega
  have atJ := List.getElem?_eq_getElem ltI
  obtain ⟨c, cls1, e⟩ := Z.tbl.before hK hii atJ
  exact ⟨c, Nat.zero_le _, cls1, by rw [atJ, e]⟩
end
end TZ

set_option Elab.async false
set_option linter.all false
set_option maxRecDepth 100000
set_option maxHeartbeats 4000000
namespace TZ
open PySem PySem.Spec PyProof.Rows L2

section
variable {P : Program} {w : World} {A : Around} {E : Value → Shared → Prop} {s : Shared}

theorem tup_past {h h' : Heap} {k : List Key} {a b : Addr} {o : Obj} {es : Array (Int × Value)} {ep : Nat} {t : SetTable}
    (hbb : Tup P w h k b) (obj1 : h.get? a = some o) (dat1 : o.data = .set es ep t) (sbt : Heap.SameBut a h h') : Tup P w h' k b := by
  obtain ⟨o', its, n, e, c, d, i⟩ := hbb
  have ne : b ≠ a := by
    rintro rfl
    rw [obj1] at e
    cases e
    rw [dat1] at d
    cases d
  exact ⟨o', its, n, (sbt.2 b ne).trans e, c, d, i⟩

theorem mid_perm {α : Type} (L : List α) (p : Nat) (x : α) : (L.take p ++ x :: L.drop p).Perm (x :: L) := by
  have z : (L.take p ++ x :: L.drop p).Perm (x :: (L.take p ++ L.drop p)) := List.perm_middle
  rwa [List.take_append_drop] at z

theorem pick_all {α : Type} (l : List α) : (List.range l.length).filterMap (fun i => l[i]?) = l := by
  have key : ∀ n, n ≤ l.length → (List.range n).filterMap (fun i => l[i]?) = l.take n := by
    intro n
    induction n with
    | zero => intro _; rfl
    | succ n indh =>
      intro nsA
      have hn' : n < l.length := nsA
      rw [List.range_succ, List.filterMap_append, indh (Nat.le_of_lt nsA), List.take_succ, List.getElem?_eq_getElem hn']
      rw [List.filterMap_cons_some (List.getElem?_eq_getElem hn')]
      rfl
  rw [key l.length (Nat.le_refl _), List.take_length]

/-- a table's rows put in another order -/
theorem reorder {α : Type} (L : List α) (g : α → Int × Value) (es : Array (Int × Value)) (order : Array Nat) (rmA : es.toList = L.map g) (hpz : order.toList.Perm (List.range L.length)) :
    ∃ L2 : List α, (order.filterMap (es[·]?)).toList = L2.map g ∧ L2.Perm L ∧ (L2.map fun p => (g p).1) = order.toList.map fun i => (es.map (·.1)).getD i 0 := by
  have ent : ∀ i (h : i < L.length), es[i]? = some (g L[i]) := fun i h => by
    rw [← Array.getElem?_toList, rmA, List.getElem?_map, List.getElem?_eq_getElem h]; rfl
  have esz : es.size = L.length := by
    have e := congrArg List.length rmA
    rwa [Array.length_toList, List.length_map] at e
  refine ⟨order.toList.filterMap fun i => L[i]?, ?_, ?_, ?_⟩
  · rw [Array.toList_filterMap]
    have : ∀ l : List Nat, (∀ i ∈ l, i < L.length) → l.filterMap (fun i => es[i]?) = (l.filterMap fun i => L[i]?).map g := by
      intro l
      induction l with
      | nil => intro _; rfl
      | cons i l indh =>
        intro lnE
        have hii := lnE i List.mem_cons_self
        rw [List.filterMap_cons_some (ent i hii), List.filterMap_cons_some (List.getElem?_eq_getElem hii), List.map_cons, indh fun j atJ => lnE j (List.mem_cons_of_mem _ atJ)]
    exact this _ fun i hii => List.mem_range.mp (hpz.mem_iff.mp hii)
  · have z : (order.toList.filterMap fun i => L[i]?).Perm ((List.range L.length).filterMap fun i => L[i]?) := hpz.filterMap _
    rwa [pick_all] at z
  · have : ∀ l : List Nat, (∀ i ∈ l, i < L.length) → ((l.filterMap fun i => L[i]?).map fun p => (g p).1) = l.map fun i => (es.map (·.1)).getD i 0 := by
      intro l
      induction l with
      | nil => intro _; rfl
      | cons i l indh =>
        intro lnE
        have hii := lnE i List.mem_cons_self
        rw [List.filterMap_cons_some (List.getElem?_eq_getElem hii), List.map_cons, List.map_cons, indh fun j atJ => lnE j (List.mem_cons_of_mem _ atJ)]
        have e5 : (es.map (·.1))[i]? = some (g L[i]).1 := by rw [Array.getElem?_map, ent i hii]; rfl
        have e4 : (es.map (·.1)).getD i 0 = (g L[i]).1 := by simp [Array.getD_eq_getD_getElem?, e5]
        rw [e4]
    exact this _ fun i hii => List.mem_range.mp (hpz.mem_iff.mp hii)

variable {a : Addr} {L : List (Addr × List Key)} {es : Array (Int × Value)} {ep : Nat} {t : SetTable}

theorem relay31 {o : Obj} (obj1 : s.heap.get? a = some o) (hex : o.ExactSet) (dat1 : o.data = .set es ep t) (hrows : es.toList = L.map fun p => (tk P w p.2, Value.ref p.1))
    (hpl : t.place.size = es.size) (hdm : t.dummies = #[]) (hfl : es.size ≤ t.mask) (nd : (L.map (·.2)).Nodup) (tup : ∀ p ∈ L, Tup P w s.heap p.2 p.1) (few : L.length ≤ 15)
    {wanted : Nat} (hww : SetTable.sizeAbove wanted = 32) {Q : Unit → Shared → Prop}
    (kont : ∀ h' L' es' ep' t', Heap.SameBut a s.heap h' → Lay P w h' a L' es' ep' t' → L'.Perm L → Q () { s with heap := h' }) : wpAny (model P w) A (setRelay a wanted) Q E s := by
  have hsl : es.size = L.length := by
    have e := congrArg List.length hrows
    rwa [Array.length_toList, List.length_map] at e
  have fits : t.fits es.size = true := by
    unfold SetTable.fits SetTable.fill
    rw [hdm, Bool.and_eq_true, beq_iff_eq, decide_eq_true_eq]
    show t.place.size = es.size ∧ t.place.size + 0 ≤ t.mask
    omega
  obtain ⟨t', order, e, hpz, T, em, el, epl, ed⟩ := relaid_ok t (hs := es.map (·.1)) (wanted := wanted) (M := 31) (by rw [hww]) (.inr (.inl rfl)) (by rw [Array.size_map, hsl]; omega)
  rw [Array.size_map, hsl] at hpz
  obtain ⟨L2, r1, r2, r3⟩ := reorder L (fun p => (tk P w p.2, Value.ref p.1)) es order hrows hpz
  rw [← r3] at T
  have hs2 : (order.filterMap (es[·]?)).size = es.size := by
    have z := congrArg List.length r1
    rw [Array.length_toList, List.length_map, r2.length_eq] at z
    rw [z, hsl]
  rw [setRelay_eq]
  refine wpAny_bind (wpAny_setState_of obj1 dat1 fits ?_)
  dsimp only
  refine wp_if_neg (by rw [hww, sizeLine_eq]; decide) ?_
  try refine wpAny_bind (wpAny_pure ?_)
  rw [e]
  dsimp only
  refine wpAny_bind ?_
  refine wp_if_neg (by rw [hs2]; simp) ?_
  try refine wpAny_bind (wpAny_pure ?_)
  refine wpAny_pure ?_
  dsimp only
  refine wpAny_storeSet_of obj1 dat1 ?_ (by rw [hs2, hsl, sizeLine_eq]; omega)
  have sbt : Heap.SameBut a s.heap (s.heap.update a (Obj.putSet (order.filterMap (es[·]?)) t')) := Heap.SameBut.update ..
  refine kont _ L2 (order.filterMap (es[·]?)) (ep + 1) t' sbt ?_ r2
  exact
    { here := ⟨_, store_at obj1 dat1, ⟨hex.1, hex.2.1, hex.2.2⟩, rfl⟩
      rws := r1
      tbl := T
      apart := (r2.map (·.2)).nodup_iff.mpr nd
      each := fun p hpm => tup_past (tup p (r2.mem_iff.mp hpm)) obj1 dat1 sbt
      wide := by rw [r2.length_eq, em]; omega
      few := by rw [r2.length_eq]; exact few }

theorem putIn (Z : Lay P w s.heap a L es ep t) {x : Addr} {k : List Key} (atX : Tup P w s.heap k x) (atU : A.units < cLine) (hfew : L.length + 1 ≤ 15) {Q : Bool → Shared → Prop}
    (kont : ∀ b h' L' es' ep' t', Heap.SameBut a s.heap h' → Lay P w h' a L' es' ep' t' → (k ∈ L.map (·.2) → L' = L) → (k ∉ L.map (·.2) → L'.Perm ((x, k) :: L)) → Q b { s with heap := h' }) :
    wpAny (model P w) A (setAddHashed a (.ref x) (tk P w k)) Q E s := by
  obtain ⟨o, obj1, hex, dat1⟩ := Z.here
  have hsl := Z.num
  have hwide := Z.wide
  unfold setAddHashed
  refine wpAny_holding ?_
  rw [show (100000 : Nat) = 99999 + 1 from rfl, setAddHashedIn_succ]
  refine wpAny_bind (wpAny_setState_of obj1 dat1 Z.fit ?_)
  dsimp only
  refine wp_if_neg (by simp [byScan, Value.scannable]) ?_
  try refine wpAny_bind (wpAny_pure ?_)
  refine wpAny_bind (look Z atX atU (fun memb => ?_) fun K memb hK hbb => ?_)
  · dsimp only
    exact wpAny_pure (kont false s.heap L es ep t (Heap.SameBut.refl a s.heap) Z (fun _ => rfl) fun z => absurd memb z)
  · dsimp only
    refine wpAny_bind (wpAny_setState_of obj1 dat1 Z.fit ?_)
    dsimp only
    obtain ⟨pq1, pq2, q3, q4, q5, q6, q7, q8, q9⟩ := Z.tbl.put hK hbb
    generalize hpt : t.put (way t.mask (tk P w k) K) = pt at pq1 q3 q4 q5 q6 q7 q8 q9 ⊢
    obtain ⟨t1, p⟩ := pt
    dsimp only at pq1 q3 q4 q5 q6 q7 q8 q9 ⊢
    subst pq1
    generalize hpp : SetTable.below t.place (way t.mask (tk P w k) K) = p at pq2 q3 ⊢
    have pm := mid_perm L p (x, k)
    have hlen : (L.take p ++ (x, k) :: L.drop p).length = L.length + 1 := pm.length_eq
    have hin : (SetTable.insertAt es p (tk P w k, Value.ref x)).toList = (L.take p ++ (x, k) :: L.drop p).map fun p => (tk P w p.2, Value.ref p.1) := by
      rw [SetTable.toList_insertAt, Z.rws, List.map_append, List.map_cons, List.map_take, List.map_drop]
    have hhs : (L.take p ++ (x, k) :: L.drop p).map (fun p => tk P w p.2) = (L.map fun p => tk P w p.2).take p ++ tk P w k :: (L.map fun p => tk P w p.2).drop p := by
      rw [List.map_append, List.map_cons, List.map_take, List.map_drop]
    rw [← hhs] at q3
    have nd1 : ((L.take p ++ (x, k) :: L.drop p).map (·.2)).Nodup := by
      refine (pm.map (·.2)).nodup_iff.mpr ?_
      rw [List.map_cons]
      exact List.nodup_cons.mpr ⟨memb, Z.apart⟩
    have hes : (SetTable.insertAt es p (tk P w k, Value.ref x)).size = L.length + 1 := by
      have z := congrArg List.length hin
      rwa [Array.length_toList, List.length_map, hlen] at z
    generalize SetTable.insertAt es p (tk P w k, Value.ref x) = es1 at hin hes ⊢
    generalize L.take p ++ (x, k) :: L.drop p = L1 at pm hlen q3 nd1 hin
    -- whatever the table's mark says
    have step : ∀ t2 : SetTable, t2.place = t1.place → t2.dummies = t1.dummies → t2.mask = t1.mask →
        wpAny (model P w) A (do
          storeSet a es1 t2
          if !false && t2.tooFull then setRelay a (SetTable.grown (es.size + 1))
          return true) Q E s := by
      intro t2 eq1 eq2 eq3
      have T2 : TabOk t2 (L1.map fun p => tk P w p.2) := by
        obtain ⟨z1, z2, z3, z4, z5, z6⟩ := q3
        refine ⟨by rw [eq1]; exact z1, by rw [eq2]; exact z2, by rw [eq1]; exact z3, by rw [eq3]; exact z4, by rw [eq1, eq3]; exact z5, fun i h j hii atJ => ?_⟩
        rw [eq3]
        rw [eq1] at atJ ⊢
        exact z6 i h j hii atJ
      have fill2 : t2.fill = L.length + 1 := by
        unfold SetTable.fill at q9 ⊢
        rw [eq1, eq2, q9, List.length_map]
      refine wpAny_bind (wpAny_storeSet_of obj1 dat1 ?_ (by rw [hes, sizeLine_eq]; omega))
      have sbt : Heap.SameBut a s.heap (s.heap.update a (Obj.putSet es1 t2)) := Heap.SameBut.update ..
      have ho1 := store_at (es' := es1) (t' := t2) obj1 dat1
      generalize s.heap.update a (Obj.putSet es1 t2) = h1 at sbt ho1 ⊢
      have tup1 : ∀ p ∈ L1, Tup P w h1 p.2 p.1 := fun p hpz => by
        rcases List.mem_cons.mp (pm.mem_iff.mp hpz) with e | hpz
        · rw [e]; exact tup_past atX obj1 dat1 sbt
        · exact tup_past (Z.each p hpz) obj1 dat1 sbt
      have hm2 : t2.mask = t.mask := eq3.trans q4
      by_cases fpz : t2.tooFull = true
      · have full : (L.length + 1) * 5 ≥ t.mask * 3 := by
          have z := fpz
          unfold SetTable.tooFull at z
          rw [decide_eq_true_eq, fill2, hm2] at z
          exact z
        have m7 : t.mask = 7 ∧ L.length = 4 := by
          rcases Z.tbl.mok with e | e | e
          · rw [e] at full hwide; exact ⟨e, by omega⟩
          · exfalso; rw [e] at full; omega
          · exfalso; rw [e] at full; omega
        have psz : t2.place.size = es1.size := by
          have z := T2.sz
          rw [List.length_map, hlen] at z
          rw [z, hes]
        have go : wpAny (model P w) A (setRelay a (SetTable.grown (es.size + 1))) (fun _ s' => wpAny (model P w) A (pure true) Q E s') E { s with heap := h1 } := by
          refine relay31 (s := { s with heap := h1 }) ho1 ⟨hex.1, hex.2.1, hex.2.2⟩ rfl hin psz T2.dm (by rw [hes, hm2]; omega) nd1 tup1 (by rw [hlen]; exact hfew) (by rw [hsl, m7.2]; exact size_20) ?_
          intro h2 L2 es2 ep2 t3 sb2 Z2 pm2
          exact wpAny_pure (kont true h2 L2 es2 ep2 t3 (sbt.trans sb2) Z2 (fun z => absurd z memb) fun _ => pm2.trans pm)
        first
          | exact wpAny_bind (wp_if_pos (by simp [fpz]) go)
          | exact wp_if_pos (by simp [fpz]) (wpAny_bind go)
      · have slim : ¬ ((L.length + 1) * 5 ≥ t.mask * 3) := by
          have z := fpz
          unfold SetTable.tooFull at z
          rw [decide_eq_true_eq, fill2, hm2] at z
          exact z
        have res : wpAny (model P w) A (pure true) Q E { s with heap := h1 } :=
          wpAny_pure (kont true h1 L1 es1 (ep + 1) t2 sbt
            { here := ⟨_, ho1, ⟨hex.1, hex.2.1, hex.2.2⟩, rfl⟩, rws := hin, tbl := T2, apart := nd1, each := tup1, wide := by rw [hlen, hm2]; omega, few := by rw [hlen]; exact hfew }
            (fun z => absurd z memb) fun _ => pm)
        first
          | exact wp_if_neg (by simp [fpz]) res
          | exact wpAny_bind (wp_if_neg (by simp [fpz]) (wpAny_pure res))
    by_cases hp1 : t1.plain = true
    · first
        | (refine wpAny_bind ?_; refine wp_if_pos hp1 ?_; refine tupByVal atX fun c => ?_)
        | refine wp_if_pos hp1 (wpAny_bind (tupByVal atX fun c => ?_))
      cases c with
      | true => exact step t1 rfl rfl rfl
      | false => exact step { t1 with plain := false } rfl rfl rfl
    · first
        | (refine wpAny_bind ?_; refine wp_if_neg hp1 ?_; refine wpAny_pure ?_)
        | refine wp_if_neg hp1 (wpAny_bind (wpAny_pure ?_))
      exact step t1 rfl rfl rfl
end
end TZ

set_option Elab.async false
set_option linter.all false
set_option maxRecDepth 100000
set_option maxHeartbeats 8000000
namespace TZ
open PySem PySem.Spec PyProof.Rows L2

/-- what has come of the first i items -/
structure Has (ks : List (Addr × List Key)) (i : Nat) (L : List (Addr × List Key)) : Prop where
  back : ∀ p ∈ L, p ∈ ks.take i
  all : ∀ p ∈ ks.take i, p.2 ∈ L.map (·.2)
  most : L.length ≤ i
theorem take_one {α : Type} {l : List α} {i : Nat} {x : α} (h : l[i]? = some x) : l.take (i + 1) = l.take i ++ [x] := by
  rw [List.take_succ, h]; rfl
theorem Has.same {ks L : List (Addr × List Key)} {i : Nat} {x : Addr × List Key} (g : Has ks i L) (h : ks[i]? = some x) (memb : x.2 ∈ L.map (·.2)) : Has ks (i + 1) L := by
  refine ⟨fun p hpz => ?_, fun p hpz => ?_, Nat.le_succ_of_le g.most⟩
  · rw [take_one h]; exact List.mem_append_left _ (g.back p hpz)
  · rw [take_one h] at hpz
    rcases List.mem_append.mp hpz with z | z
    · exact g.all p z
    · rw [List.mem_singleton.mp z]; exact memb
theorem Has.more {ks L L' : List (Addr × List Key)} {i : Nat} {x : Addr × List Key} (g : Has ks i L) (h : ks[i]? = some x) (pm : L'.Perm (x :: L)) : Has ks (i + 1) L' := by
  refine ⟨fun p hpz => ?_, fun p hpz => ?_, by rw [pm.length_eq]; exact Nat.succ_le_succ g.most⟩
  · rw [take_one h]
    rcases List.mem_cons.mp (pm.mem_iff.mp hpz) with e | z
    · rw [e]; exact List.mem_append_right _ (List.mem_singleton.mpr rfl)
    · exact List.mem_append_left _ (g.back p z)
  · rw [(pm.map (·.2)).mem_iff, List.map_cons]
    rw [take_one h] at hpz
    rcases List.mem_append.mp hpz with z | z
    · exact List.mem_cons_of_mem _ (g.all p z)
    · rw [List.mem_singleton.mp z]; exact List.mem_cons_self

section
variable {P : Program} {w : World} {A : Around} {E : Value → Shared → Prop} {s : Shared}
theorem tup_keep {h h' : Heap} {k : List Key} {b : Addr} (x : Tup P w h k b) (kps : ∀ c o, h.get? c = some o → h'.get? c = some o) : Tup P w h' k b := by
  obtain ⟨o, its, n, obj1, r⟩ := x
  exact ⟨o, its, n, kps b o obj1, r⟩
theorem Lay.keep {h h' : Heap} {a : Addr} {L : List (Addr × List Key)} {es : Array (Int × Value)} {ep : Nat} {t : SetTable} (Z : Lay P w h a L es ep t)
    (ha : ∀ o, h.get? a = some o → h'.get? a = some o) (isT : ∀ p ∈ L, Tup P w h' p.2 p.1) : Lay P w h' a L es ep t :=
  { Z with here := let ⟨o, obj1, r⟩ := Z.here; ⟨o, ha o obj1, r⟩, each := isT }
abbrev set0 (w : World) : Obj := { cls := .type "set", dict := none, data := .set #[] 0 (.fresh 0 0 (!w.params.followText "set-order")) }
theorem lay_new {h : Heap} {a : Addr} (obj1 : h.get? a = some (set0 w)) : Lay P w h a [] #[] 0 (.fresh 0 0 (!w.params.followText "set-order")) where
  here := ⟨_, obj1, ⟨rfl, rfl, rfl⟩, rfl⟩
  rws := rfl
  tbl := ⟨List.Pairwise.nil, rfl, rfl, .inl rfl, fun x atX => (by cases atX), fun i h j hii => (by simp at hii)⟩
  apart := List.nodup_nil
  each := fun p hpz => (by cases hpz)
  wide := by show 0 * 5 < 7 * 3; decide
  few := Nat.zero_le _

/-- the loop that fills -/
theorem fill_loop {I : Addr} {fp wr : List Addr} {G : Array GenState → Array GenState → Prop} {n : Nat} {Pv : Nat → Value → Prop} {St : Nat → Shared → Prop} {R : Result → Shared → Prop}
    (W : WalksS P w A.in1 I fp wr G n Pv St) (S : Addr) (hSf : S ∉ fp) (ks : List (Addr × List Key)) (nsA : n = ks.length) (hfew : ks.length ≤ 15)
    (hval : ∀ i v, Pv i v → ∃ p, ks[i]? = some p ∧ v = .ref p.1) (h0 : Heap) (kps : ∀ p ∈ ks, Tup P w h0 p.2 p.1) (hS0 : h0.get? S = none) (hw0 : ∀ b ∈ wr, h0.get? b = none) (atU : A.in1.units < cLine) :
    ∀ (d i : Nat) (s : Shared), n - i = d → i ≤ n → St i s → (∀ b o, h0.get? b = some o → s.heap.get? b = some o) → (∃ L es ep t, Lay P w s.heap S L es ep t ∧ Has ks i L) →
      (∀ s' L es ep t, Moved (S :: wr) G s s' → Lay P w s'.heap S L es ep t → Has ks n L → (∀ b o, h0.get? b = some o → s'.heap.get? b = some o) → R (.ok (.ret .none)) s') →
      codeAny (model P w) A (.builtin "set.update.loop" ⟨[.ref S, .ref I], []⟩) R s := by
  have hSw : S ∉ wr := fun h => hSf (W.sub _ h)
  have sub1 : ∀ b ∈ wr, b ∈ S :: wr := fun b hbb => List.mem_cons_of_mem _ hbb
  have carry : ∀ {s s' : Shared}, Moved wr G s s' → (∀ b o, h0.get? b = some o → s.heap.get? b = some o) → ∀ b o, h0.get? b = some o → s'.heap.get? b = some o := by
    intro s s' memb hkp b o e
    exact memb.heap b o (fun hbb => by rw [hw0 b hbb] at e; cases e) (hkp b o e)
  intro d
  induction d with
  | zero =>
    intro i s dat1 hii hst hkp ⟨L, es, ep, t, Z, g⟩ hR
    obtain rfl : i = n := by omega
    refine codeAny_builtin F.entry_set_update_loop ?_
    rw [Around.under_plainId F.plain_set_update_loop _]
    show wpAny _ A.in1 (pyNext (.ref I) >>= _) _ _ s
    refine wpAny_bind (W.done s _ _ hst fun s' memb => ?_)
    show wpAny _ A.in1 (ret Value.none) _ _ s'
    have hkp' := carry memb hkp
    have inks : ∀ p ∈ L, p ∈ ks := fun p hpz => List.mem_of_mem_take (g.back p hpz)
    exact wpAny_pure (hR s' L es ep t (memb.mono sub1) (Z.keep (fun o e => memb.heap S o hSw e) fun p hpz => tup_keep (kps p (inks p hpz)) hkp') g hkp')
  | succ d indh =>
    intro i s dat1 hii hst hkp ⟨L, es, ep, t, Z, g⟩ hR
    have hlt : i < n := by omega
    refine codeAny_builtin F.entry_set_update_loop ?_
    rw [Around.under_plainId F.plain_set_update_loop _]
    show wpAny _ A.in1 (pyNext (.ref I) >>= _) _ _ s
    refine wpAny_bind (W.item i s _ _ hlt hst fun v s' hP hst' memb => ?_)
    obtain ⟨p, hpz, rfl⟩ := hval i v hP
    have hkp' := carry memb hkp
    have inks : ∀ p ∈ L, p ∈ ks := fun p hpz => List.mem_of_mem_take (g.back p hpz)
    have Z' : Lay P w s'.heap S L es ep t := Z.keep (fun o e => memb.heap S o hSw e) fun q sqA => tup_keep (kps q (inks q sqA)) hkp'
    have atX : Tup P w s'.heap p.2 p.1 := tup_keep (kps p (List.mem_of_getElem? hpz)) hkp'
    show wpAny _ A.in1 (holding [Value.ref p.1] (setAdd S (.ref p.1)) >>= _) _ _ s'
    refine wpAny_bind (wpAny_holding ?_)
    unfold setAdd
    refine wpAny_holding (wpAny_bind (wpAny_pyHash_tuple atU atX ?_))
    refine putIn (s := { s' with toks := s'.toks + (p.2.length + 1) }) Z' atX atU (by have := g.most; omega) fun b h' L' es' ep' t' sbt Z2 c1 c2 => ?_
    have g' : Has ks (i + 1) L' := by
      rcases Classical.em (p.2 ∈ L.map (·.2)) with c | c
      · rw [c1 c]; exact g.same hpz c
      · exact g.more hpz (c2 c)
    have hkp2 : ∀ b o, h0.get? b = some o → h'.get? b = some o := by
      intro b o e
      exact (sbt.2 b (fun z => by rw [z, hS0] at e; cases e)).trans (hkp' b o e)
    refine wpAny_pure ⟨plainId_quiet F.plain_set_update_loop _, indh (i + 1) _ (by omega) hlt (W.frame _ s' _ _ hst' (Nat.le_add_right _ _) fun b hbb o e => ?_) hkp2 ⟨L', es', ep', t', Z2, g'⟩ fun s'' L2 es2 ep2 t2 hm2 Z3 g2 hkp3 => ?_⟩
    · rw [sbt.2 b (fun h : b = S => hSf (by rw [← h]; exact hbb))]; exact e
    · refine hR s'' L2 es2 ep2 t2 (Moved.trans W.gtrans ((memb.mono sub1).then_heap (Nat.le_add_right _ _) fun b o hbb e => ?_) hm2) Z3 g2 hkp3
      rw [sbt.2 b (fun h : b = S => hbb (by rw [h]; exact List.mem_cons_self))]; exact e
end
end TZ

set_option Elab.async false
set_option linter.all false
set_option maxRecDepth 100000
set_option maxHeartbeats 8000000
namespace TZ
open PySem PySem.Spec PyProof.Rows L2

section
variable {P : Program} {w : World} {A : Around} {E : Value → Shared → Prop} {s : Shared}
/-- set(xs), xs a list of such tuples -/
theorem set_of_list {l : Addr} {items : Array Value} (ks : List (Addr × List Key)) {Q : Value → Shared → Prop} (hh : A.handled = none) (lnE : s.heap.IsList l items)
    (itr : items.toList = ks.map fun p => Value.ref p.1) (kps : ∀ p ∈ ks, Tup P w s.heap p.2 p.1) (hfew : ks.length ≤ 15) (atU : A.units + 3 < cLine)
    (fin : ∀ (h' : Heap) (tk : Nat) L es ep t, Lay P w h' s.heap.objs.size L es ep t → Has ks ks.length L → (∀ b o, s.heap.get? b = some o → h'.get? b = some o) → Q (.ref s.heap.objs.size) { s with heap := h', toks := tk }) :
    wpAny (model P w) A (call (.type "set") [.ref l]) Q E s := by
  have isz : items.size = ks.length := by
    have z := congrArg List.length itr
    rwa [Array.length_toList, List.length_map] at z
  obtain ⟨c, tl, hmro⟩ := F.called_set.mro
  have hmade := F.called_set.made
  have hsub := F.called_set.sub
  refine wpAny_call (codeAny_of_tree ?_)
  show wpAny _ _ (callAny (.type "set") _) _ _ _
  refine wpAny_pure ⟨Code.quiet_builtin _ (by decide +kernel), codeAny_builtin F.entry_type_call ?_⟩
  rw [Around.under_plain (weight_type_call_type "set" [.ref l] []) rfl]
  have h1 := F.called_set.notType
  have h2 := F.called_set.canCreate
  have hct := F.typeCall_set_1 (.ref l)
  repeat (any_goals (first | assumption | wp_step))
  refine codeAny_mono (code_set_led1 (.ref l) (E := E) (Q₁ := fun obj s₁ => obj = .ref s.heap.objs.size ∧ s₁ = { s with heap := s.heap.push (set0 w) }) ⟨rfl, rfl⟩) fun r s₁ rmA => ?_
  cases r with
  | error e => exact rmA
  | ok fl =>
    cases fl with
    | ret obj =>
      obtain ⟨rfl, rfl⟩ := rmA
      have hS : (s.heap.push (set0 w)).get? s.heap.objs.size = some (set0 w) := Heap.get?_push_size _ rfl
      have isTy : Shared.TypeIs { s with heap := s.heap.push (set0 w) } (.ref s.heap.objs.size) "set" := ⟨_, hS, rfl⟩
      have hli := F.called_set.init.lookup
      have hbi := F.called_set.init.bind (.ref s.heap.objs.size)
      repeat (any_goals (first | assumption | wp_step))
      refine codeAny_mono (codeAny_call_builtin (R := wants (fun r s₂ => r = .none ∧ ∃ h' tk L es ep t, s₂ = { s with heap := h', toks := tk } ∧ Lay P w h' s.heap.objs.size L es ep t ∧ Has ks ks.length L ∧
          (∀ b o, s.heap.get? b = some o → h'.get? b = some o)) E) F.called_set.init.plain F.entry_set_init (check_set_init_1 isTy ?_)) fun r₂ s₂ hr₂ => ?_
      · obtain ⟨ol, hol, hcl, nl, hdl⟩ := lnE
        obtain ⟨ocls, odict, odata, oslots⟩ := ol
        simp only at hcl hdl
        subst hcl; subst hdl
        have hol' : (s.heap.push (set0 w)).get? l = some { cls := .type "list", dict := odict, data := .seq items nl, slots := oslots } := Heap.get?_push_of_some _ hol
        have hsls := F.sub_list_set
        have hslf := F.sub_list_frozenset
        have apt : (Value.type "list" == Value.type "dict") = false := by decide
        have hl1 : (s.heap.push (set0 w)).IsList l items := ⟨_, hol', rfl, nl, rfl⟩
        unfold Builtin.«set.__init__» noKeywords Builtin.Frozenset.updateFrom
        generalize hPI : pyIter = PI
        wp_walk
        subst hPI
        refine wpAny_pyIter_list hl1 ?_
        refine wpAny_bind (wpAny_runValue ?_)
        have hlS : l < s.heap.objs.size := Heap.lt_size hol
        have hh3 : A.in1.in1.in1.handled = none := by simp [hh]
        have hneI : l ≠ (s.heap.push (set0 w)).objs.size := by
          rw [Heap.size_push]; exact Nat.ne_of_lt (Nat.lt_succ_of_lt hlS)
        have hSf : s.heap.objs.size ∉ [(s.heap.push (set0 w)).objs.size, l] := by
          rw [Heap.size_push]; simp only [List.mem_cons, List.mem_singleton, List.not_mem_nil, or_false, not_or]
          exact ⟨Nat.ne_of_lt (Nat.lt_succ_self _), Nat.ne_of_gt hlS⟩
        have hval : ∀ (i : Nat) (v : Value), items[i]? = some v → ∃ p, ks[i]? = some p ∧ v = .ref p.1 := by
          intro i v vis
          have z : items.toList[i]? = some v := by rw [Array.getElem?_toList]; exact vis
          rw [itr, List.getElem?_map] at z
          cases sqA : ks[i]? with
          | none => rw [sqA] at z; cases z
          | some p =>
            rw [sqA] at z
            exact ⟨p, rfl, (Option.some.inj z).symm⟩
        have gone : ∀ b, s.heap.objs.size ≤ b → s.heap.get? b = none := by
          intro b hbb
          cases z : s.heap.get? b with
          | none => rfl
          | some o => exact absurd (Nat.lt_of_lt_of_le (Heap.lt_size z) hbb) (Nat.lt_irrefl _)
        refine fill_loop ((Walks.list hh3 _ l hneI items).toS) s.heap.objs.size
          hSf ks isz hfew hval s.heap kps (gone _ (Nat.le_refl _)) (fun b hbb => gone b (by
            rw [List.mem_singleton.mp hbb, Heap.size_push]
            exact Nat.le_succ _)) atU (items.size - 0) 0 _ (by omega) (Nat.zero_le _)
          ⟨⟨_, Heap.get?_push_size _ rfl, rfl, rfl⟩, (hl1.push _)⟩ (fun b o e => Heap.get?_push_of_some _ (Heap.get?_push_of_some _ e)) ?hS0 ?hR
        case hS0 =>
          exact ⟨[], #[], 0, _, lay_new (Heap.get?_push_of_some _ hS), ⟨fun p h => (by cases h), fun p h => (by simp at h), Nat.le_refl _⟩⟩
        case hR =>
          intro s' L es ep t memb Z g' hkp
          obtain ⟨h', g2, d', tk', os'⟩ := s'
          have eg : g2 = s.gens := memb.gens
          have ed : d' = s.drawn := memb.drawn
          have eo : os' = s.os := memb.os
          subst eg; subst ed; subst eo
          show wpAny _ _ _ _ _ _
          refine wpAny_pure ?_
          show wpAny _ _ (ret Value.none) _ _ _
          rw [isz] at g'
          exact wpAny_pure ⟨rfl, h', tk', L, es, ep, t, rfl, Z, g', hkp⟩
      · cases r₂ with
        | error e => exact hr₂
        | ok fl₂ =>
          cases fl₂ with
          | ret r =>
            obtain ⟨rfl, h', tk, L, es, ep, t, rfl, Z, g', hk'⟩ := hr₂
            repeat (any_goals (first | assumption | wp_step))
            exact fin _ _ _ _ _ _ Z g' hk'
          | _ => exact hr₂.elim
    | _ => exact rmA.elim
end

/-! ### in the hand layer -/
structure LayE (P : Program) (w : World) (h : Heap) (a : Addr) (n : Nat) : Prop where
  ex : ∃ (es : Array (Int × Value)) (ep : Nat) (t : SetTable), (∃ o, h.get? a = some o ∧ o.ExactSet ∧ o.data = .set es ep t) ∧ t.fits es.size = true ∧ es.size = n
def SetN (P : Program) (w : World) (a : Addr) (n : Nat) : HO := .ext fun h => LayE P w h a n
theorem Lay.sized {P : Program} {w : World} {s : Shared} {h : Heap} {a : Addr} {L : List (Addr × List Key)} {es : Array (Int × Value)} {ep : Nat} {t : SetTable} (Z : Lay P w h a L es ep t) : LayE P w h a L.length := by
  have Z' : Lay P w ({ s with heap := h } : Shared).heap a L es ep t := Z
  exact ⟨es, ep, t, Z.here, Lay.fit (s := { s with heap := h }) Z', Lay.num (s := { s with heap := h }) Z'⟩
theorem setN_ok {P : Program} {w : World} {H : Hp} {h : Heap} {a : Addr} {n : Nat} (Z : LayE P w h a n) : ObjOk P w H h a (SetN P w a n) := by
  have ⟨es, ep, t, ⟨o, obj1, r⟩, q⟩ := Z.ex
  refine ⟨Z, ⟨o, obj1⟩, fun h1 h2 p k => ?_⟩
  have ⟨es', ep', t', ⟨o', ho', r'⟩, q'⟩ := LayE.ex p
  exact ⟨es', ep', t', ⟨o', k o' ho', r'⟩, q'⟩
theorem keys_of_vals {P : Program} {w : World} : ∀ {k : List Key} {us : List Value}, Vals (k.map kV) us → ItemsAre (mixKind P w) k us
  | [], _, .nil => .nil
  | .inl n :: k, _, .cons r t => by
    obtain ⟨u, rfl⟩ := r
    exact .cons (mixKind_int P w n u) (keys_of_vals t)
  | .inr x :: k, _, .cons r t => by
    obtain ⟨u, rfl⟩ := r
    exact .cons (mixKind_str P w x u) (keys_of_vals t)
theorem refs_of {ks : List (Addr × List Key)} : ∀ {us : List Value}, Vals (ks.map fun p => V.ref p.1) us → us = ks.map fun p => Value.ref p.1 := by
  induction ks with
  | nil => intro us h; cases h; rfl
  | cons p ks indh =>
    intro us h
    cases h with
    | cons r t => cases r; rw [indh t]; rfl
section
variable {X : Cx}
theorem Inv.keysAt {pnz : List (Addr × Obj)} {σ : L2.St} {H : Hp} {s : Shared} {b : Addr} {k : List Key} (I : L2.Inv X pnz σ H s) (h : SqT X.K H b (k.map kV)) : Tup X.prog X.w s.heap k b := by
  obtain ⟨its, r, ⟨o, obj1, cls1, n, dat1⟩, _⟩ := I.tuple h
  exact ⟨o, its.toArray, n, obj1, cls1, dat1, by simpa using keys_of_vals r⟩
/-- set(xs): how many it has -/
def rSetZ (K : PySem.W.Frag) (P : Program) (w : World) : List V → Hp → VK → Prop := fun xs H Q => ∃ (l : Addr) (ks : List (Addr × List Key)), xs = [V.ref l] ∧ SqL K H l (ks.map fun p => V.ref p.1) ∧
  (∀ p ∈ ks, SqT K H p.1 (p.2.map kV)) ∧ ks.length ≤ 15 ∧
  ∀ a n, H a = none → n ≤ ks.length → ((ks.map (·.2)).Nodup ↔ n = ks.length) → Q (.ref a) (upd H a (SetN P w a n))

theorem len_dup {α : Type} [DecidableEq α] {xs ys : List α} (hyy : ys.Nodup) (h1 : ∀ x ∈ xs, x ∈ ys) (h2 : ∀ y ∈ ys, y ∈ xs) (lnE : ys.length ≤ xs.length) : xs.Nodup ↔ ys.length = xs.length := by
  have sub : ∀ (l m : List α), l.Nodup → (∀ x ∈ l, x ∈ m) → l.length ≤ m.length := by
    intro l
    induction l with
    | nil => intro m _ _; exact Nat.zero_le _
    | cons a l indh =>
      intro m nsA sbs
      obtain ⟨na, nl⟩ := List.nodup_cons.mp nsA
      have ha := sbs a List.mem_cons_self
      have := indh (m.erase a) nl fun x atX => (List.mem_erase_of_ne (fun e => na (by rw [← e]; exact atX))).mpr (sbs x (List.mem_cons_of_mem _ atX))
      rw [List.length_erase_of_mem ha] at this
      have := List.length_pos_of_mem ha
      simp only [List.length_cons]
      omega
  constructor
  · intro atX
    exact Nat.le_antisymm lnE (sub xs ys atX h1)
  · intro e
    -- xs has no more than ys: a twice one would fit in less
    have key : ∀ (l : List α), ¬ l.Nodup → ∃ m : List α, m.length < l.length ∧ ∀ x ∈ l, x ∈ m := by
      intro l
      induction l with
      | nil => intro h; exact absurd List.nodup_nil h
      | cons a l indh =>
        intro h
        by_cases ha : a ∈ l
        · exact ⟨l, Nat.lt_succ_self _, fun x atX => by
            rcases List.mem_cons.mp atX with e | atX
            · rw [e]; exact ha
            · exact atX⟩
        · have nl : ¬ l.Nodup := fun z => h (List.nodup_cons.mpr ⟨ha, z⟩)
          obtain ⟨m, memb, sbs⟩ := indh nl
          refine ⟨a :: m, Nat.succ_lt_succ memb, fun x atX => ?_⟩
          rcases List.mem_cons.mp atX with e | atX
          · rw [e]; exact List.mem_cons_self
          · exact List.mem_cons_of_mem _ (sbs x atX)
    refine Classical.byContradiction fun z => ?_
    obtain ⟨m, memb, sbs⟩ := key xs z
    have := sub ys m hyy fun y hy' => sbs y (h2 y hy')
    omega

theorem cr_setZ (cls1 : X.calm = true) (atU : X.A.units + 64 < cLine) : CallR X (.type "set") (rSetZ X.K X.prog X.w) := by
  intro pnz s σ H xs us Q I r h
  obtain ⟨l, ks, rfl, lnE, kps, fpz, q⟩ := h
  rw [Vals.ref1 r]
  obtain ⟨its, rvl, pl, fitz⟩ := I.list lnE
  have nsA : H s.heap.objs.size = none := I.hok.fresh (Nat.le_refl _)
  refine set_of_list (P := X.prog) (w := X.w) ks (I.ok.hd cls1) pl.isList (by simpa using refs_of rvl) (fun p hpz => Inv.keysAt I (kps p hpz)) fpz (by omega) fun h' tk L es ep t Z g k => ?_
  refine ⟨.ref s.heap.objs.size, upd H s.heap.objs.size (SetN X.prog X.w s.heap.objs.size L.length), I.laid (t' := tk) k (Nat.le_refl _) (setN_ok (Z.sized (s := s))), rfl, q _ L.length nsA g.most ?_⟩
  have b1 : ∀ p ∈ L, p ∈ ks := fun p hpz => List.mem_of_mem_take (g.back p hpz)
  have b2 : ∀ p ∈ ks, p.2 ∈ L.map (·.2) := fun p hpz => g.all p (by rw [List.take_length]; exact hpz)
  have z := len_dup (xs := ks.map (·.2)) (ys := L.map (·.2)) Z.apart (fun x atX => by
    obtain ⟨p, hpz, e⟩ := List.mem_map.mp atX
    rw [← e]; exact b2 p hpz) (fun y hyy => by
    obtain ⟨p, hpz, e⟩ := List.mem_map.mp hyy
    exact List.mem_map.mpr ⟨p, b1 p hpz, e⟩) (by rw [List.length_map, List.length_map]; exact g.most)
  rw [List.length_map, List.length_map] at z
  exact z
end
end TZ

set_option Elab.async false
set_option linter.all false
set_option maxRecDepth 100000
set_option maxHeartbeats 4000000
/-! generator expressions with two for: the turns -/
namespace GX
open PySem PySem.Spec PyProof.Rows L2 GenW
abbrev ge2 (elt tg iter tg1 iter1 : Expr) (ifs ifs1 : List Expr) (scope : Scope) (pos : Pos) : Expr := .GeneratorExp elt [⟨tg, iter, ifs, 0⟩, ⟨tg1, iter1, ifs1, 0⟩] scope pos
theorem genTurn_out (elt tg iter tg1 iter1 : Expr) (ifs ifs1 : List Expr) (scope : Scope) (pos : Pos) (it acc : Value) (env : Env) :
    compTurn (ge2 elt tg iter tg1 iter1 ifs ifs1 scope pos) 0 it acc env = (do
      standAt iter.pos
      match ← pyNext it with
      | none => pure (.done .next)
      | some u => letOwnedTupleGo tg it u; assign tg env u
                  let mut ok := true
                  for c in ifs do if ok then ok ← isTrue c env (eval c env)
                  if ok then
                    let x ← eval iter1 env
                    standAt iter1.pos
                    let x ← foldedSetIterable iter1 env x
                    let _ ← runOwn (.compStart (ge2 elt tg iter tg1 iter1 ifs ifs1 scope pos) 1 (← holding [x] (pyIter x)) acc env) env
                  again (.compLoop (ge2 elt tg iter tg1 iter1 ifs ifs1 scope pos) 0 it acc env)) := by rfl
theorem genTurn_in (elt tg iter tg1 iter1 : Expr) (ifs ifs1 : List Expr) (scope : Scope) (pos : Pos) (it acc : Value) (env : Env) :
    compTurn (ge2 elt tg iter tg1 iter1 ifs ifs1 scope pos) 1 it acc env = (do
      standAt iter1.pos
      match ← pyNext it with
      | none => pure (.done .next)
      | some u => letOwnedTupleGo tg1 it u; assign tg1 env u
                  let mut ok := true
                  for c in ifs1 do if ok then ok ← isTrue c env (eval c env)
                  if ok then
                    (do let v ← eval elt env; standAt elt.pos; let _ ← yieldOut env v)
                  again (.compLoop (ge2 elt tg iter tg1 iter1 ifs ifs1 scope pos) 1 it acc env)) := by rfl
section
variable {Y Y1 : Cx} {pa : Addr × Obj} {pinsO : List (Addr × Obj)} {σv σ8 : L2.St} {Q : Bool → Hp → Prop} {W Wi : Nat → Nat → Hp → Prop} {Nx : Nat → Hp → Prop} {go : Bool} {fp fp1 : List Addr} {tn tn1 : Nat → Heap → Prop}
/-- the turns of the inner loop, as a reading -/
def Trn1 (J1 : It) (g1 : TG) (tt1 : TT) (te : TE) (vs1 : List Nat) (σ8 : L2.St) (Wi : Nat → Nat → Hp → Prop) (Nx : Nat → Hp → Prop) (Q : Bool → Hp → Prop) (go : Bool) : Prop :=
  ∀ j m H, Wi j m H → (J1.stop j H ∧ ∃ m', m' < m ∧ Nx m' H) ∨ (J1.go j H ∧ ∀ x H', J1.yld j H x H' → g1 x (wipe σ8 vs1) H' fun σ3 H2 => wipe σ3 vs1 = wipe σ8 vs1 ∧ tt1 σ3 H2 fun b H3 =>
    if b = true then te σ3 H3 fun y H4 => ∃ c, y = .bl c ∧ (if c = go then ∃ m', m' < m ∧ Wi (j + 1) m' H4 else Q (!go) H4) else ∃ m', m' < m ∧ Wi (j + 1) m' H3)
theorem seg_in {elt tg iter tg1 iter1 : Expr} {ifs ifs1 : List Expr} {scope : Scope} {pos : Pos} {it1 : Addr} {J1 : It} {g1 : TG} {tt1 : TT} {te : TE} {vs1 : List Nat} {A : Around} {K : Result → Sem PySem.Fin} {c0 : Code} {p : Pos} {l : List Value}
    (hA : A.over (.compLoop (ge2 elt tg iter tg1 iter1 ifs ifs1 scope pos) 1 (.ref it1) .none Y1.env) [.ret K none false l c0 p []] = Y1.A)
    (hE : Y1.xe = fun _ _ => False) (calm : Y1.calm = true) (hco : Y1.env.scope.isCoroutine = false) (stat : ∀ b ∈ fp1, ∀ H, H b = none → FpOk Y1 pinsO H b)
    (T : Turn Y1.prog Y1.w Y1.K tg1 J1 fp1 it1 tn1) (pg : PG Y1 tg1 g1) (pt : PTs Y1 ifs1 tt1) (pe : PE Y1 elt te) (tr : Trn1 J1 g1 tt1 te vs1 σ8 Wi Nx Q go)
    (out : ∀ H s, Inv Y1 pinsO (wipe σ8 vs1) H s → Inv Y [pa] σv H s)
    (hK : ∀ m' n' s₀' s' H', m' < n' → Inv Y1 pinsO (wipe σ8 vs1) H' s' → Nx m' H' → Seg (model Y1.prog Y1.w) A (Nd Y pa σv Q go) (Yd Y pa σv fp tn W Q go) n' s₀' c0 (K (.ok .next)) [] s') :
    ∀ (m n : Nat) (j : Nat) (H : Hp) (s₀ s : Shared), m < n → Inv Y1 pinsO (wipe σ8 vs1) H s → tn1 j s.heap → (∀ b ∈ fp1, H b = none) → Wi j m H →
      Seg (model Y1.prog Y1.w) A (Nd Y pa σv Q go) (Yd Y pa σv fp tn W Q go) n s₀ (.compLoop (ge2 elt tg iter tg1 iter1 ifs ifs1 scope pos) 1 (.ref it1) .none Y1.env)
        ((model Y1.prog Y1.w).den (.compLoop (ge2 elt tg iter tg1 iter1 ifs ifs1 scope pos) 1 (.ref it1) .none Y1.env)) [.ret K none false l c0 p []] s := by
  intro m
  induction m using Nat.strongRecOn with
  | ind m indh =>
    intro n j H s₀ s hmn I stt nsA w
    have st : ∀ b ∈ fp1, FpOk Y1 pinsO H b := fun b hb => stat b hb H (nsA b hb)
    show Seg _ A _ _ _ s₀ _ ((compTurn (ge2 elt tg iter tg1 iter1 ifs ifs1 scope pos) 1 (.ref it1) .none Y1.env).onRaise (fun x => do noteFrame x Y1.env; theTreesLotGoes x)) _ s
    rw [genTurn_in, Sem.onRaise_eq_wrap]
    refine seg_bind_wrap (wpAny_standAt ?_)
    rcases tr j m H w with ⟨stop, m', hm', q⟩ | ⟨gg, step⟩
    · have td := T.done Y1 rfl rfl rfl calm j pinsO s _ H (fun _ _ => False) I st stt stop
      refine seg_bind_wrap ?_
      rw [hA]
      refine thnF td fun r s6 ⟨e6, I6⟩ => ?_
      subst e6
      exact seg_leaf (.ok .next) (hK m' n s₀ s6 H (by omega) I6 q)
    · have ti := T.item Y1 rfl rfl rfl calm j pinsO s _ H (fun _ _ => False) I st stt gg
      refine seg_bind_wrap ?_
      rw [hA]
      refine thnF ti fun r s6 ⟨u, e6, h6⟩ => ?_
      subst e6
      refine seg_bind_wrap ?_
      rw [hA]
      refine thnF h6 fun _ s7 ⟨x, H7, I7, r7, y7, st7, n7⟩ => ?_
      have I7' := I7.pinned (fun b hb => stat b hb H7 (n7 b hb)) (T.obj _ _ st7)
      refine seg_bind_wrap ?_
      rw [hA]
      have rg := pg.run _ s7 _ H7 x u _ I7' r7 (step x H7 y7)
      rw [hE] at rg
      refine thnF rg fun _ s8 ⟨σ9, H8, I8, hw8, q8⟩ => ?_
      refine seg_bind_wrap ?_
      rw [hA]
      have rt := pt.run _ s8 σ9 H8 _ I8 q8
      rw [hE] at rt
      refine thnF rt fun b s9 ⟨H9, I9, q9⟩ => ?_
      have back : ∀ {s' : Shared} {H' : Hp}, Inv Y1 (pinsO ++ pinsAt fp1 s7.heap) σ9 H' s' → Inv Y1 pinsO (wipe σ8 vs1) H' s' ∧ tn1 (j + 1) s'.heap ∧ ∀ b ∈ fp1, H' b = none := by
        intro s' H' I'
        have pin' : ∀ b ∈ fp1, ∀ o, s7.heap.get? b = some o → s'.heap.get? b = some o ∧ H' b = none := fun b hbb o e =>
          let z := I'.pin (b, o) (List.mem_append_right _ (List.mem_append_right _ (mem_pinsAt hbb e)))
          ⟨z.1, z.2.1⟩
        have lnE : (wipe σ8 vs1).length = σ9.length := by rw [← hw8, wipe_length]
        refine ⟨(I'.unpinned (pins := pinsO)).weak lnE fun k v e => ?_, T.keep _ _ _ st7 fun b hbb o e => (pin' b hbb o e).1, fun b hbb => ?_⟩
        · rw [← hw8] at e
          exact (wipe_some e).1
        · obtain ⟨o, e, _⟩ := T.obj _ _ st7 b hbb
          exact (pin' b hbb o e).2
      cases b with
      | false =>
        simp only [Bool.false_eq_true, if_false] at q9 ⊢
        obtain ⟨m', memb, w'⟩ := q9
        obtain ⟨I10, st10, n10⟩ := back I9
        exact seg_again rfl (indh m' memb n (j + 1) H9 s₀ s9 (by omega) I10 st10 n10 w')
      | true =>
        simp only [if_true] at q9 ⊢
        have hyy : ∀ v, yieldOut Y1.env v = yieldValue v := fun v => by simp only [yieldOut, hco, Bool.false_eq_true, if_false]
        simp only [hyy]
        rw [Sem.bind_eq_wrap', Sem.bind_eq_wrap', Sem.wrap_wrap, Sem.wrap_wrap]
        refine seg_wrap ?_
        rw [hA]
        have re := pe.run _ s9 σ9 H9 _ I9 q9
        rw [hE] at re
        refine thnF re fun z s10 ⟨yv, H10, I10, r10, c, hc10, nx⟩ => ?_
        subst hc10
        obtain rfl : z = Value.bool c := r10
        obtain ⟨I11, st11, n11⟩ := back I10
        have I12 := out _ _ I11
        have hn1 : ∃ k, n = k + 1 := ⟨n - 1, by omega⟩
        obtain ⟨k, rfl⟩ := hn1
        refine seg_at (seg_yield rfl rfl rfl ⟨c, rfl, ?_⟩)
        by_cases hcg : c = go
        · rw [if_pos hcg]
          rw [if_pos hcg] at nx
          obtain ⟨m', memb, w'⟩ := nx
          refine ⟨⟨(I12.pin pa (List.mem_append_right _ List.mem_cons_self)).1, I12.nolimit, I12.bare⟩, fun s'' z => ?_⟩
          refine seg_again rfl (indh m' memb k (j + 1) H10 s'' s'' (by omega) (Inv.nap I11 z) ?_ n11 w')
          rw [z.heap]; exact st11
        · rw [if_neg hcg]
          rw [if_neg hcg] at nx
          exact ⟨H10, I12, nx⟩
end
theorem inv_A {Y : Cx} {pins : List (Addr × Obj)} {σ : L2.St} {H : Hp} {s : Shared} {B : Around} (I : Inv Y pins σ H s) (hf : B.frames = Y.A.frames) (hh : B.handled = Y.A.handled) : Inv { Y with A := B } pins σ H s :=
  ⟨⟨I.ok.mod, I.ok.kind, I.ok.glob, I.ok.blt, I.ok.above, I.ok.inj, I.ok.has, I.ok.cab, fun z => by show B.handled = _; rw [hh]; exact I.ok.hd z, by show B.frames = _; rw [hf]; exact I.ok.frames, I.ok.stk, I.ok.exf, I.ok.bs, I.ok.bsz, I.ok.noex, I.ok.exfs, I.ok.funs, I.ok.frf⟩, I.os, I.bare, I.base, I.loc, I.cell, I.free, I.freeC, I.pin, I.hok, I.len⟩
theorem inv_A' {Y : Cx} {pins : List (Addr × Obj)} {σ : L2.St} {H : Hp} {s : Shared} {B : Around} (I : Inv { Y with A := B } pins σ H s) (hf : B.frames = Y.A.frames) (hh : B.handled = Y.A.handled) : Inv Y pins σ H s :=
  ⟨⟨I.ok.mod, I.ok.kind, I.ok.glob, I.ok.blt, I.ok.above, I.ok.inj, I.ok.has, I.ok.cab, fun z => by rw [← hh]; exact I.ok.hd z, by rw [← hf]; exact I.ok.frames, I.ok.stk, I.ok.exf, I.ok.bs, I.ok.bsz, I.ok.noex, I.ok.exfs, I.ok.funs, I.ok.frf⟩, I.os, I.bare, I.base, I.loc, I.cell, I.free, I.freeC, I.pin, I.hok, I.len⟩
section
variable {Y : Cx} {pa : Addr × Obj} {Q : Bool → Hp → Prop} {W : Nat → Nat → Hp → Prop} {go : Bool} {fp : List Addr} {tn : Nat → Heap → Prop}
/-- the turns of the outer loop -/
def Trn2 (J : It) (g : TG) (tt : TT) (wi1 : TI) (g1 : TG) (tt1 : TT) (te : TE) (vs vs1 : List Nat) (σ : L2.St) (W : Nat → Nat → Hp → Prop) (Q : Bool → Hp → Prop) (go : Bool) : Prop :=
  ∀ i m H, W i m H → (J.stop i H ∧ Q go H) ∨ (J.go i H ∧ ∀ x H', J.yld i H x H' → g x (wipe σ vs) H' fun σ2 H2 => wipe σ2 vs = wipe σ vs ∧ tt σ2 H2 fun b H3 =>
    if b = true then wi1 σ2 H3 fun J1 H4 => ∃ Wi : Nat → Nat → Hp → Prop, (∃ m', m' < m ∧ Wi 0 m' H4) ∧ Trn1 J1 g1 tt1 te vs1 σ2 Wi (fun m' H' => m' < m ∧ W (i + 1) m' H') Q go
    else ∃ m', m' < m ∧ W (i + 1) m' H3)
theorem seg_g2 {elt tg iter tg1 iter1 : Expr} {ifs ifs1 : List Expr} {scope : Scope} {pos : Pos} {it : Addr} {J : It} {g g1 : TG} {tt tt1 : TT} {wi1 : TI} {te : TE} {vs vs1 : List Nat} {σ : L2.St} {A B : Around}
    (hA : A.over (.compLoop (ge2 elt tg iter tg1 iter1 ifs ifs1 scope pos) 0 (.ref it) .none Y.env) [] = Y.A)
    (hB : ∀ (it1 : Addr) (K : Result → Sem PySem.Fin) (p : Pos) (l : List Value), A.over (.compLoop (ge2 elt tg iter tg1 iter1 ifs ifs1 scope pos) 1 (.ref it1) .none Y.env) [.ret K none false l (.compLoop (ge2 elt tg iter tg1 iter1 ifs ifs1 scope pos) 0 (.ref it) .none Y.env) p []] = B)
    (hBf : B.frames = Y.A.frames) (hBh : B.handled = Y.A.handled) (hv1 : ∀ i ∈ vs1, i ∈ vs) (fold : ∀ x, foldedSetIterable iter1 Y.env x = pure x)
    (hE : Y.xe = fun _ _ => False) (hpn : Y.pn = []) (calm : Y.calm = true) (hco : Y.env.scope.isCoroutine = false) (hfx : Y.ex = fp) (hpa : ∀ b ∈ fp, pa.1 ≠ b)
    (T : Turn Y.prog Y.w Y.K tg J fp it tn) (pg : PG Y tg g) (pt : PTs Y ifs tt) (pi1 : PI Y tg1 iter1 wi1) (pg1 : PG { Y with A := B } tg1 g1) (pt1 : PTs { Y with A := B } ifs1 tt1) (pe : PE { Y with A := B } elt te)
    (tr : Trn2 J g tt wi1 g1 tt1 te vs vs1 σ W Q go) :
    ∀ (m n : Nat) (i : Nat) (H : Hp) (s₀ s : Shared), m < n → Inv Y [pa] (wipe σ vs) H s → tn i s.heap → (∀ b ∈ fp, H b = none) → W i m H →
      Seg (model Y.prog Y.w) A (Nd Y pa (wipe σ vs) Q go) (Yd Y pa (wipe σ vs) fp tn W Q go) n s₀
        (.compLoop (ge2 elt tg iter tg1 iter1 ifs ifs1 scope pos) 0 (.ref it) .none Y.env)
        ((model Y.prog Y.w).den (.compLoop (ge2 elt tg iter tg1 iter1 ifs ifs1 scope pos) 0 (.ref it) .none Y.env)) [] s := by
  have stat : ∀ {σ' : L2.St} {H' : Hp} {s' : Shared}, Inv Y [pa] σ' H' s' → (∀ b ∈ fp, H' b = none) → ∀ b ∈ fp, FpOk Y [pa] H' b := by
    intro σ' H' s' I' nsA b hbb
    have hb' : b ∈ Y.ex := by rw [hfx]; exact hbb
    refine ⟨nsA b hbb, (I'.ok.exf b hb').1, I'.ok.exfs b hb', .inl hb', fun x c e => (I'.ok.exf b hb').2 x c e, fun p hpz => ?_⟩
    rw [hpn] at hpz
    have e : p = pa := by simpa using hpz
    rw [e]; exact hpa b hbb
  intro m
  induction m using Nat.strongRecOn with
  | ind m indh =>
    intro n i H s₀ s hmn I stt nsA w
    show Seg _ A _ _ _ s₀ _ ((compTurn (ge2 elt tg iter tg1 iter1 ifs ifs1 scope pos) 0 (.ref it) .none Y.env).onRaise (leaving Y.env)) [] s
    rw [genTurn_out, Sem.onRaise_eq_wrap]
    refine seg_bind_wrap (wpAny_standAt ?_)
    rcases tr i m H w with ⟨stop, q⟩ | ⟨gg, step⟩
    · have td := T.done Y rfl rfl rfl calm i [pa] s _ H (fun _ _ => False) I (stat I nsA) stt stop
      refine seg_bind_wrap ?_
      rw [hA]
      refine thnF td fun r s6 ⟨e6, I6⟩ => ?_
      subst e6
      exact seg_end (.ok .next) ⟨rfl, H, I6, q⟩
    · have ti := T.item Y rfl rfl rfl calm i [pa] s _ H (fun _ _ => False) I (stat I nsA) stt gg
      refine seg_bind_wrap ?_
      rw [hA]
      refine thnF ti fun r s6 ⟨u, e6, h6⟩ => ?_
      subst e6
      refine seg_bind_wrap ?_
      rw [hA]
      refine thnF h6 fun _ s7 ⟨x, H7, I7, r7, y7, st7, n7⟩ => ?_
      have I7' := I7.pinned (stat I7 n7) (T.obj _ _ st7)
      refine seg_bind_wrap ?_
      rw [hA]
      have rg := pg.run _ s7 _ H7 x u _ I7' r7 (step x H7 y7)
      rw [hE] at rg
      refine thnF rg fun _ s8 ⟨σ8, H8, I8, hw8, q8⟩ => ?_
      refine seg_bind_wrap ?_
      rw [hA]
      have rt := pt.run _ s8 σ8 H8 _ I8 q8
      rw [hE] at rt
      refine thnF rt fun b s9 ⟨H9, I9, q9⟩ => ?_
      -- back at the outer loop, from slots that know at least what the loop's own do
      have back : ∀ {s' : Shared} {H' : Hp} {σ' : L2.St}, Inv Y ([pa] ++ pinsAt fp s7.heap) σ' H' s' → σ'.length = σ8.length → (∀ (k : Nat) (v : V), (wipe σ8 vs)[k]? = some (some v) → σ'[k]? = some (some v)) →
          Inv Y [pa] (wipe σ vs) H' s' ∧ tn (i + 1) s'.heap ∧ ∀ b ∈ fp, H' b = none := by
        intro s' H' σ' I' hl hk
        have pin' : ∀ b ∈ fp, ∀ o, s7.heap.get? b = some o → s'.heap.get? b = some o ∧ H' b = none := fun b hbb o e =>
          let z := I'.pin (b, o) (List.mem_append_right _ (List.mem_append_right _ (mem_pinsAt hbb e)))
          ⟨z.1, z.2.1⟩
        have lnE : (wipe σ vs).length = σ'.length := by rw [← hw8, wipe_length, hl]
        refine ⟨(I'.unpinned (pins := [pa])).weak lnE fun k v e => ?_, T.keep _ _ _ st7 fun b hbb o e => (pin' b hbb o e).1, fun b hbb => ?_⟩
        · rw [← hw8] at e
          exact hk k v e
        · obtain ⟨o, e, _⟩ := T.obj _ _ st7 b hbb
          exact (pin' b hbb o e).2
      cases b with
      | false =>
        simp only [Bool.false_eq_true, if_false] at q9 ⊢
        obtain ⟨m', memb, w'⟩ := q9
        obtain ⟨I10, st10, n10⟩ := back I9 rfl fun k v e => (wipe_some e).1
        exact seg_again rfl (indh m' memb n (i + 1) H9 s₀ s9 (by omega) I10 st10 n10 w')
      | true =>
        simp only [if_true] at q9 ⊢
        have ri := pi1.run _ s9 σ8 H9 _ I9 q9
        rw [hE] at ri
        rw [Sem.bind_eq_wrap', Sem.wrap_wrap]
        refine seg_wrap ?_
        rw [hA]
        refine thnF ri fun xv s10 h10 => ?_
        refine seg_bind_wrap (wpAny_standAt ?_)
        rw [fold xv]
        refine seg_bind_wrap (wpAny_pure ?_)
        refine seg_bind_wrap (wpAny_holding ?_)
        rw [hA]
        refine thnF h10 fun itv s11 ⟨it1, fp1, tn1, J1, H11, e1, I11, T1, st11, f11, Wi, ⟨m1, hm1, w11⟩, tr1⟩ => ?_
        subst e1
        refine seg_call (fun p => ?_)
        have I11B := inv_A (B := B) I11 hBf hBh
        have lenW : (wipe σ8 vs1).length = σ8.length := wipe_length _ _
        have Iw : Inv { Y with A := B } ([pa] ++ pinsAt fp s7.heap) (wipe σ8 vs1) H11 s11 := I11B.weak (by rw [lenW]) fun k v e => (wipe_some e).1
        have sub : ∀ (k : Nat) (v : V), (wipe σ8 vs)[k]? = some (some v) → (wipe σ8 vs1)[k]? = some (some v) := fun k v e => by
          obtain ⟨e1, e2⟩ := wipe_some e
          rw [wipe_out fun z => e2 (hv1 k z)]; exact e1
        have lp : ∀ (K : Result → Sem PySem.Fin) (l : List Value) (p : Pos), (∀ n' s₀' s', Seg (model Y.prog Y.w) A (Nd Y pa (wipe σ vs) Q go) (Yd Y pa (wipe σ vs) fp tn W Q go) n' s₀' (.compLoop (ge2 elt tg iter tg1 iter1 ifs ifs1 scope pos) 0 (.ref it) .none Y.env) (.pure (.again (.compLoop (ge2 elt tg iter tg1 iter1 ifs ifs1 scope pos) 0 (.ref it) .none Y.env))) [] s' →
            Seg (model Y.prog Y.w) A (Nd Y pa (wipe σ vs) Q go) (Yd Y pa (wipe σ vs) fp tn W Q go) n' s₀' (.compLoop (ge2 elt tg iter tg1 iter1 ifs ifs1 scope pos) 0 (.ref it) .none Y.env) (K (.ok .next)) [] s') →
            Seg (model Y.prog Y.w) A (Nd Y pa (wipe σ vs) Q go) (Yd Y pa (wipe σ vs) fp tn W Q go) n s₀ (.compLoop (ge2 elt tg iter tg1 iter1 ifs ifs1 scope pos) 1 (.ref it1) .none Y.env) ((model Y.prog Y.w).den (.compLoop (ge2 elt tg iter tg1 iter1 ifs ifs1 scope pos) 1 (.ref it1) .none Y.env))
              [.ret K none false l (.compLoop (ge2 elt tg iter tg1 iter1 ifs ifs1 scope pos) 0 (.ref it) .none Y.env) p []] s11 := fun K l p hK =>
          seg_in (Y := Y) (Y1 := { Y with A := B }) (pinsO := [pa] ++ pinsAt fp s7.heap) (fp1 := fp1) (tn1 := tn1) (σ8 := σ8) (vs1 := vs1) (elt := elt) (tg := tg) (iter := iter) (tg1 := tg1) (iter1 := iter1) (ifs := ifs) (ifs1 := ifs1) (scope := scope) (pos := pos) (p := p)
            (hB it1 K p l) hE calm hco (fun b hb H' e => ⟨e, (f11 b hb).2⟩) T1 pg1 pt1 pe tr1 (fun H' s' I' => (back (inv_A' I' hBf hBh) lenW sub).1)
            (fun m' n' s₀' s' H' hm I' ⟨hm2, w'⟩ => by
              obtain ⟨I12, st12, n12⟩ := back (inv_A' I' hBf hBh) lenW sub
              exact hK n' s₀' s' (seg_again rfl (indh m' hm2 n' (i + 1) H' s₀' s' hm I12 st12 n12 w')))
            m1 n 0 H11 s₀ s11 (by omega) Iw st11 (fun b hb => (f11 b hb).1) w11
        show Seg _ _ _ _ _ s₀ _ ((compStart (ge2 elt tg iter tg1 iter1 ifs ifs1 scope pos) 1 (.ref it1) .none Y.env).onRaise (fun x => do noteFrame x Y.env; standAt theWindowsPlace)) _ s11
        unfold compStart
        rw [Sem.onRaise_eq_wrap]
        show Seg _ _ _ _ _ s₀ _ ((ask >>= _).wrap _ _ _ _) _ s11
        refine seg_bind_wrap (wpAny_askSetting ?_)
        split
        · exact seg_again rfl (lp _ _ _ fun n' s₀' s' z => z)
        · refine seg_bind_wrap (wpAny_rule ?_)
          first
            | exact seg_bind_wrap (wpAny_standAt (seg_bind_wrap (T1.self _ 0 s11 _ _ st11 (seg_again rfl (lp _ _ _ fun n' s₀' s' z => z)))))
            | (show Seg _ _ _ _ _ s₀ _ ((standAt iter1.pos >>= _).wrap _ _ _ _) _ s11
               exact seg_bind_wrap (wpAny_standAt (seg_bind_wrap (T1.self _ 0 s11 _ _ st11 (seg_again rfl (lp _ _ _ fun n' s₀' s' z => z))))))
end
end GX

set_option Elab.async false
set_option linter.all false
set_option maxRecDepth 100000
set_option maxHeartbeats 4000000
/-! any, all over a generator expression with two for -/
namespace GX
open PySem PySem.Spec PyProof.Rows L2 GenW GxR
theorem eval_genexp2 (elt tg iter tg1 iter1 : Expr) (ifs ifs1 : List Expr) (scope : Scope) (pos : Pos) (env : Env) (hco : scope.isCoroutine = false) :
    eval (ge2 elt tg iter tg1 iter1 ifs ifs1 scope pos) env = (do
      let x ← eval iter env
      standAt iter.pos; let x ← genFold iter env x; let it ← holding [x] (pyIter x)
      enterFrame; let cl ← closureFor scope env; let code ← genexprCode env pos (env.qual ++ "<genexpr>") scope; let bi ← builtinsFor env.globals env.builtins
      let cenv ← newFunctionEnv scope env.globals cl [(".0", it)] (env.qual ++ "<genexpr>.") none code none bi
      newGenerator (.compStart (ge2 elt tg iter tg1 iter1 ifs ifs1 scope pos) 0 it .none cenv) "<genexpr>" (env.qual ++ "<genexpr>")) := by
  rw [arm_eval_GeneratorExp]; simp only [hco, Bool.false_eq_true, if_false]
  cases iter <;> rfl
theorem genexp_make2 {M : Model} {A : Around} {E : Value → Shared → Prop} {s : Shared} {env : Env} {elt tg iter tg1 iter1 : Expr} {ifs ifs1 : List Expr} {scope : Scope} {cl : List (Str × Addr)} {pos : Pos} {Q : Value → Shared → Prop}
    (hco : scope.isCoroutine = false) (hclos : closureFor scope env = pure cl) (hcell : ∀ y ∈ scope.names, y.2 ≠ .cell) (h0 : scope.names.lookup (".0" : Str) = some NameKind.local) (hkind : scope.kind = .function) (hroom : A.depth < recursionLimit)
    (h : wpAny M A (eval iter env) (fun xv s₁ => wpAny M A (pyIter xv) (fun it s₂ => s₂.heap.NoLimit ∧ wpAny M A (genexprCode env pos (env.qual ++ "<genexpr>") scope) (fun code s₃ => wpAny M A (builtinsFor env.globals env.builtins) (fun bi s₄ =>
        ∀ h', h'.Ns s₄.heap.objs.size (fun y => if y = ".0" then some it else none) → Heap.SameBut s₄.heap.objs.size (s₄.heap.push { cls := .type "frame", data := .dict #[] }) h' →
          Q (.ref h'.objs.size) { s₄ with
            gens := s₄.gens.push (.fresh (.compStart (ge2 elt tg iter tg1 iter1 ifs ifs1 scope pos) 0 it .none (genEnv scope cl s₄.heap.objs.size code bi env))), toks := s₄.toks + 1 + 1 + 1,
            heap := h'.push { cls := .type "generator", data := .fields #[.int s₄.gens.size 0, .str "<genexpr>" (s₄.toks + 1), .str (env.qual ++ "<genexpr>") (s₄.toks + 1 + 1)] } }) E s₃) E s₂) E s₁) E s)
    (hs : ∀ x, genFold iter env x = pure x) : wpAny M A (eval (ge2 elt tg iter tg1 iter1 ifs ifs1 scope pos) env) Q E s := by
  rw [eval_genexp2 _ _ _ _ _ _ _ _ _ _ hco, hclos]
  refine wpAny_bind (wpAny_mono h (fun xv s₁ h₁ => wpAny_bind (wpAny_standAt (wpAny_bind (wpAny_of_eq (hs xv) (wpAny_bind (wpAny_holding (wpAny_mono h₁ (fun it s₂ h₂ => ?_) fun _ _ e => e))))))) fun _ _ e => e)
  refine wpAny_bind (wpAny_enterFrame h₂.1 hroom (wpAny_bind (wpAny_pure (wpAny_bind (wpAny_mono h₂.2 (fun code s₃ h₃ => wpAny_bind (wpAny_mono h₃ (fun bi s₄ h₄ => ?_) fun _ _ e => e)) fun _ _ e => e)))))
  have hb : ∀ y ∈ ([((".0" : Str), it)] : List (Str × Value)), scope.names.lookup y.1 = some NameKind.local := fun y hy => by
    rcases List.mem_cons.mp hy with rfl | hy
    · exact h0
    · cases hy
  refine wpAny_bind (wpAny_newFunctionEnv hcell hb (fun h' hn' hs' => ?_) hkind)
  have e : (fun y : Str => ([((".0" : Str), it)] : List (Str × Value)).reverse.lookup y) = fun y : Str => if y = (".0" : Str) then some it else none := by
    funext y; by_cases hy : y = ".0"
    · subst hy; simp
    · have : (y == (".0" : Str)) = false := by simpa using hy
      simp [List.lookup, this, hy]
  rw [e] at hn'; simp only [newGenerator, newFields]
  exact wpAny_bind (wpAny_newGen (wpAny_bind (wpAny_mkText (wpAny_bind (wpAny_mkText (wpAny_newObj_type (h₄ h' hn' hs') (by size_fits)))))))
abbrev gcode2 (elt tg iter tg1 iter1 : Expr) (ifs ifs1 : List Expr) (scope : Scope) (gpos : Pos) (it : Addr) (ce : Env) : Code := .compLoop (ge2 elt tg iter tg1 iter1 ifs ifs1 scope gpos) 0 (.ref it) .none ce
theorem room_gx2 {k : Nat} {A : Around} {elt tg iter tg1 iter1 : Expr} {ifs ifs1 : List Expr} {scope : Scope} {gpos : Pos} {it : Addr} {ce : Env} (r : Room (k + 1) A) : Room k (A.in1.in1.over (gcode2 elt tg iter tg1 iter1 ifs ifs1 scope gpos it ce) []) :=
  ⟨r.hd, by have := r.dp; show A.depth + 0 + 1 + 3 * k + 5 < recursionLimit; omega, by have := r.un; show A.units + 1 + 1 + 0 + 3 + 16 * k + 200 < cLine; omega⟩
/-- where the inner loop runs -/
def inB (A : Around) (elt tg iter tg1 iter1 : Expr) (ifs ifs1 : List Expr) (scope : Scope) (gpos : Pos) (it : Addr) (ce : Env) : Around :=
  A.over (.compLoop (ge2 elt tg iter tg1 iter1 ifs ifs1 scope gpos) 1 (.ref 0) .none ce) [.ret (fun _ => .pure (.done .next)) none false [] (gcode2 elt tg iter tg1 iter1 ifs ifs1 scope gpos it ce) ⟨0, 0, 0, 0⟩ []]
section
variable {A : Around} {elt tg iter tg1 iter1 : Expr} {ifs ifs1 : List Expr} {scope : Scope} {gpos : Pos} {it : Addr} {ce : Env}
theorem inB_frames : (inB A elt tg iter tg1 iter1 ifs ifs1 scope gpos it ce).frames = (A.over (gcode2 elt tg iter tg1 iter1 ifs ifs1 scope gpos it ce) []).frames := by
  show pushEnvs [] (pushEnvs [ce] A.frames) = pushEnvs [ce] (pushEnvs [] A.frames); rfl
theorem inB_handled : (inB A elt tg iter tg1 iter1 ifs ifs1 scope gpos it ce).handled = (A.over (gcode2 elt tg iter tg1 iter1 ifs ifs1 scope gpos it ce) []).handled := rfl
theorem inB_room {k : Nat} (r : Room (k + 1) A) : Room k (inB A.in1.in1 elt tg iter tg1 iter1 ifs ifs1 scope gpos it ce) :=
  ⟨r.hd, by have := r.dp; show A.depth + 1 + 0 + 3 * k + 5 < recursionLimit; omega, by have := r.un; show A.units + 1 + 1 + 3 + 0 + 16 * k + 200 < cLine; omega⟩
end
/-- any(..), all(..) with two for, as a reading -/
def tGx2 (P : Addr) (go : Bool) (wi : TI) (g : TG) (tt : TT) (wi1 : TI) (g1 : TG) (tt1 : TT) (te : TE) (vs vs1 : List Nat) : TE := fun σ H Q =>
  wi σ H fun J H1 => TabG H1 P ∧ ∀ H2, Tabbed P H1 H2 → ∃ W : Nat → Nat → Hp → Prop, (∃ m, W 0 m H2) ∧ Trn2 J g tt wi1 g1 tt1 te vs vs1 σ W (fun b H => Q (.bl b) H) go

section
variable {X : Cx} {pnz : List (Addr × Obj)} {σ : L2.St} {H : Hp} {s : Shared}

theorem make_gx2 {c P : Addr} {elt tg iter tg1 iter1 : Expr} {ifs ifs1 : List Expr} {vs1 : List Nat} {wi1 : TI} {g1 : TG} {tt1 : TT} {gpos : Pos} {scope : Scope} {own : List (Str × Nat)} {wi : TI} {g : TG} {tt : TT} {te : TE} {k : Nat} {go : Bool}
    {Q : VK} {Q' : Value → Shared → Prop}
    (rmA : Room (k + 1) X.A) (G : GenOk X c P scope own iter) (hii : PI X tg iter wi)
    (hv1 : ∀ i ∈ vs1, i ∈ own.map (·.2)) (fold1 : ∀ (C : Addr) (code : Value) (x : Value), foldedSetIterable iter1 (gen0 X scope C code) x = pure x)
    (glb : ∀ s H C code fp B, Room k B → PG (gcx X s H scope (gen0 X scope C code) fp B) tg g)
    (it1 : ∀ s H C code fp B, Room k B → PI (gcx X s H scope (gen0 X scope C code) fp B) tg1 iter1 wi1) (glb1 : ∀ s H C code fp B, Room k B → PG (gcx X s H scope (gen0 X scope C code) fp B) tg1 g1) (isT1 : ∀ s H C code fp B, Room k B → PTs (gcx X s H scope (gen0 X scope C code) fp B) ifs1 tt1)
    (isT : ∀ s H C code fp B, Room k B → PTs (gcx X s H scope (gen0 X scope C code) fp B) ifs tt)
    (enm : ∀ s H C code fp B, Room k B → PE (gcx X s H scope (gen0 X scope C code) fp B) elt te)
    (I : Inv X pnz σ H s) (h : tGx2 P go wi g tt wi1 g1 tt1 te (own.map (·.2)) vs1 σ H Q)
    (kont : ∀ (Y : Cx) (pa : Addr × Obj) (σv : L2.St) (fp : List Addr) (tn : Nat → Heap → Prop) (W : Nat → Nat → Hp → Prop) (gi n : Nat) (s5 : Shared),
      Y.prog = X.prog → Y.w = X.w →
      (∃ nm qn, pa.2.cls = .type "generator" ∧ pa.2.data = .fields #[.int gi 0, nm, qn] ∧ pa.2.slots = #[]) →
      Slp Y pa σv fp tn W (fun b H => Q (.bl b) H) go X.A.in1 gi n s5 →
      (∀ b H' s', Inv Y [pa] σv H' s' → Q (.bl b) H' → EP X pnz σ Q (.bool b) s') → Q' (.ref pa.1) s5) :
    wpAny (model X.prog X.w) X.A (eval (ge2 elt tg iter tg1 iter1 ifs ifs1 scope gpos) X.env) Q' X.xe s := by
  have hfree : ∀ y ∈ scope.names, y.2 = .free → ∃ c, X.env.cells.lookup y.1 = some c := by
    intro y hyy e
    rcases G.blk.free y hyy e with k | k
    · exact I.ok.has _ (.inl k)
    · exact I.ok.has _ (.inr k)
  refine genexp_make2 G.co (closure_ok hfree) G.nocell G.dot G.blk.kind (by have := rmA.dp; omega) ?_ G.fold
  refine thn (hii.run pnz s σ H _ I h) fun xv s1 atX => thn atX fun itv s2 h2 => ?_
  obtain ⟨it, fp, tn, J, H2, e, I2, T, st2, f2, ⟨ps, hP, htr⟩, q⟩ := h2
  subst e
  refine ⟨I2.nolimit, ?_⟩
  have hPs : s2.heap.get? P = some { cls := .none, data := .fields ps } := I2.hok P _ hP
  have TB := G.tab
  have cd : PySem.W.CodeHd s2.heap c P := TB.code.keeps fun b u e => I2.bk b u e
  -- the table stands, perhaps grown
  have cont : ∀ (code : Value) (h3 : Heap) (tk : Nat) (more : Array Value), Heap.ExtBut P s2.heap h3 → s2.heap.objs.size ≤ h3.objs.size →
      h3.get? P = some { cls := .none, data := .fields (ps ++ more) } → TriplesOk (ps ++ more).toList →
      wpAny (model X.prog X.w) X.A (builtinsFor X.env.globals X.env.builtins) (fun bi s₄ =>
        ∀ h', h'.Ns s₄.heap.objs.size (fun y => if y = ".0" then some (Value.ref it) else none) → Heap.SameBut s₄.heap.objs.size (s₄.heap.push { cls := .type "frame", data := .dict #[] }) h' →
          Q' (.ref h'.objs.size) { s₄ with
            gens := s₄.gens.push (.fresh (.compStart (ge2 elt tg iter tg1 iter1 ifs ifs1 scope gpos) 0 (.ref it) .none (genEnv scope (cloFrom X.env.cells scope.names []) s₄.heap.objs.size code bi X.env))),
            toks := s₄.toks + 1 + 1 + 1,
            heap := h'.push { cls := .type "generator", data := .fields #[.int s₄.gens.size 0, .str "<genexpr>" (s₄.toks + 1), .str (X.env.qual ++ "<genexpr>") (s₄.toks + 1 + 1)] } }) X.xe { s2 with heap := h3, toks := tk } := by
    intro code h3 tk more atX hsz hP3 ht3
    have keep3 : ∀ b u, b ≠ P → s2.heap.get? b = some u → h3.get? b = some u := fun b u hbb e => atX b u hbb e
    have I3 : Inv X pnz σ (upd H2 P (.tbl (ps ++ more))) { s2 with heap := h3, gens := s2.gens, drawn := s2.drawn, toks := tk } :=
      inv_tab I2 hP keep3 hP3 I2.bare
    generalize hs3 : ({ s2 with heap := h3, toks := tk } : Shared) = s3
    have I3 : Inv X pnz σ (upd H2 P (.tbl (ps ++ more))) s3 := by rw [← hs3]; exact I3
    have s3h : s3.heap = h3 := by rw [← hs3]
    have hT3 : Tabbed P H2 (upd H2 P (.tbl (ps ++ more))) := ⟨⟨ps ++ more, upd_same, ht3⟩, fun b hbb => upd_ne hbb⟩
    obtain ⟨W, ⟨m0, w0⟩, trn⟩ := q _ hT3
    generalize hH3 : upd H2 P (.tbl (ps ++ more)) = H3 at I3 w0 hT3
    obtain ⟨bm, ob, eq1, eq2, eq3, e4, e5, e6, e7, e8⟩ := TB.bm
    refine wpAny_builtinsFor (m := X.mg) (by rw [I3.ok.glob]; exact I3.mod.glob.keeps I3.bk) eq1 eq2 (I3.bk _ _ e5) e6 e7 e8 ?_
    intro h' hn' hs'
    have szh : h'.objs.size = s3.heap.objs.size + 1 := by rw [hs'.1, Heap.size_push]
    have keep' : ∀ b o, s3.heap.get? b = some o → h'.get? b = some o := fun b o e =>
      hs'.extBut b o (Nat.ne_of_lt (Heap.lt_size e)) (Heap.get?_push_of_some _ e)
    -- the iterator's objects
    have lt2 : ∀ b ∈ fp, b < s2.heap.objs.size := fun b hbb => by
      obtain ⟨o, e, _⟩ := T.obj _ _ st2 b hbb
      exact Heap.lt_size e
    have nP : ∀ b ∈ fp, b ≠ P := fun b hbb z => by
      have := (f2 b hbb).1
      rw [z, hP] at this; cases this
    have f3 : ∀ b ∈ fp, FpOk X pnz H3 b ∧ b < s3.heap.objs.size := fun b hbb => by
      refine ⟨⟨?_, (f2 b hbb).2⟩, ?_⟩
      · rw [← hH3, upd_ne (nP b hbb)]; exact (f2 b hbb).1
      · rw [s3h]; exact Nat.lt_of_lt_of_le (lt2 b hbb) hsz
    have st3 : tn 0 s3.heap := T.keep _ _ _ st2 fun b hbb o e => by rw [s3h]; exact keep3 b o (nP b hbb) e
    generalize hgo : ({ cls := .type "generator", data := .fields #[.int s3.gens.size 0, .str "<genexpr>" (s3.toks + 1), .str (X.env.qual ++ "<genexpr>") (s3.toks + 1 + 1)] } : Obj) = gob
    have keep5 : ∀ b o, s3.heap.get? b = some o → (h'.push gob).get? b = some o := fun b o e => Heap.get?_push_of_some _ (keep' b o e)
    generalize hce : genEnv scope (cloFrom X.env.cells scope.names []) s3.heap.objs.size code builtinsNs X.env = ce
    have ceq : gen0 X scope s3.heap.objs.size code = ce := hce
    have gobf : gob.isFreed = false := by rw [← hgo]; rfl
    let B := X.A.in1.in1.over (gcode2 elt tg iter tg1 iter1 ifs ifs1 scope gpos it ce) []
    have rB : Room k B := room_gx2 rmA
    have frB : B.frames = some (ce :: X.stack) := by
      show pushEnvs (Code.envs (gcode2 elt tg iter tg1 iter1 ifs ifs1 scope gpos it ce)) (pushEnvs [] X.A.frames) = _
      rw [I3.ok.frames]
      rfl
    have I5 : Inv (gcx X s3 H3 scope ce fp B) [] (wipe σ (own.map (·.2))) H3
        { s3 with heap := h'.push gob, gens := s3.gens.push (.fresh (.compStart (ge2 elt tg iter tg1 iter1 ifs ifs1 scope gpos) 0 (.ref it) .none ce)), drawn := s3.drawn, toks := s3.toks + 1 + 1 + 1 } := by
      rw [← ceq]
      refine gen_start I3 G.blk G.nd G.nocell f3 (by rw [ceq]; exact frB) (fun _ => rmA.hd) keep5 ⟨_, hn'.push _⟩ (I3.bare.push rfl)
    have I6 : Inv (gcx X s3 H3 scope ce fp B) [(h'.objs.size, gob)] (wipe σ (own.map (·.2))) H3
        { s3 with heap := h'.push gob, gens := s3.gens.push (.fresh (.compStart (ge2 elt tg iter tg1 iter1 ifs ifs1 scope gpos) 0 (.ref it) .none ce)), drawn := s3.drawn, toks := s3.toks + 1 + 1 + 1 } := by
      refine I5.pins_of fun p hpz => ?_
      rw [List.mem_singleton.mp hpz]
      refine ⟨Heap.get?_push_size _ gobf, I3.hok.fresh (by rw [szh]; exact Nat.le_succ _), ?_, fun z => ?_, fun v z => ?_⟩
      · show h'.objs.size ≠ ce.locals
        rw [← hce]
        show h'.objs.size ≠ s3.heap.objs.size
        exact Nat.ne_of_gt (by rw [szh]; exact Nat.lt_succ_self _)
      · have z : h'.objs.size ∈ frs X.stack := z
        obtain ⟨_, o, obj1, _⟩ := I3.stack.mem z
        exact absurd (Heap.lt_size obj1) (Nat.not_lt.mpr (by rw [szh]; exact Nat.le_succ _))
      · rw [← hgo] at z; cases z
    generalize hs5 : ({ s3 with heap := h'.push gob, gens := s3.gens.push (.fresh (.compStart (ge2 elt tg iter tg1 iter1 ifs ifs1 scope gpos) 0 (.ref it) .none ce)), drawn := s3.drawn, toks := s3.toks + 1 + 1 + 1 } : Shared) = s5 at I5 I6
    have s5h : s5.heap = h'.push gob := by rw [← hs5]
    have st5 : tn 0 s5.heap := T.keep _ _ _ st3 fun b _ o e => by rw [s5h]; exact keep5 b o e
    have hpa : ∀ b ∈ fp, (h'.objs.size, gob).1 ≠ b := fun b hbb z => by
      have h1 := (f3 b hbb).2
      have z : h'.objs.size = b := z
      rw [← z, szh] at h1
      exact absurd h1 (Nat.not_lt.mpr (Nat.le_succ _))
    have loop := seg_g2 (Y := gcx X s3 H3 scope ce fp B) (pa := (h'.objs.size, gob)) (elt := elt) (tg := tg) (iter := iter) (tg1 := tg1) (iter1 := iter1) (ifs := ifs) (ifs1 := ifs1) (scope := scope) (pos := gpos) (it := it) (A := X.A.in1.in1) (B := inB X.A.in1.in1 elt tg iter tg1 iter1 ifs ifs1 scope gpos it ce)
      (Q := fun b H => Q (.bl b) H) (W := W) (go := go) (fp := fp) (tn := tn)
      rfl (fun _ _ _ _ => rfl) (inB_frames ..) (inB_handled ..) hv1 (by show ∀ x, foldedSetIterable iter1 ce x = pure x; rw [← ceq]; exact fold1 _ _) rfl rfl G.calm (by show ce.scope.isCoroutine = false; rw [← hce]; exact G.co) rfl hpa T
      (by rw [← ceq] at *; exact glb s3 H3 _ code fp _ rB) (by rw [← ceq] at *; exact isT s3 H3 _ code fp _ rB) (by rw [← ceq] at *; exact it1 s3 H3 _ code fp _ rB) (by rw [← ceq] at *; exact glb1 s3 H3 _ code fp _ (inB_room rmA)) (by rw [← ceq] at *; exact isT1 s3 H3 _ code fp _ (inB_room rmA)) (by rw [← ceq] at *; exact enm s3 H3 _ code fp _ (inB_room rmA)) trn
    have hgen : ∃ nm qn, gob.cls = .type "generator" ∧ gob.data = .fields #[.int s3.gens.size 0, nm, qn] ∧ gob.slots = #[] :=
      ⟨_, _, by rw [← hgo], by rw [← hgo], by rw [← hgo]⟩
    have fin : Q' (.ref h'.objs.size) s5 := by
      refine kont (gcx X s3 H3 scope ce fp B) (h'.objs.size, gob) (wipe σ (own.map (·.2))) fp tn W s3.gens.size (m0 + 1) s5 rfl rfl
        hgen ⟨?_, I6.nolimit, I6.bare, ?_⟩ (fun b H' s' I' qq => ?_)
      · refine isgen_of hgen ?_
        rw [s5h]; exact Heap.get?_push_size _ gobf
      · refine ⟨.fresh (.compStart (ge2 elt tg iter tg1 iter1 ifs ifs1 scope gpos) 0 (.ref it) .none ce), ?_, fun s' z => ⟨rfl, ?_⟩⟩
        · rw [← hs5]
          exact Array.getElem?_push_size ..
        · -- compStart
          have lp := loop m0 (m0 + 1) 0 H3 s' s' (Nat.lt_succ_self _) (Inv.nap I6 z) (by rw [z.heap]; exact st5) (fun b hbb => (f3 b hbb).1.1) w0
          show Seg _ _ _ _ _ s' _ ((compStart (ge2 elt tg iter tg1 iter1 ifs ifs1 scope gpos) 0 (.ref it) .none ce).onRaise (leaving ce)) [] s'
          unfold compStart
          rw [Sem.onRaise_eq_wrap]
          show Seg _ _ _ _ _ s' _ ((ask >>= _).wrap _ _ _ _) [] s'
          refine seg_bind_wrap (wpAny_askSetting ?_)
          have stz : tn 0 s'.heap := by rw [z.heap]; exact st5
          split
          · exact seg_again rfl lp
          · refine seg_bind_wrap (wpAny_rule ?_)
            first
              | exact seg_bind_wrap (wpAny_standAt (seg_bind_wrap (T.self _ 0 s' _ _ stz (seg_again rfl lp))))
              | (show Seg _ _ _ _ _ s' _ ((standAt iter.pos >>= _).wrap _ _ _ _) [] s'
                 exact seg_bind_wrap (wpAny_standAt (seg_bind_wrap (T.self _ 0 s' _ _ stz (seg_again rfl lp)))))
      · have J : Inv X pnz σ H' s' := I3.call' (ch := fp) I'.os I'.base I'.hok I'.bare fun b hbb =>
          ⟨(f3 b hbb).1.2.2.2.1, (f3 b hbb).1.2.1, (f3 b hbb).1.2.2.2.2.1, (f3 b hbb).1.2.2.2.2.2⟩
        exact ⟨.bl b, H', J, rfl, qq⟩
    exact fin
  cases fpz : codeAmong gpos ps.toList with
  | none =>
    refine wpAny_genexprCodeX G.code (cd.code hPs htr) (cd.tab hPs) fpz fun c' h' tk atX hge hlt hco' _ htab' _ => ?_
    obtain ⟨o1, vs, f1, tf, fl, tg, inF, tx, tt, op, _, _, _, _, _, _, _, _, _, htr2, _⟩ := hco'
    exact cont _ h' tk _ atX (Nat.le_trans hge (Nat.le_of_lt hlt)) htab'.2 htr2
  | some cv =>
    refine wpAny_genexprCode_hit G.code (cd.code hPs htr) fpz ?_
    have := cont cv s2.heap s2.toks #[] (Heap.ExtBut.refl _ _) (Nat.le_refl _) (by simpa using hPs) (by simpa using htr)
    exact this
end
section
variable {X : Cx}

theorem pe_allG2 {c P : Addr} {elt tg iter tg1 iter1 : Expr} {ifs ifs1 : List Expr} {vs1 : List Nat} {wi1 : TI} {g1 : TG} {tt1 : TT} {p pos gpos : Pos} {scope : Scope} {own : List (Str × Nat)} {wi : TI} {g : TG} {tt : TT} {te : TE} {k : Nat}
    (rmA : Room (k + 1) X.A) (hgl : Gl X "all") (memb : X.mg "all" = none) (G : GenOk X c P scope own iter) (hii : PI X tg iter wi)
    (hv1 : ∀ i ∈ vs1, i ∈ own.map (·.2)) (fold1 : ∀ (C : Addr) (code : Value) (x : Value), foldedSetIterable iter1 (gen0 X scope C code) x = pure x)
    (it1 : ∀ s H C code fp B, Room k B → PI (gcx X s H scope (gen0 X scope C code) fp B) tg1 iter1 wi1) (glb1 : ∀ s H C code fp B, Room k B → PG (gcx X s H scope (gen0 X scope C code) fp B) tg1 g1) (isT1 : ∀ s H C code fp B, Room k B → PTs (gcx X s H scope (gen0 X scope C code) fp B) ifs1 tt1)
    (glb : ∀ s H C code fp B, Room k B → PG (gcx X s H scope (gen0 X scope C code) fp B) tg g)
    (isT : ∀ s H C code fp B, Room k B → PTs (gcx X s H scope (gen0 X scope C code) fp B) ifs tt)
    (enm : ∀ s H C code fp B, Room k B → PE (gcx X s H scope (gen0 X scope C code) fp B) elt te)
    (hse : starEach [ge2 elt tg iter tg1 iter1 ifs ifs1 scope gpos] X.env = (false, eval (ge2 elt tg iter tg1 iter1 ifs ifs1 scope gpos) X.env) :: starEach [] X.env := by rfl) :
    PE X (.Call (.Name "all" p) [ge2 elt tg iter tg1 iter1 ifs ifs1 scope gpos] [] pos) (tGx2 P true wi g tt wi1 g1 tt1 te (own.map (·.2)) vs1) := by
  have hbb : bootBuiltins "all" = some (.builtin "all") := by decide +kernel
  refine ⟨fun pnz s σ H Q I h => ?_⟩
  refine wpAny_Call_Name_kw (ld_blt I hgl memb hbb ?_)
  refine PyProof.Rows.callWith_builtin1 ?_ hse (by rfl)
  rw [hse]
  show wpAny _ _ (spliced ((false, eval (ge2 elt tg iter tg1 iter1 ifs ifs1 scope gpos) X.env) :: backTo pos (starEach [] X.env))) _ _ s
  refine Calls.spliced_cons (make_gx2 rmA G hii hv1 fold1 glb it1 glb1 isT1 isT enm I h fun Y pa σv fp tn W gi n s5 eq1 eq2 hgen z fin => ?_)
  refine Calls.spliced_nil ?_
  refine call_function_tree F.kind_all F.plain_all F.entry_all (F.args_all1 _) ?_
  unfold Builtin.«all»
  refine wpAny_bind (m := oneArg "all" _) (wpAny_pure ?_)
  refine wpAny_bind (wpAny_pyIter_gen z.gen ?_)
  refine wpAny_pure ⟨plainId_quiet F.plain_all_loop _, ?_⟩
  rw [← eq1, ← eq2]
  exact all_gx (A := X.A) (show X.A.handled = none from rmA.hd) rmA.depth hgen (fun b s' H' I' q => fin b H' s' I' q) n s5 z

theorem pe_anyG2 {c P : Addr} {elt tg iter tg1 iter1 : Expr} {ifs ifs1 : List Expr} {vs1 : List Nat} {wi1 : TI} {g1 : TG} {tt1 : TT} {p pos gpos : Pos} {scope : Scope} {own : List (Str × Nat)} {wi : TI} {g : TG} {tt : TT} {te : TE} {k : Nat}
    (rmA : Room (k + 1) X.A) (hgl : Gl X "any") (memb : X.mg "any" = none) (G : GenOk X c P scope own iter) (hii : PI X tg iter wi)
    (hv1 : ∀ i ∈ vs1, i ∈ own.map (·.2)) (fold1 : ∀ (C : Addr) (code : Value) (x : Value), foldedSetIterable iter1 (gen0 X scope C code) x = pure x)
    (it1 : ∀ s H C code fp B, Room k B → PI (gcx X s H scope (gen0 X scope C code) fp B) tg1 iter1 wi1) (glb1 : ∀ s H C code fp B, Room k B → PG (gcx X s H scope (gen0 X scope C code) fp B) tg1 g1) (isT1 : ∀ s H C code fp B, Room k B → PTs (gcx X s H scope (gen0 X scope C code) fp B) ifs1 tt1)
    (glb : ∀ s H C code fp B, Room k B → PG (gcx X s H scope (gen0 X scope C code) fp B) tg g)
    (isT : ∀ s H C code fp B, Room k B → PTs (gcx X s H scope (gen0 X scope C code) fp B) ifs tt)
    (enm : ∀ s H C code fp B, Room k B → PE (gcx X s H scope (gen0 X scope C code) fp B) elt te)
    (hse : starEach [ge2 elt tg iter tg1 iter1 ifs ifs1 scope gpos] X.env = (false, eval (ge2 elt tg iter tg1 iter1 ifs ifs1 scope gpos) X.env) :: starEach [] X.env := by rfl) :
    PE X (.Call (.Name "any" p) [ge2 elt tg iter tg1 iter1 ifs ifs1 scope gpos] [] pos) (tGx2 P false wi g tt wi1 g1 tt1 te (own.map (·.2)) vs1) := by
  refine ⟨fun pnz s σ H Q I h => ?_⟩
  refine wpAny_Call_Name_kw (ld_blt I hgl memb boot_any ?_)
  refine PyProof.Rows.callWith_builtin1 ?_ hse (by rfl)
  rw [hse]
  show wpAny _ _ (spliced ((false, eval (ge2 elt tg iter tg1 iter1 ifs ifs1 scope gpos) X.env) :: backTo pos (starEach [] X.env))) _ _ s
  refine Calls.spliced_cons (make_gx2 rmA G hii hv1 fold1 glb it1 glb1 isT1 isT enm I h fun Y pa σv fp tn W gi n s5 eq1 eq2 hgen z fin => ?_)
  refine Calls.spliced_nil ?_
  refine call_function_tree F.kind_any F.plain_any F.entry_any (F.args_any1 _) ?_
  unfold Builtin.«any»
  refine wpAny_bind (m := oneArg "any" _) (wpAny_pure ?_)
  refine wpAny_bind (wpAny_pyIter_gen z.gen ?_)
  refine wpAny_pure ⟨plainId_quiet F.plain_any_loop _, ?_⟩
  rw [← eq1, ← eq2]
  exact any_gx (A := X.A) (show X.A.handled = none from rmA.hd) rmA.depth hgen (fun b s' H' I' q => fin b H' s' I' q) n s5 z
end
end GX

/-! what all the texts behind it rest on -/

set_option Elab.async false
set_option linter.all false
set_option maxRecDepth 100000
set_option maxHeartbeats 4000000
/-! a small machine over plain values and a store of its own, and how they lie in the abstract heap -/
namespace DI
open PySem PySem.Spec PyProof.Rows L2

/-- plain values: tuples are values, what changes lies in the store -/
inductive AV where
  | non | bl (b : Bool) | int (i : Int) | str (x : Str) | ty (n : String) | gl (x : Str) | ref (i : Nat) | tup (xs : List AV) | kt (xs : List AV) | rg (lo hi : Int) | sl (xs : List AV) | ex (c : Str) (ns : List Str) (vs : List AV)
/-- what lies in the store -/
inductive AO where
  | lst (xs : List AV)
  | dk (kvs : List (Key × AV))
  | dt (kvs : List (List Key × AV))
  | fk (kvs : List (Key × AV))
/-- the store: a tree by the digits of the place -/
inductive Tr where
  | leaf
  | node (o : Option AO) (l r : Tr)
def Tr.get : Tr → Nat → Option AO
  | .leaf, _ => none
  | .node o l r, n => if n = 0 then o else if n % 2 = 1 then l.get (n / 2) else r.get (n / 2 - 1)
def Tr.put : Nat → Tr → Nat → AO → Tr
  | 0, t, _, _ => t
  | k + 1, .leaf, n, v => if n = 0 then .node (some v) .leaf .leaf else if n % 2 = 1 then .node none (Tr.put k .leaf (n / 2) v) .leaf else .node none .leaf (Tr.put k .leaf (n / 2 - 1) v)
  | k + 1, .node o l r, n, v => if n = 0 then .node (some v) l r else if n % 2 = 1 then .node o (Tr.put k l (n / 2) v) r else .node o l (Tr.put k r (n / 2 - 1) v)
theorem Tr.get_leaf (n : Nat) : Tr.get .leaf n = none := rfl
theorem Tr.get_put : ∀ (k : Nat) (t : Tr) (n : Nat) (v : AO) (j : Nat), n < 2 ^ k - 1 → (Tr.put k t n v).get j = if j = n then some v else t.get j
  | 0, t, n, v, j, h => absurd h (by simp)
  | k + 1, .leaf, n, v, j, h => by
    have h2 : 2 ^ (k + 1) = 2 * 2 ^ k := by rw [Nat.pow_succ]; omega
    have hk : 0 < 2 ^ k := Nat.two_pow_pos k
    unfold Tr.put
    by_cases e0 : n = 0
    · subst e0
      rw [if_pos rfl]
      unfold Tr.get
      by_cases ej : j = 0
      · simp [ej]
      · rw [if_neg ej, if_neg ej]
        simp [Tr.get_leaf]
    · rw [if_neg e0]
      by_cases eo : n % 2 = 1
      · rw [if_pos eo]
        conv => lhs; unfold Tr.get
        by_cases ej : j = 0
        · subst ej; rw [if_pos rfl, if_neg (Ne.symm e0)]; rfl
        · rw [if_neg ej]
          by_cases jo : j % 2 = 1
          · rw [if_pos jo, Tr.get_put k .leaf (n / 2) v (j / 2) (by omega)]
            by_cases e : j = n
            · subst e; simp
            · rw [if_neg (by omega), if_neg e]; rfl
          · rw [if_neg jo]
            rw [if_neg (by intro z; subst z; exact jo eo)]
            rfl
      · rw [if_neg eo]
        conv => lhs; unfold Tr.get
        by_cases ej : j = 0
        · subst ej; rw [if_pos rfl, if_neg (Ne.symm e0)]; rfl
        · rw [if_neg ej]
          by_cases jo : j % 2 = 1
          · rw [if_pos jo, if_neg (by intro z; subst z; exact eo jo)]; rfl
          · rw [if_neg jo, Tr.get_put k .leaf (n / 2 - 1) v (j / 2 - 1) (by omega)]
            by_cases e : j = n
            · subst e; simp
            · rw [if_neg (by omega), if_neg e]; rfl
  | k + 1, .node o l r, n, v, j, h => by
    have h2 : 2 ^ (k + 1) = 2 * 2 ^ k := by rw [Nat.pow_succ]; omega
    have hk : 0 < 2 ^ k := Nat.two_pow_pos k
    unfold Tr.put
    by_cases e0 : n = 0
    · subst e0
      rw [if_pos rfl]
      conv => lhs; unfold Tr.get
      conv => rhs; unfold Tr.get
      by_cases ej : j = 0
      · simp [ej]
      · rw [if_neg ej, if_neg ej, if_neg ej]
    · rw [if_neg e0]
      by_cases eo : n % 2 = 1
      · rw [if_pos eo]
        conv => lhs; unfold Tr.get
        conv => rhs; unfold Tr.get
        by_cases ej : j = 0
        · subst ej; rw [if_pos rfl, if_neg (Ne.symm e0), if_pos rfl]
        · rw [if_neg ej]
          by_cases jo : j % 2 = 1
          · rw [if_pos jo, Tr.get_put k l (n / 2) v (j / 2) (by omega)]
            by_cases e : j = n
            · subst e; simp
            · rw [if_neg (by omega), if_neg e, if_neg ej, if_pos jo]
          · rw [if_neg jo]
            rw [if_neg (by intro z; subst z; exact jo eo), if_neg ej, if_neg jo]
      · rw [if_neg eo]
        conv => lhs; unfold Tr.get
        conv => rhs; unfold Tr.get
        by_cases ej : j = 0
        · subst ej; rw [if_pos rfl, if_neg (Ne.symm e0), if_pos rfl]
        · rw [if_neg ej]
          by_cases jo : j % 2 = 1
          · rw [if_pos jo, if_neg (by intro z; subst z; exact eo jo), if_neg ej, if_pos jo]
          · rw [if_neg jo, Tr.get_put k r (n / 2 - 1) v (j / 2 - 1) (by omega)]
            by_cases e : j = n
            · subst e; simp
            · rw [if_neg (by omega), if_neg e, if_neg ej, if_neg jo]
/-- the store: how many things, the tree -/
structure Hh where
  n : Nat
  t : Tr
def Hh.get (h : Hh) (i : Nat) : Option AO := if i < h.n then h.t.get i else none
def Hh.put (h : Hh) (i : Nat) (o : AO) : Hh := ⟨h.n, Tr.put 40 h.t i o⟩
def Hh.new (h : Hh) (o : AO) : Hh := ⟨h.n + 1, Tr.put 40 h.t h.n o⟩
def big : Nat := 1000000000000
theorem big_le : big < 2 ^ 40 - 1 := by unfold big; decide
theorem Hh.get_put {h : Hh} {i : Nat} {o : AO} (hb : h.n ≤ big) (hi : i < h.n) (j : Nat) : (h.put i o).get j = if j = i then some o else h.get j := by
  unfold Hh.get Hh.put
  show (if j < h.n then (Tr.put 40 h.t i o).get j else none) = _
  rw [Tr.get_put 40 h.t i o j (by have := big_le; omega)]
  by_cases e : j = i
  · subst e; rw [if_pos hi, if_pos rfl, if_pos rfl]
  · rw [if_neg e, if_neg e]
theorem Hh.get_new {h : Hh} {o : AO} (hb : h.n ≤ big) (j : Nat) : (h.new o).get j = if j = h.n then some o else h.get j := by
  unfold Hh.get Hh.new
  show (if j < h.n + 1 then (Tr.put 40 h.t h.n o).get j else none) = _
  rw [Tr.get_put 40 h.t h.n o j (by have := big_le; omega)]
  by_cases e : j = h.n
  · subst e; rw [if_pos (Nat.lt_succ_self _), if_pos rfl, if_pos rfl]
  · rw [if_neg e, if_neg e]
    by_cases l : j < h.n
    · rw [if_pos l, if_pos (Nat.lt_succ_of_lt l)]
    · rw [if_neg l, if_neg (by omega)]
theorem Hh.get_lt {h : Hh} {i : Nat} {o : AO} (e : h.get i = some o) : i < h.n := by
  unfold Hh.get at e
  by_cases l : i < h.n
  · exact l
  · rw [if_neg l] at e; cases e

/-! ### how they lie -/
/-- what is fixed: the fragment, where the globals stand, the tables -/
structure Fx where
  K : PySem.W.Frag
  G : Str → Option Addr
  T : List Addr
  L : List (Addr × Str)
/-- an exception of the class cls with the dict d, caught, at a -/
def ExV (cls : Value) (d a : Addr) : HO := .ext fun h => ∃ (oe : Obj) (vs : Array Value), h.get? a = some oe ∧ Zc cls (some d) oe ∧ oe.data = .fields vs
/-- what is never written -/
def Imm : HO → Prop
  | .tup _ | .frz _ _ | .xd _ | .rng _ _ | .met _ _ | .ext _ | .own _ => True
  | _ => False
/-- the script's list: frozen, or one of what is fixed -/
def SlAt (K : PySem.W.Frag) (H : Hp) (a : Addr) (us : List V) : Prop := (∃ o, H a = some (.frz o (.lst us))) ∨ SqL K (fun _ => none) a us
theorem SlAt.sql {K : PySem.W.Frag} {H : Hp} {a : Addr} {us : List V} (h : SlAt K H a us) : SqL K H a us := by
  rcases h with ⟨o, h⟩ | (h | ⟨o, h⟩) | h
  · exact .inl (.inr ⟨o, h⟩)
  · cases h
  · cases h
  · exact .inr h
section
variable (F : Fx)
mutual
inductive RV (m : List Addr) (H : Hp) : AV → V → Prop
  | non : RV m H .non .non
  | bl (b : Bool) : RV m H (.bl b) (.bl b)
  | int (i : Int) : RV m H (.int i) (.int i)
  | str (x : Str) : RV m H (.str x) (.str x)
  | ty (n : String) : RV m H (.ty n) (.ty n)
  | gl {x : Str} {a : Addr} : F.G x = some a → RV m H (.gl x) (.ref a)
  | ref {i : Nat} {a : Addr} : m[i]? = some a → RV m H (.ref i) (.ref a)
  | tup {a : Addr} {xs : List AV} {us : List V} : H a = some (.tup us) → RVs m H xs us → RV m H (.tup xs) (.ref a)
  | rg {a : Addr} {lo hi : Int} : H a = some (.rng lo hi) → RV m H (.rg lo hi) (.ref a)
  | sl {a : Addr} {xs : List AV} {us : List V} : SlAt F.K H a us → RVs m H xs us → RV m H (.sl xs) (.ref a)
  | kt {a : Addr} {xs : List AV} {us : List V} : SqT F.K (fun _ => none) a us → RVs m H xs us → RV m H (.kt xs) (.ref a)
  | ex {a d C : Addr} {c : Str} {ns : List Str} {xs : List AV} {us : List V} : F.G c = some C → H a = some (ExV (.ref C) d a) → H d = some (.xd (ns.zip us)) → RVs m H xs us → RV m H (.ex c ns xs) (.ref a)
inductive RVs (m : List Addr) (H : Hp) : List AV → List V → Prop
  | nil : RVs m H [] []
  | cons {x : AV} {xs : List AV} {u : V} {us : List V} : RV m H x u → RVs m H xs us → RVs m H (x :: xs) (u :: us)
end
/-- what is never written stays; places are added -/
structure Mono (m : List Addr) (H : Hp) (m' : List Addr) (H' : Hp) : Prop where
  pre : m <+: m'
  imm : ∀ a u, Imm u → H a = some u → H' a = some u
  tab : ∀ P ∈ F.T, GxR.TabG H P → GxR.TabG H' P
  lam : LamX.Tabs F.L H → LamX.Tabs F.L H'
end
variable {F : Fx}
theorem Mono.refl (m : List Addr) (H : Hp) : Mono F m H m H := ⟨List.prefix_refl _, fun _ _ _ e => e, fun _ _ h => h, fun h => h⟩
theorem Mono.trans {m1 m2 m3 : List Addr} {H1 H2 H3 : Hp} (a : Mono F m1 H1 m2 H2) (b : Mono F m2 H2 m3 H3) : Mono F m1 H1 m3 H3 :=
  ⟨a.pre.trans b.pre, fun c u i e => b.imm c u i (a.imm c u i e), fun P hP h => b.tab P hP (a.tab P hP h), fun h => b.lam (a.lam h)⟩
/-- the tables of lambdas stay where the table objects and what is never written stay -/
theorem lams_stay {H H' : Hp} (ht : ∀ p ∈ F.L, ∀ ps, H p.1 = some (.tbl ps) → H' p.1 = some (.tbl ps)) (hi : ∀ a u, Imm u → H a = some u → H' a = some u) : LamX.Tabs F.L H → LamX.Tabs F.L H' := fun h p hp => by
  obtain ⟨ps, e1, e2, e3⟩ := h p hp
  refine ⟨ps, ht p hp ps e1, e2, fun pos cv hc => ?_⟩
  obtain ⟨c, e4, e5⟩ := e3 pos cv hc
  exact ⟨c, e4, hi _ _ trivial e5⟩
theorem Mono.sqT {m m' : List Addr} {H H' : Hp} (M : Mono F m H m' H') {a : Addr} {xs : List V} (h : SqT F.K H a xs) : SqT F.K H' a xs := by
  rcases h with (h | ⟨o, h⟩) | h
  · exact .inl (.inl (M.imm _ _ trivial h))
  · exact .inl (.inr ⟨o, M.imm _ _ trivial h⟩)
  · exact .inr h
theorem pre_get {m m' : List Addr} (p : m <+: m') {i : Nat} {a : Addr} (e : m[i]? = some a) : m'[i]? = some a := by
  obtain ⟨r, rfl⟩ := p
  have hi : i < m.length := (List.getElem?_eq_some_iff.mp e).1
  rw [List.getElem?_append_left hi]; exact e
theorem kt_at {H : Hp} {a : Addr} {us : List V} (h : SqT F.K (fun _ => none) a us) : SqT F.K H a us := by
  rcases h with (h | ⟨o, h⟩) | h
  · cases h
  · cases h
  · exact .inr h
mutual
theorem RV.mono {m m' : List Addr} {H H' : Hp} (M : Mono F m H m' H') : ∀ {x : AV} {u : V}, RV F m H x u → RV F m' H' x u
  | _, _, .non => .non
  | _, _, .bl b => .bl b
  | _, _, .int i => .int i
  | _, _, .str x => .str x
  | _, _, .ty n => .ty n
  | _, _, .gl e => .gl e
  | _, _, .ref e => .ref (pre_get M.pre e)
  | _, _, .tup h a => .tup (M.imm _ _ trivial h) (RVs.mono M a)
  | _, _, .rg h => .rg (M.imm _ _ trivial h)
  | _, _, .sl h a => .sl (h.imp (fun ⟨o, h⟩ => ⟨o, M.imm _ _ trivial h⟩) fun h => h) (RVs.mono M a)
  | _, _, .kt h a => .kt h (RVs.mono M a)
  | _, _, .ex g h1 h2 a => .ex g (M.imm _ _ trivial h1) (M.imm _ _ trivial h2) (RVs.mono M a)
theorem RVs.mono {m m' : List Addr} {H H' : Hp} (M : Mono F m H m' H') : ∀ {x : List AV} {u : List V}, RVs F m H x u → RVs F m' H' x u
  | _, _, .nil => .nil
  | _, _, .cons h t => .cons (RV.mono M h) (RVs.mono M t)
end
/-- keys, as values -/
def kA : Key → AV
  | .inl i => .int i
  | .inr x => .str x
inductive RKV {κ : Type} (m : List Addr) (H : Hp) : List (κ × AV) → List (κ × V) → Prop
  | nil : RKV m H [] []
  | cons {k : κ} {x : AV} {u : V} {xs : List (κ × AV)} {us : List (κ × V)} : RV F m H x u → RKV m H xs us → RKV m H ((k, x) :: xs) ((k, u) :: us)
theorem RKV.mono {κ : Type} {m m' : List Addr} {H H' : Hp} (M : Mono F m H m' H') : ∀ {xs : List (κ × AV)} {us : List (κ × V)}, RKV (F := F) m H xs us → RKV (F := F) m' H' xs us
  | _, _, .nil => .nil
  | _, _, .cons h t => .cons (h.mono M) (RKV.mono M t)
/-- an object of the store lies at a -/
inductive RO (F : Fx) (m : List Addr) (H : Hp) : AO → HO → Prop
  | lst {xs : List AV} {us : List V} : RVs F m H xs us → RO F m H (.lst xs) (.lst us)
  | dk {kvs : List (Key × AV)} {us : List (Key × V)} : RKV (F := F) m H kvs us → RO F m H (.dk kvs) (.dK us)
  | dt {kvs : List (List Key × AV)} {us : List (List Key × V)} : RKV (F := F) m H kvs us → RO F m H (.dt kvs) (.dT us)
  | fk {kvs : List (Key × AV)} {us : List (Key × V)} {ob : Obj} : RKV (F := F) m H kvs us → RO F m H (.fk kvs) (.frz ob (.dK us))
theorem RO.mono {m m' : List Addr} {H H' : Hp} (M : Mono F m H m' H') {o : AO} {u : HO} (r : RO F m H o u) : RO F m' H' o u := by
  cases r with
  | lst h => exact .lst (h.mono M)
  | dk h => exact .dk (h.mono M)
  | dt h => exact .dt (h.mono M)
  | fk h => exact .fk (h.mono M)
/-- what is walked is not written -/
def AO.free : AO → Prop
  | .fk _ => False
  | _ => True
theorem RO.mut {m : List Addr} {H : Hp} {o : AO} {u : HO} (r : RO F m H o u) (nf : o.free := by trivial) : ¬ Imm u ∧ (∀ ps, u ≠ .tbl ps) := by
  cases r <;> first | exact ⟨(fun z => z), (fun _ z => by cases z)⟩ | exact nf.elim
/-- the store lies in the heap -/
structure RH (F : Fx) (m : List Addr) (h : Hh) (H : Hp) : Prop where
  len : m.length = h.n
  nd : m.Nodup
  big : h.n ≤ big
  at_ : ∀ i a, m[i]? = some a → ∃ o u, h.get i = some o ∧ H a = some u ∧ RO F m H o u
  tab : ∀ P ∈ F.T, GxR.TabG H P
  lam : LamX.Tabs F.L H
  dis : ∀ p ∈ F.L, p.1 ∉ F.T
  one : ∀ p ∈ F.L, ∀ q ∈ F.L, p.1 = q.1 → p.2 = q.2
theorem RH.of {m : List Addr} {h : Hh} {H : Hp} (r : RH F m h H) {i : Nat} {o : AO} (e : h.get i = some o) : ∃ a u, m[i]? = some a ∧ H a = some u ∧ RO F m H o u := by
  have hi := Hh.get_lt e
  rw [← r.len] at hi
  obtain ⟨o', u, e1, e2, e3⟩ := r.at_ i m[i] (List.getElem?_eq_getElem hi)
  rw [e] at e1; cases e1
  exact ⟨_, u, List.getElem?_eq_getElem hi, e2, e3⟩
/-- a new tuple, or any new thing that is not of the store -/
theorem Mono.laid {m : List Addr} {H : Hp} {p : Addr} {o : HO} (n : H p = none) : Mono F m H m (upd H p o) :=
  ⟨List.prefix_refl _, fun a u _ e => by rw [upd_ne (ne_of_none e n)]; exact e, fun P hP ⟨ps, e, t⟩ => ⟨ps, by rw [upd_ne (ne_of_none e n)]; exact e, t⟩,
   lams_stay (fun _ _ ps e => by rw [upd_ne (ne_of_none e n)]; exact e) fun a u _ e => by rw [upd_ne (ne_of_none e n)]; exact e⟩
theorem RH.laid {m : List Addr} {h : Hh} {H : Hp} {p : Addr} {o : HO} (r : RH F m h H) (n : H p = none) : RH F m h (upd H p o) :=
  ⟨r.len, r.nd, r.big, fun i a e => by
    obtain ⟨ob, u, e1, e2, e3⟩ := r.at_ i a e
    exact ⟨ob, u, e1, by rw [upd_ne (ne_of_none e2 n)]; exact e2, e3.mono (Mono.laid n)⟩, fun P hP => (Mono.laid (m := m) n).tab P hP (r.tab P hP), (Mono.laid (F := F) (m := m) n).lam r.lam, r.dis, r.one⟩
/-- a new thing of the store -/
theorem Mono.new {m : List Addr} {H : Hp} {p : Addr} {o : HO} (n : H p = none) : Mono F m H (m ++ [p]) (upd H p o) :=
  ⟨⟨[p], rfl⟩, (Mono.laid (F := F) (m := m) n).imm, (Mono.laid (F := F) (m := m) n).tab, (Mono.laid (F := F) (m := m) n).lam⟩
theorem RH.new {m : List Addr} {h : Hh} {H : Hp} {p : Addr} {o : AO} {u : HO} (r : RH F m h H) (n : H p = none) (hb : h.n < DI.big) (ro : RO F m H o u) : RH F (m ++ [p]) (h.new o) (upd H p u) := by
  have M : Mono F m H (m ++ [p]) (upd H p u) := Mono.new n
  refine ⟨by rw [List.length_append, r.len]; rfl, ?_, by show h.n + 1 ≤ DI.big; omega, fun i a e => ?_, fun P hP => M.tab P hP (r.tab P hP), M.lam r.lam, r.dis, r.one⟩
  · rw [List.nodup_append]
    refine ⟨r.nd, by simp, fun a ha b hb z => ?_⟩
    have hb : b = p := by simpa using hb
    rw [hb] at z
    obtain ⟨i, hi, e⟩ := List.getElem_of_mem ha
    obtain ⟨_, u', _, e2, _⟩ := r.at_ i a (by rw [List.getElem?_eq_getElem hi, e])
    rw [z, n] at e2; cases e2
  · rw [Hh.get_new r.big]
    by_cases hi : i = h.n
    · subst hi
      rw [if_pos rfl]
      have : (m ++ [p])[h.n]? = some p := by rw [← r.len, List.getElem?_append_right (Nat.le_refl _)]; simp
      rw [this] at e; cases e
      exact ⟨o, u, rfl, upd_same, ro.mono M⟩
    · rw [if_neg hi]
      have hl : i < (m ++ [p]).length := (List.getElem?_eq_some_iff.mp e).1
      rw [List.length_append, r.len] at hl
      have hl : i < h.n := by simp at hl; omega
      rw [List.getElem?_append_left (by rw [r.len]; exact hl)] at e
      obtain ⟨o', u', e1, e2, e3⟩ := r.at_ i a e
      exact ⟨o', u', e1, by rw [upd_ne (ne_of_none e2 n)]; exact e2, e3.mono M⟩
/-- a thing of the store is written -/
theorem Mono.write {m : List Addr} {H : Hp} {a : Addr} {u u' : HO} (e : H a = some u) (w : ¬ Imm u ∧ (∀ ps, u ≠ .tbl ps)) : Mono F m H m (upd H a u') :=
  ⟨List.prefix_refl _, fun b v i q => by
    rw [upd_ne (fun z => by subst z; rw [e] at q; cases q; exact w.1 i)]; exact q,
   fun P hP ⟨ps, q, t⟩ => ⟨ps, by rw [upd_ne (fun z => by subst z; rw [e] at q; exact w.2 ps (Option.some.inj q))]; exact q, t⟩,
   lams_stay (fun p _ ps q => by rw [upd_ne (fun z => by rw [z, e] at q; exact w.2 ps (Option.some.inj q))]; exact q) fun b v i q => by rw [upd_ne (fun z => by subst z; rw [e] at q; cases q; exact w.1 i)]; exact q⟩
theorem RH.write {m : List Addr} {h : Hh} {H : Hp} {i : Nat} {a : Addr} {o o' : AO} {u u' : HO} (r : RH F m h H) (ei : h.get i = some o) (ea : m[i]? = some a) (e : H a = some u) (ro : RO F m H o u) (ro' : RO F m H o' u') (nf : o.free := by trivial) : RH F m (h.put i o') (upd H a u') := by
  have M : Mono F m H m (upd H a u') := Mono.write e (ro.mut nf)
  refine ⟨r.len, r.nd, r.big, fun j b ej => ?_, fun P hP => M.tab P hP (r.tab P hP), M.lam r.lam, r.dis, r.one⟩
  rw [Hh.get_put r.big (Hh.get_lt ei)]
  by_cases hj : j = i
  · subst hj
    rw [ea] at ej; cases ej
    rw [if_pos rfl]
    exact ⟨o', u', rfl, upd_same, ro'.mono M⟩
  · rw [if_neg hj]
    obtain ⟨o2, u2, e1, e2, e3⟩ := r.at_ j b ej
    have hne : b ≠ a := fun z => by
      subst z
      obtain ⟨h1, q1⟩ := List.getElem?_eq_some_iff.mp ej
      obtain ⟨h2, q2⟩ := List.getElem?_eq_some_iff.mp ea
      exact hj ((List.getElem_inj r.nd).mp (q1.trans q2.symm))
    exact ⟨o2, u2, e1, by rw [upd_ne hne]; exact e2, e3.mono M⟩
/-- the slots -/
abbrev Sl := List (Option AV)
def RS (F : Fx) (m : List Addr) (H : Hp) (ρ : Sl) (σ : L2.St) : Prop := ρ.length = σ.length ∧ ∀ (i : Nat) (v : AV), ρ[i]? = some (some v) → ∃ u, σ[i]? = some (some u) ∧ RV F m H v u
theorem RS.mono {m m' : List Addr} {H H' : Hp} {ρ : Sl} {σ : L2.St} (M : Mono F m H m' H') (r : RS F m H ρ σ) : RS F m' H' ρ σ := ⟨r.1, fun i v e => let ⟨u, e1, e2⟩ := r.2 i v e; ⟨u, e1, e2.mono M⟩⟩
theorem RS.set {m : List Addr} {H : Hp} {ρ : Sl} {σ : L2.St} {i : Nat} {v : AV} {u : V} (r : RS F m H ρ σ) (h : RV F m H v u) : RS F m H (ρ.set i (some v)) (σ.set i (some u)) := by
  refine ⟨by rw [List.length_set, List.length_set]; exact r.1, fun j w e => ?_⟩
  by_cases z : i = j
  · subst z
    by_cases hi : i < ρ.length
    · rw [List.getElem?_set_self hi] at e
      cases e
      exact ⟨u, List.getElem?_set_self (by rw [← r.1]; exact hi), h⟩
    · rw [List.getElem?_eq_none (by simpa using Nat.le_of_not_lt hi)] at e; cases e
  · rw [List.getElem?_set_ne z] at e
    obtain ⟨w', e1, e2⟩ := r.2 j w e
    exact ⟨w', by rw [List.getElem?_set_ne z]; exact e1, e2⟩
def wipeS (ρ : Sl) : List Nat → Sl
  | [] => ρ
  | v :: vs => (wipeS ρ vs).set v none
theorem RS.wipe {m : List Addr} {H : Hp} {ρ : Sl} {σ : L2.St} (r : RS F m H ρ σ) : ∀ vs : List Nat, RS F m H (wipeS ρ vs) (L2.wipe σ vs)
  | [] => r
  | v :: vs => by
    have ih := RS.wipe r vs
    refine ⟨by unfold wipeS L2.wipe; rw [List.length_set, List.length_set]; exact ih.1, fun j w e => ?_⟩
    unfold wipeS at e
    unfold L2.wipe
    by_cases z : v = j
    · subst z
      by_cases hi : v < (wipeS ρ vs).length
      · rw [List.getElem?_set_self hi] at e; cases e
      · rw [List.getElem?_eq_none (by simpa using Nat.le_of_not_lt hi)] at e; cases e
    · rw [List.getElem?_set_ne z] at e
      obtain ⟨w', e1, e2⟩ := ih.2 j w e
      exact ⟨w', by rw [List.getElem?_set_ne z]; exact e1, e2⟩
end DI

set_option Elab.async false
set_option linter.all false
set_option maxRecDepth 100000
set_option maxHeartbeats 4000000
/-! outcomes; expressions, tests, arguments over the store -/
namespace DI
open PySem PySem.Spec PyProof.Rows L2

inductive Out (α : Type) where
  | ok (v : α) (h : Hh)
  | exc (c : Str) (fs : List (Str × AV)) (h : Hh)
  | bad
def bindO {α β : Type} (o : Out α) (k : α → Hh → Out β) : Out β := match o with
  | .ok v h => k v h
  | .exc c fs h => .exc c fs h
  | .bad => .bad
abbrev WX' := Value → Option Addr → L2.St → Hp → Prop
section
variable (F : Fx)
/-- an exception leaves -/
def ExcOk (m : List Addr) (H : Hp) (c : Str) (fs : List (Str × AV)) (h' : Hh) (E : XK) : Prop := ∀ m' H' d us a, RH F m' h' H' → Mono F m H m' H' → F.G c = some a → H' d = some (.xd us) → RKV (F := F) m' H' fs us → E (.ref a) (some d) H'
def OkG {α : Type} (m : List Addr) (H : Hp) (o : Out α) (P : α → Hh → List Addr → Hp → Prop) (E : XK) : Prop := match o with
  | .ok v h' => ∀ m' H', RH F m' h' H' → Mono F m H m' H' → P v h' m' H'
  | .exc c fs h' => ExcOk F m H c fs h' E
  | .bad => False
variable {F}
variable {α β : Type} {m m1 : List Addr} {H H1 : Hp} {E : XK}
theorem okg_mono {o : Out α} {P : α → Hh → List Addr → Hp → Prop} (h : OkG F m H o P E) (M : Mono F m H m1 H1) : OkG F m1 H1 o P E := by
  cases o with
  | ok v h' => exact fun m' H' r M' => h m' H' r (M.trans M')
  | exc c fs h' => exact fun m' H' d us a r M' e1 e2 e3 => h m' H' d us a r (M.trans M') e1 e2 e3
  | bad => exact h
theorem okg_bind {o : Out α} {k : α → Hh → Out β} {P : β → Hh → List Addr → Hp → Prop} (h : OkG F m H (bindO o k) P E) : OkG F m H o (fun v h1 m1 H1 => OkG F m1 H1 (k v h1) P E) E := by
  cases o with
  | ok v h' => exact fun m' H' r M' => okg_mono h M'
  | exc c fs h' => exact h
  | bad => exact h
theorem okg_imp {o : Out α} {P P' : α → Hh → List Addr → Hp → Prop} (h : OkG F m H o P E) (q : ∀ v h' m' H', RH F m' h' H' → Mono F m H m' H' → P v h' m' H' → P' v h' m' H') : OkG F m H o P' E := by
  cases o with
  | ok v h' => exact fun m' H' r M' => q v h' m' H' r M' (h m' H' r M')
  | exc c fs h' => exact h
  | bad => exact h
theorem okg_ok {v : α} {h : Hh} {P : α → Hh → List Addr → Hp → Prop} (rh : RH F m h H) (q : OkG F m H (.ok v h) P E) : P v h m H := q m H rh (Mono.refl m H)
theorem okg_at {v : α} {h : Hh} {P : α → Hh → List Addr → Hp → Prop} (q : OkG F m H (.ok v h) P E) (rh : RH F m1 h H1) (M : Mono F m H m1 H1) : P v h m1 H1 := q m1 H1 rh M
/-- what is wanted of a value, of values, of a bool -/
def PV (F : Fx) (Q : VK) : AV → Hh → List Addr → Hp → Prop := fun v _ m' H' => ∀ u, RV F m' H' v u → Q u H'
def PVs (F : Fx) (Q : List V → Hp → Prop) : List AV → Hh → List Addr → Hp → Prop := fun v _ m' H' => ∀ u, RVs F m' H' v u → Q u H'
def PB (Q : Bool → Hp → Prop) : Bool → Hh → List Addr → Hp → Prop := fun b _ _ H' => Q b H'
end
abbrev EvF := Sl → Hh → Out AV
abbrev EvT := Sl → Hh → Out Bool
abbrev EvA := Sl → Hh → Out (List AV)
section
variable (F : Fx) (W : WX')
def Pe (t : TE) (f : EvF) : Prop := ∀ m H h σ ρ Q, RH F m h H → RS F m H ρ σ → OkG F m H (f ρ h) (PV F Q) (fun c d H' => W c d σ H') → t σ H Q
def Ptt (t : TT) (f : EvT) : Prop := ∀ m H h σ ρ Q, RH F m h H → RS F m H ρ σ → OkG F m H (f ρ h) (PB Q) (fun c d H' => W c d σ H') → t σ H Q
def Paa (t : TA) (f : EvA) : Prop := ∀ m H h σ ρ Q, RH F m h H → RS F m H ρ σ → OkG F m H (f ρ h) (PVs F Q) (fun c d H' => W c d σ H') → t σ H Q
/-- operators: two values; lists of values -/
def P2 (r : R2) (g : AV → AV → Hh → Out AV) : Prop := ∀ m H h x y u v Q E, RH F m h H → RV F m H x u → RV F m H y v → OkG F m H (g x y h) (PV F Q) E → r u v H Q
def PLs (r : List V → Hp → VK → Prop) (g : List AV → Hh → Out AV) : Prop := ∀ m H h xs us Q E, RH F m h H → RVs F m H xs us → OkG F m H (g xs h) (PV F Q) E → r us H Q
variable {F W}
def xVar (i : Nat) : EvF := fun ρ h => match ρ[i]? with
  | some (some v) => .ok v h
  | _ => .bad
theorem x_var (i : Nat) : Pe F W (tVar i) (xVar i) := by
  intro m H h σ ρ Q rh rs q
  unfold xVar at q
  split at q
  · rename_i v e
    obtain ⟨u, e1, e2⟩ := rs.2 i v e
    exact ⟨u, e1, okg_ok rh q u e2⟩
  · exact q.elim
def xC (v : AV) : EvF := fun _ h => .ok v h
theorem x_c {v : AV} {u : V} (r : ∀ m H, RV F m H v u) : Pe F W (tC u) (xC v) := fun m H h σ ρ Q rh rs q => okg_ok rh q u (r m H)
def x2 (g : AV → AV → Hh → Out AV) (fa fb : EvF) : EvF := fun ρ h => bindO (fa ρ h) fun x h1 => bindO (fb ρ h1) fun y h2 => g x y h2
theorem x_op {r : R2} {g : AV → AV → Hh → Out AV} {ta tb : TE} {fa fb : EvF} (hr : P2 F r g) (ha : Pe F W ta fa) (hb : Pe F W tb fb) : Pe F W (tOp r ta tb) (x2 g fa fb) := by
  intro m H h σ ρ Q rh rs q
  refine ha m H h σ ρ _ rh rs (okg_imp (okg_bind q) fun x h1 m1 H1 r1 M1 q1 u ru => ?_)
  refine hb m1 H1 h1 σ ρ _ r1 (rs.mono M1) (okg_imp (okg_bind q1) fun y h2 m2 H2 r2 M2 q2 v rv => ?_)
  exact hr m2 H2 h2 x y u v Q _ r2 (ru.mono M2) rv q2
def xA (g : List AV → Hh → Out AV) (fa : EvA) : EvF := fun ρ h => bindO (fa ρ h) g
theorem x_callB {r : List V → Hp → VK → Prop} {g : List AV → Hh → Out AV} {t : TA} {fa : EvA} (hr : PLs F r g) (ha : Paa F W t fa) : Pe F W (tCB r t) (xA g fa) := by
  intro m H h σ ρ Q rh rs q
  exact ha m H h σ ρ _ rh rs (okg_imp (okg_bind q) fun x h1 m1 H1 r1 M1 q1 u ru => hr m1 H1 h1 x u Q _ r1 ru q1)
def xNil : EvA := fun _ h => .ok [] h
def xCons (fa : EvF) (fr : EvA) : EvA := fun ρ h => bindO (fa ρ h) fun x h1 => bindO (fr ρ h1) fun xs h2 => .ok (x :: xs) h2
theorem x_nil : Paa F W tNil xNil := fun m H h σ ρ Q rh rs q => okg_ok rh q [] .nil
theorem x_cons {ta : TE} {tr : TA} {fa : EvF} {fr : EvA} (ha : Pe F W ta fa) (hr : Paa F W tr fr) : Paa F W (tCons ta tr) (xCons fa fr) := by
  intro m H h σ ρ Q rh rs q
  refine ha m H h σ ρ _ rh rs (okg_imp (okg_bind q) fun x h1 m1 H1 r1 M1 q1 u ru => ?_)
  refine hr m1 H1 h1 σ ρ _ r1 (rs.mono M1) (okg_imp (okg_bind q1) fun y h2 m2 H2 r2 M2 q2 v rv => ?_)
  exact okg_ok r2 q2 (u :: v) (.cons (ru.mono M2) rv)
theorem rvs_len {m : List Addr} {H : Hp} : ∀ {xs : List AV} {us : List V}, RVs F m H xs us → us.length = xs.length
  | _, _, .nil => rfl
  | _, _, .cons _ t => congrArg Nat.succ (rvs_len t)
def most : Nat := 1000000
theorem most_ok {n : Nat} (h : n ≤ most) : n ≤ sizeLine := by unfold most at h; rw [sizeLine_eq]; omega
/-- a new tuple; a new list -/
def mkT (xs : List AV) (h : Hh) : Out AV := if xs.length ≤ most then .ok (.tup xs) h else .bad
def mkO (o : AO) (h : Hh) : Out AV := if h.n < big then .ok (.ref h.n) (h.new o) else .bad
def mkL (xs : List AV) (h : Hh) : Out AV := if xs.length ≤ most then mkO (.lst xs) h else .bad
theorem mkT_ok {m : List Addr} {H : Hp} {h : Hh} {xs : List AV} {us : List V} {Q : VK} {E : XK} (rh : RH F m h H) (r : RVs F m H xs us) (q : OkG F m H (mkT xs h) (PV F Q) E) :
    us.length ≤ sizeLine ∧ ∀ p, H p = none → Q (.ref p) (upd H p (.tup us)) := by
  unfold mkT at q
  by_cases hz : xs.length ≤ most
  · rw [if_pos hz] at q
    refine ⟨by rw [rvs_len r]; exact most_ok hz, fun p n => ?_⟩
    have M : Mono F m H m (upd H p (.tup us)) := Mono.laid n
    exact okg_at q (rh.laid n) M (.ref p) (.tup upd_same (r.mono M))
  · rw [if_neg hz] at q; exact q.elim
theorem new_ref {m : List Addr} {h : Hh} {H : Hp} (rh : RH F m h H) (p : Addr) (H' : Hp) : RV F (m ++ [p]) H' (.ref h.n) (.ref p) := .ref (by rw [← rh.len, List.getElem?_append_right (Nat.le_refl _)]; simp)
theorem mkO_ok {m : List Addr} {H : Hp} {h : Hh} {o : AO} {u : HO} {Q : VK} {E : XK} (rh : RH F m h H) (r : RO F m H o u) (q : OkG F m H (mkO o h) (PV F Q) E) : ∀ p, H p = none → Q (.ref p) (upd H p u) := by
  unfold mkO at q
  by_cases hb : h.n < big
  · rw [if_pos hb] at q
    intro p n
    exact okg_at q (rh.new n hb r) (Mono.new n) (.ref p) (new_ref rh p _)
  · rw [if_neg hb] at q; exact q.elim
theorem mkL_ok {m : List Addr} {H : Hp} {h : Hh} {xs : List AV} {us : List V} {Q : VK} {E : XK} (rh : RH F m h H) (r : RVs F m H xs us) (q : OkG F m H (mkL xs h) (PV F Q) E) :
    us.length ≤ sizeLine ∧ ∀ p, H p = none → Q (.ref p) (upd H p (.lst us)) := by
  unfold mkL at q
  by_cases hz : xs.length ≤ most
  · rw [if_pos hz] at q
    exact ⟨by rw [rvs_len r]; exact most_ok hz, mkO_ok rh (.lst r) q⟩
  · rw [if_neg hz] at q; exact q.elim
theorem x_tup {t : TA} {fa : EvA} (ha : Paa F W t fa) : Pe F W (tTup t) (xA mkT fa) := by
  intro m H h σ ρ Q rh rs q
  exact ha m H h σ ρ _ rh rs (okg_imp (okg_bind q) fun x h1 m1 H1 r1 M1 q1 u ru => mkT_ok r1 ru q1)
theorem x_lst {t : TA} {fa : EvA} (ha : Paa F W t fa) : Pe F W (tLst t) (xA mkL fa) := by
  intro m H h σ ρ Q rh rs q
  exact ha m H h σ ρ _ rh rs (okg_imp (okg_bind q) fun x h1 m1 H1 r1 M1 q1 u ru => mkL_ok r1 ru q1)
/-! ### truth -/
def truA (v : AV) (h : Hh) : Option Bool := match v with
  | .non => some false
  | .bl b => some b
  | .int i => some (i != 0)
  | .tup xs => some (!xs.isEmpty)
  | .kt xs => some (!xs.isEmpty)
  | .ref i => match h.get i with
    | some (.lst xs) => some (!xs.isEmpty)
    | some (.dk kvs) => some (!kvs.isEmpty)
    | _ => none
  | _ => none
theorem rvs_empty {m : List Addr} {H : Hp} {xs : List AV} {us : List V} (r : RVs F m H xs us) : us.isEmpty = xs.isEmpty := by cases r <;> rfl
theorem rkv_empty {κ : Type} {m : List Addr} {H : Hp} {xs : List (κ × AV)} {us : List (κ × V)} (r : RKV (F := F) m H xs us) : us.isEmpty = xs.isEmpty := by cases r <;> rfl
theorem RV.at_ {m : List Addr} {H : Hp} {h : Hh} {i : Nat} {u : V} {o : AO} (rh : RH F m h H) (r : RV F m H (.ref i) u) (e : h.get i = some o) : ∃ a w, u = .ref a ∧ m[i]? = some a ∧ H a = some w ∧ RO F m H o w := by
  cases r with
  | ref e1 =>
    obtain ⟨a, w, e2, e3, e4⟩ := rh.of e
    rw [e1] at e2; cases e2
    exact ⟨_, w, rfl, e1, e3, e4⟩
theorem tru_ok' {m : List Addr} {H : Hp} {h : Hh} {v : AV} {u : V} {k : Bool} (rh : RH F m h H) (r : RV F m H v u) (e : truA v h = some k) : TruV F.K u H k := by
  cases v with
  | non => cases r; cases e; rfl
  | bl b => cases r; cases e; rfl
  | int i => cases r; cases e; rfl
  | str x => cases e
  | ty n => cases e
  | gl x => cases e
  | rg lo hi => cases e
  | sl xs => cases e
  | ex c ns vs => cases e
  | tup xs =>
    cases e
    cases r with
    | tup h1 h2 => exact .inr (.inl ⟨_, .inl (.inl h1), by rw [rvs_empty h2]⟩)
  | kt xs =>
    cases e
    cases r with
    | kt h1 h2 => exact .inr (.inl ⟨_, kt_at h1, by rw [rvs_empty h2]⟩)
  | ref i =>
    unfold truA at e
    cases z : h.get i with
    | none => simp only [z] at e; cases e
    | some o =>
      obtain ⟨a, w, rfl, e1, e2, e3⟩ := r.at_ rh z
      cases o with
      | lst xs => simp only [z] at e; cases e; cases e3 with | lst q => exact .inl ⟨_, .inl (.inl e2), by rw [rvs_empty q]⟩
      | dk kvs => simp only [z] at e; cases e; cases e3 with | dk q => exact .inr (.inr ⟨_, e2, by rw [rkv_empty q]⟩)
      | dt kvs => simp only [z] at e; cases e
      | fk _ => simp only [z] at e; cases e
def optO {α : Type} (o : Option α) (h : Hh) : Out α := match o with
  | some v => .ok v h
  | none => .bad
theorem opt_ok {α : Type} {m : List Addr} {H : Hp} {h : Hh} {o : Option α} {P : α → Hh → List Addr → Hp → Prop} {E : XK} (rh : RH F m h H) (q : OkG F m H (optO o h) P E) : ∃ v, o = some v ∧ P v h m H := by
  cases o with
  | none => exact q.elim
  | some v => exact ⟨v, rfl, okg_ok rh q⟩
/-- a test by truth -/
def xTru (fa : EvF) : EvT := fun ρ h => bindO (fa ρ h) fun x h1 => optO (truA x h1) h1
theorem x_tru {ta : TE} {fa : EvF} (ha : Pe F W ta fa) : Ptt F W (fun σ H Q => ta σ H fun x H' => ∃ k, TruV F.K x H' k ∧ Q k H') (xTru fa) := by
  intro m H h σ ρ Q rh rs q
  refine ha m H h σ ρ _ rh rs (okg_imp (okg_bind q) fun x h1 m1 H1 r1 M1 q1 u ru => ?_)
  obtain ⟨k, e, q2⟩ := opt_ok r1 q1
  exact ⟨k, tru_ok' r1 ru e, q2⟩
def asBl : AV → Option Bool
  | .bl b => some b
  | _ => none
theorem asBl_some {v : AV} {b : Bool} (e : asBl v = some b) : v = .bl b := by cases v <;> simp [asBl] at e; rw [e]
def xTB (fa : EvF) : EvT := fun ρ h => bindO (fa ρ h) fun x h1 => optO (asBl x) h1
theorem x_tB {ta : TE} {fa : EvF} (ha : Pe F W ta fa) : Ptt F W (tB ta) (xTB fa) := by
  intro m H h σ ρ Q rh rs q
  refine ha m H h σ ρ _ rh rs (okg_imp (okg_bind q) fun x h1 m1 H1 r1 M1 q1 u ru => ?_)
  obtain ⟨k, e, q2⟩ := opt_ok r1 q1
  have e := asBl_some e
  subst e
  cases ru
  exact ⟨k, rfl, q2⟩
def xOrT (fa fb : EvF) : EvF := fun ρ h => bindO (fa ρ h) fun x h1 => bindO (optO (truA x h1) h1) fun k h2 => if k = true then .ok x h2 else fb ρ h2
def xAndT (fa fb : EvF) : EvF := fun ρ h => bindO (fa ρ h) fun x h1 => bindO (optO (truA x h1) h1) fun k h2 => if k = true then fb ρ h2 else .ok x h2
def xNotT (fa : EvF) : EvF := fun ρ h => bindO (fa ρ h) fun x h1 => bindO (optO (truA x h1) h1) fun k h2 => .ok (.bl (!k)) h2
theorem x_orT {ta tb : TE} {fa fb : EvF} (ha : Pe F W ta fa) (hb : Pe F W tb fb) : Pe F W (tOrT F.K ta tb) (xOrT fa fb) := by
  intro m H h σ ρ Q rh rs q
  refine ha m H h σ ρ _ rh rs (okg_imp (okg_bind q) fun x h1 m1 H1 r1 M1 q1 u ru => ?_)
  obtain ⟨k, e, q2⟩ := opt_ok r1 (okg_bind q1)
  refine ⟨k, tru_ok' r1 ru e, ?_⟩
  cases k with
  | true => exact okg_ok r1 q2 u ru
  | false => exact hb m1 H1 h1 σ ρ Q r1 (rs.mono M1) q2
theorem x_andT {ta tb : TE} {fa fb : EvF} (ha : Pe F W ta fa) (hb : Pe F W tb fb) : Pe F W (tAndT F.K ta tb) (xAndT fa fb) := by
  intro m H h σ ρ Q rh rs q
  refine ha m H h σ ρ _ rh rs (okg_imp (okg_bind q) fun x h1 m1 H1 r1 M1 q1 u ru => ?_)
  obtain ⟨k, e, q2⟩ := opt_ok r1 (okg_bind q1)
  refine ⟨k, tru_ok' r1 ru e, ?_⟩
  cases k with
  | true => exact hb m1 H1 h1 σ ρ Q r1 (rs.mono M1) q2
  | false => exact okg_ok r1 q2 u ru
theorem x_notT {ta : TE} {fa : EvF} (ha : Pe F W ta fa) : Pe F W (tNotT F.K ta) (xNotT fa) := by
  intro m H h σ ρ Q rh rs q
  refine ha m H h σ ρ _ rh rs (okg_imp (okg_bind q) fun x h1 m1 H1 r1 M1 q1 u ru => ?_)
  obtain ⟨k, e, q2⟩ := opt_ok r1 (okg_bind q1)
  exact ⟨k, tru_ok' r1 ru e, okg_ok r1 q2 _ (.bl _)⟩
/-! ### tests put together -/
def xAnd (fa fb : EvT) : EvT := fun ρ h => bindO (fa ρ h) fun k h1 => if k = true then fb ρ h1 else .ok false h1
def xOr (fa fb : EvT) : EvT := fun ρ h => bindO (fa ρ h) fun k h1 => if k = true then .ok true h1 else fb ρ h1
def xNot (fa : EvT) : EvT := fun ρ h => bindO (fa ρ h) fun k h1 => .ok (!k) h1
theorem x_and {ta tb : TT} {fa fb : EvT} (ha : Ptt F W ta fa) (hb : Ptt F W tb fb) : Ptt F W (tAnd ta tb) (xAnd fa fb) := by
  intro m H h σ ρ Q rh rs q
  refine ha m H h σ ρ _ rh rs (okg_imp (okg_bind q) fun k h1 m1 H1 r1 M1 q1 => ?_)
  cases k with
  | true => exact hb m1 H1 h1 σ ρ Q r1 (rs.mono M1) q1
  | false => exact okg_ok (P := PB Q) (E := fun c d H' => W c d σ H') r1 q1
theorem x_or {ta tb : TT} {fa fb : EvT} (ha : Ptt F W ta fa) (hb : Ptt F W tb fb) : Ptt F W (tOr ta tb) (xOr fa fb) := by
  intro m H h σ ρ Q rh rs q
  refine ha m H h σ ρ _ rh rs (okg_imp (okg_bind q) fun k h1 m1 H1 r1 M1 q1 => ?_)
  cases k with
  | false => exact hb m1 H1 h1 σ ρ Q r1 (rs.mono M1) q1
  | true => exact okg_ok (P := PB Q) (E := fun c d H' => W c d σ H') r1 q1
theorem x_not {ta : TT} {fa : EvT} (ha : Ptt F W ta fa) : Ptt F W (tNot ta) (xNot fa) := by
  intro m H h σ ρ Q rh rs q
  exact ha m H h σ ρ _ rh rs (okg_imp (okg_bind q) fun k h1 m1 H1 r1 M1 q1 => okg_ok (P := PB Q) (E := fun c d H' => W c d σ H') r1 q1)
def xIf (fc : EvT) (fa fb : EvF) : EvF := fun ρ h => bindO (fc ρ h) fun k h1 => if k = true then fa ρ h1 else fb ρ h1
theorem x_if {tc : TT} {ta tb : TE} {fc : EvT} {fa fb : EvF} (hc : Ptt F W tc fc) (ha : Pe F W ta fa) (hb : Pe F W tb fb) : Pe F W (tIf tc ta tb) (xIf fc fa fb) := by
  intro m H h σ ρ Q rh rs q
  refine hc m H h σ ρ _ rh rs (okg_imp (okg_bind q) fun k h1 m1 H1 r1 M1 q1 => ?_)
  cases k with
  | true => exact ha m1 H1 h1 σ ρ Q r1 (rs.mono M1) q1
  | false => exact hb m1 H1 h1 σ ρ Q r1 (rs.mono M1) q1
/-- a op b op' c -/
def xCh (g g' : AV → AV → Hh → Out AV) (fa fb fc : EvF) : EvF := fun ρ h => bindO (fa ρ h) fun x h1 => bindO (fb ρ h1) fun y h2 => bindO (g x y h2) fun z h3 => bindO (optO (asBl z) h3) fun k h4 =>
  if k = true then bindO (fc ρ h4) fun u h5 => g' y u h5 else .ok (.bl false) h4
theorem x_chain {r r' : R2} {g g' : AV → AV → Hh → Out AV} {ta tb tc : TE} {fa fb fc : EvF} (hr : P2 F r g) (hr' : P2 F r' g') (ha : Pe F W ta fa) (hb : Pe F W tb fb) (hc : Pe F W tc fc) : Pe F W (tChain r r' ta tb tc) (xCh g g' fa fb fc) := by
  intro m H h σ ρ Q rh rs q
  refine ha m H h σ ρ _ rh rs (okg_imp (okg_bind q) fun x h1 m1 H1 r1 M1 q1 u ru => ?_)
  refine hb m1 H1 h1 σ ρ _ r1 (rs.mono M1) (okg_imp (okg_bind q1) fun y h2 m2 H2 r2 M2 q2 v rv => ?_)
  refine hr m2 H2 h2 x y u v _ _ r2 (ru.mono M2) rv (okg_imp (okg_bind q2) fun z h3 m3 H3 r3 M3 q3 w rw' => ?_)
  obtain ⟨k, e, q4⟩ := opt_ok r3 (okg_bind q3)
  have e := asBl_some e
  subst e
  cases rw'
  refine ⟨k, rfl, ?_⟩
  cases k with
  | false => exact okg_ok r3 q4 _ (.bl false)
  | true =>
    show tc σ H3 _
    refine hc m3 H3 h3 σ ρ _ r3 (rs.mono (M1.trans (M2.trans M3))) (okg_imp (okg_bind q4) fun c h5 m5 H5 r5 M5 q5 w5 rw5 => ?_)
    exact hr' m5 H5 h5 y c v w5 Q _ r5 (rv.mono (M3.trans M5)) rw5 q5
end
end DI

set_option Elab.async false
set_option linter.all false
set_option maxRecDepth 100000
set_option maxHeartbeats 4000000
/-! operators over the store -/
namespace DI
open PySem PySem.Spec PyProof.Rows L2
abbrev D := PyData
section
variable {F : Fx} {m : List Addr} {H : Hp} {h : Hh}
/-! ### a value as data -/
def mapO {α β : Type} (f : α → Option β) : List α → Option (List β)
  | [] => some []
  | x :: r => match f x with
    | none => none
    | some y => match mapO f r with
      | none => none
      | some ys => some (y :: ys)
def toD : Nat → Hh → AV → Option D
  | 0, _, _ => none
  | k + 1, h, v => match v with
    | .non => some .none
    | .bl b => some (.bool b)
    | .int i => some (.int i)
    | .str x => some (.str x)
    | .tup xs => match mapO (toD k h) xs with
      | some ds => some (.tuple ds)
      | none => none
    | .kt xs => match mapO (toD k h) xs with
      | some ds => some (.tuple ds)
      | none => none
    | .sl xs => match mapO (toD k h) xs with
      | some ds => some (.list ds)
      | none => none
    | .ref i => match h.get i with
      | some (.lst xs) => match mapO (toD k h) xs with
        | some ds => some (.list ds)
        | none => none
      | _ => none
    | _ => none
theorem toDs_ok {f : AV → Option D} (ih : ∀ v u d, RV F m H v u → f v = some d → Dp F.K H u d) : ∀ {xs : List AV} {us : List V} {ds : List D}, RVs F m H xs us → mapO f xs = some ds → DpAll F.K H us ds
  | _, _, _, .nil, e => by cases e; exact .nil
  | x :: r, _, ds, .cons rx rr, e => by
    unfold mapO at e
    cases e1 : f x with
    | none => simp only [e1] at e; cases e
    | some y =>
      cases e2 : mapO f r with
      | none => simp only [e1, e2] at e; cases e
      | some ys =>
        simp only [e1, e2] at e
        cases e
        exact .cons (ih _ _ _ rx e1) (toDs_ok ih rr e2)
theorem toD_ok (rh : RH F m h H) : ∀ (k : Nat) (v : AV) (u : V) (d : D), RV F m H v u → toD k h v = some d → Dp F.K H u d
  | 0, _, _, _, _, e => by cases e
  | k + 1, v, u, d, r, e => by
    unfold toD at e
    cases v with
    | non => cases e; cases r; exact .non
    | bl b => cases e; cases r; exact .bl b
    | int i => cases e; cases r; exact .int i
    | str x => cases e; cases r; exact .str x
    | ty n => cases e
    | gl x => cases e
    | rg lo hi => cases e
    | ex c ns vs => cases e
    | sl xs =>
      cases r with
      | sl hs rs =>
        cases z : mapO (toD k h) xs with
        | none => simp only [z] at e; cases e
        | some ds =>
          simp only [z] at e
          cases e
          exact .lst hs.sql (toDs_ok (fun v u d => toD_ok rh k v u d) rs z)
    | tup xs =>
      cases r with
      | tup hs rs =>
        cases z : mapO (toD k h) xs with
        | none => simp only [z] at e; cases e
        | some ds =>
          simp only [z] at e
          cases e
          exact .tup (.inl (.inl hs)) (toDs_ok (fun v u d => toD_ok rh k v u d) rs z)
    | kt xs =>
      cases r with
      | kt hs rs =>
        cases z : mapO (toD k h) xs with
        | none => simp only [z] at e; cases e
        | some ds =>
          simp only [z] at e
          cases e
          exact .tup (kt_at hs) (toDs_ok (fun v u d => toD_ok rh k v u d) rs z)
    | ref i =>
      cases z : h.get i with
      | none => simp only [z] at e; cases e
      | some o =>
        obtain ⟨a, w, rfl, e1, e2, e3⟩ := r.at_ rh z
        cases o with
        | dk kvs => simp only [z] at e; cases e
        | dt kvs => simp only [z] at e; cases e
        | fk _ => simp only [z] at e; cases e
        | lst xs =>
          cases e3 with
          | lst rs =>
            cases y : mapO (toD k h) xs with
            | none => simp only [z, y] at e; cases e
            | some ds =>
              simp only [z, y] at e
              cases e
              exact .lst (.inl (.inl e2)) (toDs_ok (fun v u d => toD_ok rh k v u d) rs y)
def dat (v : AV) (h : Hh) : Option D := match toD 20 h v with
  | some d => if SeqAt.shaped d = true then some d else none
  | none => none
theorem dat_ok {v : AV} {u : V} {d : D} (rh : RH F m h H) (r : RV F m H v u) (e : dat v h = some d) : Dp F.K H u d ∧ SeqAt.shaped d = true := by
  unfold dat at e
  cases z : toD 20 h v with
  | none => simp only [z] at e; cases e
  | some d' =>
    simp only [z] at e
    split at e
    · rename_i hs
      cases e
      exact ⟨toD_ok rh 20 v u d r z, hs⟩
    · cases e
end
section
variable {F : Fx}
/-! ### either of two rules -/
def rOr (r r' : R2) : R2 := fun x y H Q => r x y H Q ∨ r' x y H Q
theorem opr_or {X : Cx} {f : Value → Value → Sem Value} {r r' : R2} (a : OpR X f r) (b : OpR X f r') : OpR X f (rOr r r') := fun pins s σ H x y v u Q I rx ry h => h.elim (a pins s σ H x y v u Q I rx ry) (b pins s σ H x y v u Q I rx ry)
def gOr (g g' : AV → AV → Hh → Out AV) : AV → AV → Hh → Out AV := fun x y h => match g x y h with
  | .bad => g' x y h
  | .ok v h' => .ok v h'
  | .exc c fs h' => .exc c fs h'
theorem p_or {r r' : R2} {g g' : AV → AV → Hh → Out AV} (a : P2 F r g) (b : P2 F r' g') : P2 F (rOr r r') (gOr g g') := by
  intro m H h x y u v Q E rh ru rv q
  unfold gOr at q
  cases e : g x y h with
  | bad => rw [e] at q; exact .inr (b m H h x y u v Q E rh ru rv q)
  | ok w h' => rw [e] at q; exact .inl (a m H h x y u v Q E rh ru rv (by rw [e]; exact q))
  | exc c fs h' => rw [e] at q; exact .inl (a m H h x y u v Q E rh ru rv (by rw [e]; exact q))
/-! ### ints -/
def gII (g : Int → Int → AV) : AV → AV → Hh → Out AV := fun x y h => match x, y with
  | .int i, .int j => .ok (g i j) h
  | _, _ => .bad
theorem gII_ok {g : Int → Int → AV} {m : List Addr} {H : Hp} {h : Hh} {x y : AV} {u v : V} {P : AV → Hh → List Addr → Hp → Prop} {E : XK} (rh : RH F m h H) (ru : RV F m H x u) (rv : RV F m H y v) (q : OkG F m H (gII g x y h) P E) :
    ∃ i j, u = .int i ∧ v = .int j ∧ P (g i j) h m H := by
  unfold gII at q
  split at q
  · cases ru; cases rv
    exact ⟨_, _, rfl, rfl, okg_ok rh q⟩
  · exact q.elim
theorem p_ii {gv : Int → Int → V} {g : Int → Int → AV} (hg : ∀ i j m H, RV F m H (g i j) (gv i j)) : P2 F (rI0 gv) (gII g) := by
  intro m H h x y u v Q E rh ru rv q
  obtain ⟨i, j, rfl, rfl, q⟩ := gII_ok rh ru rv q
  exact ⟨i, j, rfl, rfl, q _ (hg i j m H)⟩
def gIIc (C : Int → Int → Bool) (g : Int → Int → AV) : AV → AV → Hh → Out AV := fun x y h => match x, y with
  | .int i, .int j => if C i j = true then .ok (g i j) h else .bad
  | _, _ => .bad
theorem p_iic {Cp : Int → Int → Prop} {C : Int → Int → Bool} {gv : Int → Int → V} {g : Int → Int → AV} (hc : ∀ i j, C i j = true → Cp i j) (hg : ∀ i j m H, RV F m H (g i j) (gv i j)) : P2 F (rI Cp gv) (gIIc C g) := by
  intro m H h x y u v Q E rh ru rv q
  unfold gIIc at q
  split at q
  · split at q
    · rename_i hz
      cases ru; cases rv
      exact ⟨_, _, rfl, rfl, hc _ _ hz, okg_ok rh q _ (hg _ _ m H)⟩
    · exact q.elim
  · exact q.elim
def gAddI := gII fun i j => .int (i + j)
def gSub := gII fun i j => .int (i - j)
def gLt := gII fun i j => .bl (decide (i < j))
def gLe := gII fun i j => .bl (decide (i ≤ j))
def gGt := gII fun i j => .bl (decide (j < i))
def gGe := gII fun i j => .bl (decide (j ≤ i))
theorem p_addI : P2 F (rI0 fun i j => .int (i + j)) gAddI := p_ii fun _ _ _ _ => .int _
theorem p_sub : P2 F (rI0 fun i j => .int (i - j)) gSub := p_ii fun _ _ _ _ => .int _
theorem p_lt : P2 F (rI0 fun i j => .bl (decide (i < j))) gLt := p_ii fun _ _ _ _ => .bl _
theorem p_le : P2 F (rI0 fun i j => .bl (decide (i ≤ j))) gLe := p_ii fun _ _ _ _ => .bl _
theorem p_gt : P2 F (rI0 fun i j => .bl (decide (j < i))) gGt := p_ii fun _ _ _ _ => .bl _
theorem p_ge : P2 F (rI0 fun i j => .bl (decide (j ≤ i))) gGe := p_ii fun _ _ _ _ => .bl _
def gMul := gIIc (fun i j => decide ((-(2 ^ 64) < i ∧ i < 2 ^ 64) ∨ (-(2 ^ 64) < j ∧ j < 2 ^ 64))) fun i j => .int (i * j)
theorem p_mul : P2 F (rI CMul fun i j => .int (i * j)) gMul := p_iic (fun i j h => by have h := of_decide_eq_true h; exact h) fun _ _ _ _ => .int _
def gMod := gIIc (fun _ j => decide (0 < j)) fun i j => .int (i % j)
theorem p_mod : P2 F (rI (fun _ j => 0 < j) fun i j => .int (i % j)) gMod := p_iic (fun i j h => of_decide_eq_true h) fun _ _ _ _ => .int _
def gShr := gIIc (fun _ j => decide (0 ≤ j)) fun i j => .int (i / 2 ^ j.toNat)
theorem p_shr : P2 F (rI (fun _ j => 0 ≤ j) fun i j => .int (i / 2 ^ j.toNat)) gShr := p_iic (fun i j h => of_decide_eq_true h) fun _ _ _ _ => .int _
def gAndI := gII fun i j => .int (Builtin.bitAnd i j)
def gOrI := gII fun i j => .int (Builtin.bitOr i j)
theorem p_andI : P2 F (rI0 fun i j => .int (Builtin.bitAnd i j)) gAndI := p_ii fun _ _ _ _ => .int _
theorem p_orI : P2 F (rI0 fun i j => .int (Builtin.bitOr i j)) gOrI := p_ii fun _ _ _ _ => .int _
/-! ### == and != -/
def gEqD (neg : Bool) : AV → AV → Hh → Out AV := fun x y h => match dat x h, dat y h with
  | some d, some e => .ok (.bl (if neg = true then !(PyData.eqv d e) else PyData.eqv d e)) h
  | _, _ => .bad
theorem gEqD_ok {neg : Bool} {m : List Addr} {H : Hp} {h : Hh} {x y : AV} {u v : V} {P : AV → Hh → List Addr → Hp → Prop} {E : XK} (rh : RH F m h H) (ru : RV F m H x u) (rv : RV F m H y v) (q : OkG F m H (gEqD neg x y h) P E) :
    ∃ d e, Dp F.K H u d ∧ Dp F.K H v e ∧ SeqAt.shaped d = true ∧ SeqAt.shaped e = true ∧ P (.bl (if neg = true then !(PyData.eqv d e) else PyData.eqv d e)) h m H := by
  unfold gEqD at q
  split at q
  · rename_i d e z1 z2
    exact ⟨d, e, (dat_ok rh ru z1).1, (dat_ok rh rv z2).1, (dat_ok rh ru z1).2, (dat_ok rh rv z2).2, okg_ok rh q⟩
  · exact q.elim
theorem p_eq : P2 F (rEqD F.K) (gEqD false) := by
  intro m H h x y u v Q E rh ru rv q
  obtain ⟨d, e, h1, h2, h3, h4, q⟩ := gEqD_ok rh ru rv q
  exact ⟨d, e, h1, h2, h3, h4, q _ (.bl _)⟩
theorem p_ne : P2 F (rNeD F.K) (gEqD true) := by
  intro m H h x y u v Q E rh ru rv q
  obtain ⟨d, e, h1, h2, h3, h4, q⟩ := gEqD_ok rh ru rv q
  exact ⟨d, e, h1, h2, h3, h4, q _ (.bl _)⟩
/-! ### is None -/
def isNon : AV → Bool
  | .non => true
  | _ => false
theorem isNon_ok {m : List Addr} {H : Hp} {x : AV} {u : V} (r : RV F m H x u) : decide (u = .non) = isNon x := by cases r <;> rfl
def gIs (neg : Bool) : AV → AV → Hh → Out AV := fun x y h => if isNon y = true then .ok (.bl (if neg = true then !(isNon x) else isNon x)) h else .bad
theorem p_is : P2 F (fun x y H Q => y = .non ∧ Q (.bl (decide (x = .non))) H) (gIs false) := by
  intro m H h x y u v Q E rh ru rv q
  unfold gIs at q
  split at q
  · rename_i e
    rw [← isNon_ok rv] at e
    exact ⟨of_decide_eq_true e, okg_ok rh q _ (by rw [isNon_ok ru]; exact .bl _)⟩
  · exact q.elim
theorem p_isnot : P2 F (fun x y H Q => y = .non ∧ Q (.bl (!decide (x = .non))) H) (gIs true) := by
  intro m H h x y u v Q E rh ru rv q
  unfold gIs at q
  split at q
  · rename_i e
    rw [← isNon_ok rv] at e
    exact ⟨of_decide_eq_true e, okg_ok rh q _ (by rw [isNon_ok ru]; exact .bl _)⟩
  · exact q.elim
/-! ### in, not in -/
def flatA : AV → Bool
  | .non | .bl _ | .int _ | .str _ => true
  | _ => false
def eqA : AV → AV → Bool
  | .non, .non => true
  | .bl a, .bl b => a == b
  | .bl a, .int b => (if a = true then 1 else 0) == b
  | .int a, .bl b => a == (if b = true then 1 else 0)
  | .int a, .int b => a == b
  | .str a, .str b => a == b
  | _, _ => false
theorem flat_ok {m : List Addr} {H : Hp} {x : AV} {u : V} (r : RV F m H x u) (f : flatA x = true) : flatV u = true := by
  cases r <;> first | rfl | cases f
theorem flats_ok {m : List Addr} {H : Hp} : ∀ {xs : List AV} {us : List V}, RVs F m H xs us → xs.all flatA = true → us.all flatV = true
  | _, _, .nil, _ => rfl
  | _, _, .cons r t, f => by
    rw [List.all_cons, Bool.and_eq_true] at f ⊢
    exact ⟨flat_ok r f.1, flats_ok t f.2⟩
theorem eqA_ok {m : List Addr} {H : Hp} {x y : AV} {u v : V} (r : RV F m H x u) (s : RV F m H y v) (f : flatA x = true) (g : flatA y = true) : eqV v u = eqA y x := by
  cases r <;> cases s <;> first
    | (simp only [eqV, eqA]; done)
    | (simp [eqV, eqA]; done)
    | cases f
    | cases g
def inA (x : AV) (xs : List AV) : Bool := xs.any fun y => eqA y x
theorem inA_ok {m : List Addr} {H : Hp} {x : AV} {u : V} (r : RV F m H x u) (f : flatA x = true) : ∀ {xs : List AV} {us : List V}, RVs F m H xs us → xs.all flatA = true → inV u us = inA x xs
  | _, _, .nil, _ => rfl
  | _, _, .cons s t, g => by
    rw [List.all_cons, Bool.and_eq_true] at g
    show (eqV _ u || inV u _) = (eqA _ x || inA x _)
    rw [eqA_ok r s f g.1, inA_ok r f t g.2]
def itemsA (y : AV) (h : Hh) : Option (List AV) := match y with
  | .tup xs => some xs
  | .kt xs => some xs
  | .sl xs => some xs
  | .ref i => match h.get i with
    | some (.lst xs) => some xs
    | _ => none
  | _ => none
theorem items_ok {m : List Addr} {H : Hp} {h : Hh} {y : AV} {v : V} {xs : List AV} (rh : RH F m h H) (r : RV F m H y v) (e : itemsA y h = some xs) : ∃ a us, v = .ref a ∧ (SqL F.K H a us ∨ SqT F.K H a us) ∧ RVs F m H xs us := by
  cases y with
  | tup zs => cases e; cases r with | tup h1 h2 => exact ⟨_, _, rfl, .inr (.inl (.inl h1)), h2⟩
  | kt zs => cases e; cases r with | kt h1 h2 => exact ⟨_, _, rfl, .inr (kt_at h1), h2⟩
  | sl zs => cases e; cases r with | sl h1 h2 => exact ⟨_, _, rfl, .inl h1.sql, h2⟩
  | ref i =>
    unfold itemsA at e
    cases z : h.get i with
    | none => simp only [z] at e; cases e
    | some o =>
      obtain ⟨a, w, rfl, e1, e2, e3⟩ := r.at_ rh z
      cases o with
      | lst zs => simp only [z] at e; cases e; cases e3 with | lst q => exact ⟨a, _, rfl, .inl (.inl (.inl e2)), q⟩
      | dk _ => simp only [z] at e; cases e
      | dt _ => simp only [z] at e; cases e
      | fk _ => simp only [z] at e; cases e
  | _ => cases e
def gInS (neg : Bool) : AV → AV → Hh → Out AV := fun x y h => match itemsA y h with
  | some xs => if (flatA x && xs.all flatA) = true then .ok (.bl (if neg = true then !(inA x xs) else inA x xs)) h else .bad
  | none => .bad
theorem p_inS (neg : Bool) : P2 F (rIn F.K neg) (gInS neg) := by
  intro m H h x y u v Q E rh ru rv q
  unfold gInS at q
  split at q
  · rename_i xs e
    split at q
    · rename_i f
      rw [Bool.and_eq_true] at f
      obtain ⟨a, us, rfl, hs, r⟩ := items_ok rh rv e
      refine ⟨a, us, rfl, hs, flat_ok ru f.1, flats_ok r f.2, okg_ok rh q _ ?_⟩
      rw [inA_ok ru f.1 r f.2]
      cases neg <;> exact .bl _
    · exact q.elim
  · exact q.elim
end
end DI

set_option Elab.async false
set_option linter.all false
set_option maxRecDepth 100000
set_option maxHeartbeats 4000000
/-! more operators: + of tuples and lists, items, slices, dicts -/
namespace DI
open PySem PySem.Spec PyProof.Rows L2
section
variable {F : Fx} {W : WX'}
/-! ### either of two readings -/
def tEither (t t' : TE) : TE := fun σ H Q => t σ H Q ∨ t' σ H Q
theorem pe_either {X : Cx} {e : Expr} {t t' : TE} (a : PE X e t) (b : PE X e t') : PE X e (tEither t t') := ⟨fun pins s σ H Q I h => h.elim (a.run pins s σ H Q I) (b.run pins s σ H Q I)⟩
def orO (o o' : Out AV) : Out AV := match o with
  | .bad => o'
  | .ok v h' => .ok v h'
  | .exc c fs h' => .exc c fs h'
theorem x2_or {g g' : AV → AV → Hh → Out AV} {fa fb : EvF} (ρ : Sl) (h : Hh) : x2 (gOr g g') fa fb ρ h = orO (x2 g fa fb ρ h) (x2 g' fa fb ρ h) := by
  unfold x2
  cases fa ρ h with
  | bad => rfl
  | exc c fs h' => rfl
  | ok v h1 =>
    show bindO (fb ρ h1) _ = orO (bindO (fb ρ h1) _) (bindO (fb ρ h1) _)
    cases fb ρ h1 with
    | bad => rfl
    | exc c fs h' => rfl
    | ok w h2 => rfl
theorem x_either {t t' : TE} {g g' : AV → AV → Hh → Out AV} {fa fb : EvF} (a : Pe F W t (x2 g fa fb)) (b : Pe F W t' (x2 g' fa fb)) : Pe F W (tEither t t') (x2 (gOr g g') fa fb) := by
  intro m H h σ ρ Q rh rs q
  rw [x2_or] at q
  cases e : x2 g fa fb ρ h with
  | bad => rw [e] at q; exact .inr (b m H h σ ρ Q rh rs q)
  | ok v h' => rw [e] at q; exact .inl (a m H h σ ρ Q rh rs (by rw [e]; exact q))
  | exc c fs h' => rw [e] at q; exact .inl (a m H h σ ρ Q rh rs (by rw [e]; exact q))
/-! ### t + u -/
theorem rvs_nil {m : List Addr} {H : Hp} {xs : List AV} {us : List V} (r : RVs F m H xs us) : (us = [] ↔ xs = []) := by cases r <;> simp
theorem rvs_app {m : List Addr} {H : Hp} : ∀ {xs ys : List AV} {us vs : List V}, RVs F m H xs us → RVs F m H ys vs → RVs F m H (xs ++ ys) (us ++ vs)
  | _, _, _, _, .nil, h => h
  | _, _, _, _, .cons h t, u => .cons h (rvs_app t u)
/-- a tuple's items: whether it is fixed from the start -/
def tupA : AV → Option (List AV)
  | .tup xs => some xs
  | .kt xs => some xs
  | _ => none
theorem tupA_ok {m : List Addr} {H : Hp} {x : AV} {u : V} {xs : List AV} (r : RV F m H x u) (e : tupA x = some xs) : ∃ a us, u = .ref a ∧ SqT F.K H a us ∧ RVs F m H xs us := by
  cases x <;> first | cases e; done | skip
  · cases e; cases r with | tup h1 h2 => exact ⟨_, _, rfl, .inl (.inl h1), h2⟩
  · cases e; cases r with | kt h1 h2 => exact ⟨_, _, rfl, kt_at h1, h2⟩
def gCatT : AV → AV → Hh → Out AV := fun x y h => match tupA x, tupA y with
  | some xs, some ys => if xs.length + ys.length ≤ most then (if xs.isEmpty = true then .ok y h else if ys.isEmpty = true then .ok x h else .ok (.tup (xs ++ ys)) h) else .bad
  | _, _ => .bad
theorem p_catT : P2 F (rCatA F.K) gCatT := by
  intro m H h x y u v Q E rh ru rv q
  unfold gCatT at q
  split at q
  · rename_i xs ys e1 e2
    split at q
    · rename_i hz
      obtain ⟨a, us, rfl, ha, ra⟩ := tupA_ok ru e1
      obtain ⟨b, vs, rfl, hb, rb⟩ := tupA_ok rv e2
      have l1 := rvs_len ra
      have l2 := rvs_len rb
      refine ⟨a, b, us, vs, rfl, rfl, ha, hb, by rw [l1, l2]; exact most_ok hz, fun e => ?_, fun e e' => ?_, fun e e' p n => ?_⟩
      · rw [if_pos (by rw [← rvs_empty ra, e]; rfl)] at q
        exact okg_ok rh q _ rv
      · rw [if_neg (by rw [← rvs_empty ra]; cases us with | nil => exact absurd rfl e | cons _ _ => simp), if_pos (by rw [← rvs_empty rb, e']; rfl)] at q
        exact okg_ok rh q _ ru
      · rw [if_neg (by rw [← rvs_empty ra]; cases us with | nil => exact absurd rfl e | cons _ _ => simp), if_neg (by rw [← rvs_empty rb]; cases vs with | nil => exact absurd rfl e' | cons _ _ => simp)] at q
        have M : Mono F m H m (upd H p (.tup (us ++ vs))) := Mono.laid n
        exact okg_at q (rh.laid n) M _ (.tup upd_same ((rvs_app ra rb).mono M))
    · exact q.elim
  · exact q.elim
def lstA (x : AV) (h : Hh) : Option (List AV) := match x with
  | .ref i => match h.get i with
    | some (.lst xs) => some xs
    | _ => none
  | _ => none
theorem lstA_ok {m : List Addr} {H : Hp} {h : Hh} {x : AV} {u : V} {xs : List AV} (rh : RH F m h H) (r : RV F m H x u) (e : lstA x h = some xs) :
    ∃ i a us, x = .ref i ∧ h.get i = some (.lst xs) ∧ m[i]? = some a ∧ u = .ref a ∧ H a = some (.lst us) ∧ RVs F m H xs us := by
  cases x <;> first | cases e; done | skip
  rename_i i
  unfold lstA at e
  cases z : h.get i with
  | none => simp only [z] at e; cases e
  | some o =>
    obtain ⟨a, w, rfl, e1, e2, e3⟩ := r.at_ rh z
    cases o with
    | lst zs => simp only [z] at e; cases e; cases e3 with | lst q => exact ⟨i, a, _, rfl, z, e1, rfl, e2, q⟩
    | dk _ => simp only [z] at e; cases e
    | dt _ => simp only [z] at e; cases e
    | fk _ => simp only [z] at e; cases e
def gCatL : AV → AV → Hh → Out AV := fun x y h => match lstA x h, lstA y h with
  | some xs, some ys => if xs.length + ys.length ≤ most then mkO (.lst (xs ++ ys)) h else .bad
  | _, _ => .bad
theorem p_catL : P2 F rCat gCatL := by
  intro m H h x y u v Q E rh ru rv q
  unfold gCatL at q
  split at q
  · rename_i xs ys e1 e2
    split at q
    · rename_i hz
      obtain ⟨i, a, us, rfl, _, _, rfl, ha, ra⟩ := lstA_ok rh ru e1
      obtain ⟨j, b, vs, rfl, _, _, rfl, hb, rb⟩ := lstA_ok rh rv e2
      exact ⟨a, b, us, vs, rfl, rfl, ha, hb, by rw [rvs_len ra, rvs_len rb]; exact most_ok hz, mkO_ok rh (.lst (rvs_app ra rb)) q⟩
    · exact q.elim
  · exact q.elim
/-! ### items -/
theorem rvs_get {m : List Addr} {H : Hp} : ∀ {xs : List AV} {us : List V}, RVs F m H xs us → ∀ (i : Nat) (x : AV), xs[i]? = some x → ∃ u, us[i]? = some u ∧ RV F m H x u
  | _, _, .nil, i, x, e => by simp at e
  | _, _, .cons h t, 0, x, e => by simp at e; subst e; exact ⟨_, rfl, h⟩
  | _, _, .cons h t, i + 1, x, e => by
    obtain ⟨u, e1, e2⟩ := rvs_get t i x (by simpa using e)
    exact ⟨u, by simpa using e1, e2⟩
theorem at_ok {m : List Addr} {H : Hp} {xs : List AV} {us : List V} (r : RVs F m H xs us) {i : Int} {x : AV} (e : atI xs i = some x) : ∃ u, atI us i = some u ∧ RV F m H x u := by
  unfold atI at e ⊢
  rw [rvs_len r]
  cases z : ixN xs.length i with
  | none => rw [z] at e; cases e
  | some j => rw [z] at e; exact rvs_get r j x e
def gIx : AV → AV → Hh → Out AV := fun x y h => match y with
  | .int i => match tupA x with
    | some xs => optO (atI xs i) h
    | none => .bad
  | _ => .bad
theorem p_ixT : P2 F (rIxT F.K) gIx := by
  intro m H h x y u v Q E rh ru rv q
  unfold gIx at q
  split at q
  · split at q
    · rename_i i _ xs e
      obtain ⟨a, us, rfl, ha, ra⟩ := tupA_ok ru e
      obtain ⟨w, e1, q⟩ := opt_ok rh q
      obtain ⟨w', e2, rw'⟩ := at_ok ra e1
      cases rv
      exact ⟨a, us, i, w', rfl, rfl, ha, e2, q w' rw'⟩
    · exact q.elim
  · exact q.elim
def gIxL : AV → AV → Hh → Out AV := fun x y h => match y with
  | .int i => match lstA x h with
    | some xs => optO (atI xs i) h
    | none => .bad
  | _ => .bad
theorem p_ixL : P2 F (rIxL F.K) gIxL := by
  intro m H h x y u v Q E rh ru rv q
  unfold gIxL at q
  split at q
  · split at q
    · rename_i i _ xs e
      obtain ⟨j, a, us, rfl, _, _, rfl, ha, ra⟩ := lstA_ok rh ru e
      obtain ⟨w, e1, q⟩ := opt_ok rh q
      obtain ⟨w', e2, rw'⟩ := at_ok ra e1
      cases rv
      exact ⟨a, us, i, w', rfl, rfl, .inl (.inl ha), e2, q w' rw'⟩
    · exact q.elim
  · exact q.elim
/-! ### dicts -/
def keyA : AV → Option Key
  | .int i => some (.inl i)
  | .str x => some (.inr x)
  | _ => none
theorem keyA_ok {m : List Addr} {H : Hp} {x : AV} {u : V} {k : Key} (r : RV F m H x u) (e : keyA x = some k) : u = kV k := by cases r <;> cases e <;> rfl
theorem keysA_ok {m : List Addr} {H : Hp} : ∀ {xs : List AV} {us : List V} {ks : List Key}, RVs F m H xs us → mapO keyA xs = some ks → us = ks.map kV
  | _, _, _, .nil, e => by cases e; rfl
  | x :: r, _, ks, .cons rx rr, e => by
    unfold mapO at e
    cases e1 : keyA x with
    | none => simp only [e1] at e; cases e
    | some y =>
      cases e2 : mapO keyA r with
      | none => simp only [e1, e2] at e; cases e
      | some ys =>
        simp only [e1, e2] at e
        cases e
        rw [keyA_ok rx e1, keysA_ok rr e2]; rfl
def findA {κ : Type} [DecidableEq κ] (k : κ) : List (κ × AV) → Option AV
  | [] => none
  | p :: r => if p.1 = k then some p.2 else findA k r
theorem findA_ok {κ : Type} [DecidableEq κ] {m : List Addr} {H : Hp} {k : κ} : ∀ {xs : List (κ × AV)} {us : List (κ × V)}, RKV (F := F) m H xs us →
    (findA k xs = none ∧ valV us k = none) ∨ ∃ x u, findA k xs = some x ∧ valV us k = some u ∧ RV F m H x u
  | _, _, .nil => .inl ⟨rfl, rfl⟩
  | _, _, @RKV.cons _ _ _ _ k' x u xs us h t => by
    by_cases e : k' = k
    · refine .inr ⟨x, u, ?_, valV_pos e, h⟩
      unfold findA; rw [if_pos e]
    · have e2 : findA k ((k', x) :: xs) = findA k xs := by
        conv => lhs; unfold findA
        rw [if_neg e]
      rw [e2, valV_neg (p := (k', u)) e]
      exact findA_ok t
/-- what a dict has at a key: none: it is no dict or no key -/
def askA (x y : AV) (h : Hh) : Option (Option AV) := match x with
  | .ref i => match h.get i with
    | some (.dk kvs) => match keyA y with
      | some k => some (findA k kvs)
      | none => none
    | some (.fk kvs) => match keyA y with
      | some k => some (findA k kvs)
      | none => none
    | some (.dt kvs) => match y with
      | .tup xs => match mapO keyA xs with
        | some k => some (findA k kvs)
        | none => none
      | _ => none
    | _ => none
  | _ => none
theorem askA_ok {m : List Addr} {H : Hp} {h : Hh} {x y : AV} {u v : V} {o : Option AV} (rh : RH F m h H) (ru : RV F m H x u) (rv : RV F m H y v) (e : askA x y h = some o) :
    ∃ a w, u = .ref a ∧ DGet H a v w ∧ ((o = none ∧ w = none) ∨ ∃ b c, o = some b ∧ w = some c ∧ RV F m H b c) := by
  cases x <;> first | cases e; done | skip
  rename_i i
  unfold askA at e
  cases z : h.get i with
  | none => simp only [z] at e; cases e
  | some ob =>
    obtain ⟨a, w, rfl, e1, e2, e3⟩ := ru.at_ rh z
    cases ob with
    | lst zs => simp only [z] at e; cases e
    | dk kvs =>
      cases e3 with
      | dk rk =>
        cases z2 : keyA y with
        | none => simp only [z, z2] at e; cases e
        | some k =>
          simp only [z, z2] at e
          cases e
          rw [keyA_ok rv z2]
          refine ⟨a, _, rfl, DGet.k e2, ?_⟩
          rcases findA_ok (k := k) rk with ⟨h1, h2⟩ | ⟨b, c, h1, h2, h3⟩
          · exact .inl ⟨h1, h2⟩
          · exact .inr ⟨b, c, h1, h2, h3⟩
    | fk kvs =>
      cases e3 with
      | fk rk =>
        cases z2 : keyA y with
        | none => simp only [z, z2] at e; cases e
        | some k =>
          simp only [z, z2] at e
          cases e
          rw [keyA_ok rv z2]
          refine ⟨a, _, rfl, .inl ⟨_, k, .inr ⟨_, e2⟩, rfl, rfl⟩, ?_⟩
          rcases findA_ok (k := k) rk with ⟨h1, h2⟩ | ⟨b, c, h1, h2, h3⟩
          · exact .inl ⟨h1, h2⟩
          · exact .inr ⟨b, c, h1, h2, h3⟩
    | dt kvs =>
      cases e3 with
      | dt rk =>
        cases y <;> first | (simp only [z] at e; cases e; done) | skip
        rename_i xs
        cases z2 : mapO keyA xs with
        | none => simp only [z, z2] at e; cases e
        | some k =>
          simp only [z, z2] at e
          cases e
          cases rv with
          | tup h1 h2 =>
            rw [keysA_ok h2 z2] at h1
            refine ⟨a, _, rfl, DGet.t e2 h1, ?_⟩
            rcases findA_ok (k := k) rk with ⟨h1, h2⟩ | ⟨b, c, h1, h2, h3⟩
            · exact .inl ⟨h1, h2⟩
            · exact .inr ⟨b, c, h1, h2, h3⟩
def rDGet : R2 := fun x y H Q => ∃ a v, x = .ref a ∧ DGet H a y (some v) ∧ Q v H
def gDGet : AV → AV → Hh → Out AV := fun x y h => match askA x y h with
  | some (some v) => .ok v h
  | _ => .bad
theorem p_dget : P2 F rDGet gDGet := by
  intro m H h x y u v Q E rh ru rv q
  unfold gDGet at q
  split at q
  · rename_i w e
    obtain ⟨a, w', rfl, g, c⟩ := askA_ok rh ru rv e
    rcases c with ⟨z, _⟩ | ⟨b, c, z1, rfl, r⟩
    · cases z
    · cases z1
      exact ⟨a, c, rfl, g, okg_ok rh q c r⟩
  · exact q.elim
/-- y in d -/
def rDIn (neg : Bool) : R2 := fun y x H Q => ∃ a o, x = .ref a ∧ DGet H a y o ∧ Q (.bl (if neg = true then !o.isSome else o.isSome)) H
def gDIn (neg : Bool) : AV → AV → Hh → Out AV := fun y x h => match askA x y h with
  | some o => .ok (.bl (if neg = true then !o.isSome else o.isSome)) h
  | none => .bad
theorem p_din (neg : Bool) : P2 F (rDIn neg) (gDIn neg) := by
  intro m H h y x v u Q E rh rv ru q
  unfold gDIn at q
  split at q
  · rename_i o e
    obtain ⟨a, w', rfl, g, c⟩ := askA_ok rh ru rv e
    refine ⟨a, w', rfl, g, ?_⟩
    have hs : w'.isSome = o.isSome := by
      rcases c with ⟨z, z'⟩ | ⟨b, c, z1, z2, r⟩
      · rw [z, z']; rfl
      · rw [z1, z2]; rfl
    rw [hs]
    exact okg_ok rh q _ (.bl _)
  · exact q.elim
end
end DI

set_option Elab.async false
set_option linter.all false
set_option maxRecDepth 100000
set_option maxHeartbeats 4000000
/-! slices, built-ins -/
namespace DI
open PySem PySem.Spec PyProof.Rows L2
section
variable {F : Fx} {W : WX'}
def Poo (F : Fx) (W : WX') (t : TO) (f : Sl → Hh → Out (Option Int)) : Prop := ∀ m H h σ ρ Q, RH F m h H → RS F m H ρ σ → OkG F m H (f ρ h) (fun o _ _ H' => Q o H') (fun c d H' => W c d σ H') → t σ H Q
def xNoPart : Sl → Hh → Out (Option Int) := fun _ h => .ok none h
def asInt : AV → Option Int
  | .int i => some i
  | _ => none
def xPart (fa : EvF) : Sl → Hh → Out (Option Int) := fun ρ h => bindO (fa ρ h) fun x h1 => bindO (optO (asInt x) h1) fun i h2 => .ok (some i) h2
theorem x_noPart : Poo F W tNoPart xNoPart := fun m H h σ ρ Q rh rs q => okg_ok rh q
theorem x_part {t : TE} {fa : EvF} (ha : Pe F W t fa) : Poo F W (tPart t) (xPart fa) := by
  intro m H h σ ρ Q rh rs q
  refine ha m H h σ ρ _ rh rs (okg_imp (okg_bind q) fun x h1 m1 H1 r1 M1 q1 u ru => ?_)
  obtain ⟨i, e, q2⟩ := opt_ok r1 (okg_bind q1)
  have q3 : Q (some i) H1 := okg_ok r1 q2
  cases x <;> simp [asInt] at e
  subst e
  cases ru
  exact ⟨_, rfl, q3⟩
def PSl (F : Fx) (r : V → Option Int → Option Int → Hp → VK → Prop) (g : AV → Option Int → Option Int → Hh → Out AV) : Prop := ∀ m H h x lo hi u Q E, RH F m h H → RV F m H x u → OkG F m H (g x lo hi h) (PV F Q) E → r u lo hi H Q
def xSl (g : AV → Option Int → Option Int → Hh → Out AV) (fa : EvF) (fl fh : Sl → Hh → Out (Option Int)) : EvF := fun ρ h => bindO (fa ρ h) fun x h1 => bindO (fl ρ h1) fun l h2 => bindO (fh ρ h2) fun u h3 => g x l u h3
theorem x_sl {r : V → Option Int → Option Int → Hp → VK → Prop} {g : AV → Option Int → Option Int → Hh → Out AV} {ta : TE} {tl th : TO} {fa : EvF} {fl fh : Sl → Hh → Out (Option Int)}
    (hr : PSl F r g) (ha : Pe F W ta fa) (hl : Poo F W tl fl) (hh : Poo F W th fh) : Pe F W (tSl r ta tl th) (xSl g fa fl fh) := by
  intro m H h σ ρ Q rh rs q
  refine ha m H h σ ρ _ rh rs (okg_imp (okg_bind q) fun x h1 m1 H1 r1 M1 q1 u ru => ?_)
  refine hl m1 H1 h1 σ ρ _ r1 (rs.mono M1) (okg_imp (okg_bind q1) fun l h2 m2 H2 r2 M2 q2 => ?_)
  refine hh m2 H2 h2 σ ρ _ r2 (rs.mono (M1.trans M2)) (okg_imp (okg_bind q2) fun w h3 m3 H3 r3 M3 q3 => ?_)
  exact hr m3 H3 h3 x l w u Q _ r3 (ru.mono (M2.trans M3)) q3
def sIxA (n d : Nat) (i : Option Int) : Nat := HT.sIx n d i
def cutA (xs : List AV) (lo hi : Option Int) : List AV := (xs.drop (HT.sIx xs.length 0 lo)).take (HT.sIx xs.length xs.length hi - HT.sIx xs.length 0 lo)
theorem rvs_take {m : List Addr} {H : Hp} : ∀ {xs : List AV} {us : List V} (n : Nat), RVs F m H xs us → RVs F m H (xs.take n) (us.take n)
  | _, _, 0, _ => .nil
  | _, _, _ + 1, .nil => .nil
  | _, _, n + 1, .cons h t => .cons h (rvs_take n t)
theorem rvs_drop {m : List Addr} {H : Hp} : ∀ {xs : List AV} {us : List V} (n : Nat), RVs F m H xs us → RVs F m H (xs.drop n) (us.drop n)
  | _, _, 0, h => h
  | _, _, _ + 1, .nil => .nil
  | _, _, n + 1, .cons _ t => rvs_drop n t
theorem cutA_ok {m : List Addr} {H : Hp} {xs : List AV} {us : List V} (r : RVs F m H xs us) (lo hi : Option Int) : RVs F m H (cutA xs lo hi) (cutV us lo hi) := by
  unfold cutV cutA
  rw [rvs_len r]
  exact rvs_take _ (rvs_drop _ r)
/-- t[lo:hi]; the whole of a tuple is the tuple -/
def gSlT : AV → Option Int → Option Int → Hh → Out AV := fun x lo hi h => match tupA x with
  | some xs => if (HT.sIx xs.length 0 lo == 0 && HT.sIx xs.length xs.length hi == xs.length) = true then .ok x h else .ok (.tup (cutA xs lo hi)) h
  | none => .bad
theorem p_slT : PSl F (rSlA F.K) gSlT := by
  intro m H h x lo hi u Q E rh ru q
  unfold gSlT at q
  split at q
  · rename_i xs e
    obtain ⟨a, us, rfl, ha, ra⟩ := tupA_ok ru e
    have hl := rvs_len ra
    refine ⟨a, us, rfl, ha, fun hw => ?_, fun hw p n => ?_⟩
    · rw [hl] at hw
      rw [if_pos (by simp [hw.1, hw.2])] at q
      exact okg_ok rh q _ ru
    · rw [hl] at hw
      rw [if_neg (by simpa using hw)] at q
      have M : Mono F m H m (upd H p (.tup (cutV us lo hi))) := Mono.laid n
      exact okg_at q (rh.laid n) M _ (.tup upd_same ((cutA_ok ra lo hi).mono M))
  · exact q.elim
def gSlL : AV → Option Int → Option Int → Hh → Out AV := fun x lo hi h => match lstA x h with
  | some xs => mkO (.lst (cutA xs lo hi)) h
  | none => .bad
theorem p_slL : PSl F (rSlL F.K) gSlL := by
  intro m H h x lo hi u Q E rh ru q
  unfold gSlL at q
  split at q
  · rename_i xs e
    obtain ⟨i, a, us, rfl, _, _, rfl, ha, ra⟩ := lstA_ok rh ru e
    exact ⟨a, us, rfl, .inl (.inl ha), mkO_ok rh (.lst (cutA_ok ra lo hi)) q⟩
  · exact q.elim
def gSlS : AV → Option Int → Option Int → Hh → Out AV := fun x lo hi h => match x with
  | .str z => if z.length ≤ 1000 then .ok (.str (cutS z lo hi)) h else .bad
  | _ => .bad
theorem p_slS : PSl F rSlS gSlS := by
  intro m H h x lo hi u Q E rh ru q
  unfold gSlS at q
  split at q
  · split at q
    · rename_i z hz
      cases ru
      exact ⟨z, rfl, most_ok (by unfold most; omega), okg_ok rh q _ (.str _)⟩
    · exact q.elim
  · exact q.elim
/-! ### built-ins of one argument -/
def g1 (g : AV → Hh → Out AV) : List AV → Hh → Out AV := fun xs h => match xs with
  | [x] => g x h
  | _ => .bad
theorem one_ok {m : List Addr} {H : Hp} {h : Hh} {g : AV → Hh → Out AV} {xs : List AV} {us : List V} {P : AV → Hh → List Addr → Hp → Prop} {E : XK} (r : RVs F m H xs us) (q : OkG F m H (g1 g xs h) P E) :
    ∃ x u, xs = [x] ∧ us = [u] ∧ RV F m H x u ∧ OkG F m H (g x h) P E := by
  cases r with
  | nil => exact q.elim
  | cons rx rr =>
    cases rr with
    | nil => exact ⟨_, _, rfl, rfl, rx, q⟩
    | cons _ _ => exact q.elim
def gLen : AV → Hh → Out AV := fun x h => match itemsA x h with
  | some xs => .ok (.int xs.length) h
  | none => .bad
theorem p_len : PLs F (fun xs H Q => ∃ p ys, xs = [.ref p] ∧ (SqL F.K H p ys ∨ SqT F.K H p ys) ∧ Q (.int ys.length) H) (g1 gLen) := by
  intro m H h xs us Q E rh r q0
  obtain ⟨x, u, rfl, rfl, rx, q⟩ := one_ok r q0
  clear q0
  unfold gLen at q
  split at q
  · rename_i ys e
    obtain ⟨a, vs, rfl, hs, ra⟩ := items_ok rh rx e
    exact ⟨a, vs, rfl, hs, by rw [rvs_len ra]; exact okg_ok rh q _ (.int _)⟩
  · exact q.elim
def gTuple : AV → Hh → Out AV := fun x h => match lstA x h with
  | some xs => .ok (.tup xs) h
  | none => match tupA x with
    | some _ => .ok x h
    | none => .bad
theorem p_tuple : PLs F (fun xs H Q => ∃ p ys, xs = [.ref p] ∧ ((SqL F.K H p ys ∧ ∀ l, H l = none → Q (.ref l) (upd H l (.tup ys))) ∨ (SqT F.K H p ys ∧ Q (.ref p) H))) (g1 gTuple) := by
  intro m H h xs us Q E rh r q0
  obtain ⟨x, u, rfl, rfl, rx, q⟩ := one_ok r q0
  clear q0
  unfold gTuple at q
  split at q
  · rename_i ys e
    obtain ⟨i, a, vs, rfl, _, _, rfl, ha, ra⟩ := lstA_ok rh rx e
    refine ⟨a, vs, rfl, .inl ⟨.inl (.inl ha), fun p n => ?_⟩⟩
    have M : Mono F m H m (upd H p (.tup vs)) := Mono.laid n
    exact okg_at q (rh.laid n) M _ (.tup upd_same (ra.mono M))
  · split at q
    · rename_i ys e
      obtain ⟨a, vs, rfl, ha, ra⟩ := tupA_ok rx e
      exact ⟨a, vs, rfl, .inr ⟨ha, okg_ok rh q _ rx⟩⟩
    · exact q.elim
def gList : AV → Hh → Out AV := fun x h => match itemsA x h with
  | some xs => mkO (.lst xs) h
  | none => .bad
theorem p_list : PLs F (fun xs H Q => ∃ p ys, xs = [.ref p] ∧ (SqL F.K H p ys ∨ SqT F.K H p ys) ∧ ∀ l, H l = none → Q (.ref l) (upd H l (.lst ys))) (g1 gList) := by
  intro m H h xs us Q E rh r q0
  obtain ⟨x, u, rfl, rfl, rx, q⟩ := one_ok r q0
  clear q0
  unfold gList at q
  split at q
  · rename_i ys e
    obtain ⟨a, vs, rfl, hs, ra⟩ := items_ok rh rx e
    exact ⟨a, vs, rfl, hs, mkO_ok rh (.lst ra) q⟩
  · exact q.elim
def gInt : AV → Hh → Out AV := fun x h => match x with
  | .int i => .ok (.int i) h
  | .bl b => .ok (.int (if b = true then 1 else 0)) h
  | _ => .bad
theorem p_int : PLs F (fun xs H Q => (∃ i, xs = [.int i] ∧ Q (.int i) H) ∨ ∃ k, xs = [.bl k] ∧ Q (.int (if k then 1 else 0)) H) (g1 gInt) := by
  intro m H h xs us Q E rh r q0
  obtain ⟨x, u, rfl, rfl, rx, q⟩ := one_ok r q0
  clear q0
  unfold gInt at q
  split at q
  · cases rx; exact .inl ⟨_, rfl, okg_ok rh q _ (.int _)⟩
  · rename_i b; cases rx; exact .inr ⟨_, rfl, by cases b <;> exact okg_ok rh q _ (.int _)⟩
  · exact q.elim
/-- sorted(xs) of ints -/
def insI (i : Int) : List Int → List Int
  | [] => [i]
  | j :: r => if i ≤ j then i :: j :: r else j :: insI i r
def sortA : List Int → List Int
  | [] => []
  | i :: r => insI i (sortA r)
theorem insI_perm (i : Int) : ∀ xs : List Int, (insI i xs).Perm (i :: xs)
  | [] => .refl _
  | j :: r => by
    unfold insI
    split
    · exact .refl _
    · exact (List.Perm.cons j (insI_perm i r)).trans (.swap i j r)
theorem sortA_perm : ∀ xs : List Int, (sortA xs).Perm xs
  | [] => .refl _
  | i :: r => (insI_perm i _).trans (.cons i (sortA_perm r))
theorem insI_sorted (i : Int) : ∀ {xs : List Int}, xs.Pairwise (· ≤ ·) → (insI i xs).Pairwise (· ≤ ·)
  | [], _ => List.pairwise_singleton _ _
  | j :: r, h => by
    have h2 := List.pairwise_cons.mp h
    unfold insI
    split
    · rename_i l
      refine List.pairwise_cons.mpr ⟨fun k hk => ?_, h⟩
      rcases List.mem_cons.mp hk with rfl | hk
      · exact l
      · exact Int.le_trans l (h2.1 k hk)
    · rename_i l
      refine List.pairwise_cons.mpr ⟨fun k hk => ?_, insI_sorted i h2.2⟩
      rcases List.mem_cons.mp ((insI_perm i r).mem_iff.mp hk) with rfl | hk
      · omega
      · exact h2.1 k hk
theorem sortA_sorted : ∀ xs : List Int, (sortA xs).Pairwise (· ≤ ·)
  | [] => .nil
  | i :: r => insI_sorted i (sortA_sorted r)
theorem sort_one' {a b : List Int} (h : a.Perm b) (p : a.Pairwise (· ≤ ·)) : a = sortA b :=
  List.Perm.eq_of_pairwise (le := fun x y => x ≤ y) (fun x y _ _ h1 h2 => Int.le_antisymm h1 h2) p (sortA_sorted b) (h.trans (sortA_perm b).symm)
theorem ints_ok {m : List Addr} {H : Hp} : ∀ {xs : List AV} {us : List V} {ns : List Int}, RVs F m H xs us → mapO asInt xs = some ns → us = ns.map V.int
  | _, _, _, .nil, e => by cases e; rfl
  | x :: r, _, ks, .cons rx rr, e => by
    unfold mapO at e
    cases e1 : asInt x with
    | none => simp only [e1] at e; cases e
    | some y =>
      cases e2 : mapO asInt r with
      | none => simp only [e1, e2] at e; cases e
      | some ys =>
        simp only [e1, e2] at e
        cases e
        cases x <;> simp [asInt] at e1
        subst e1
        cases rx
        rw [ints_ok rr e2]; rfl
theorem rv_ints {m : List Addr} {H : Hp} : ∀ ns : List Int, RVs F m H (ns.map AV.int) (ns.map V.int)
  | [] => .nil
  | n :: r => .cons (.int n) (rv_ints r)
def gSorted : AV → Hh → Out AV := fun x h => match lstA x h with
  | some xs => match mapO asInt xs with
    | some ns => mkO (.lst ((sortA ns).map .int)) h
    | none => .bad
  | none => .bad
theorem p_sorted : PLs F (rSortedI F.K) (g1 gSorted) := by
  intro m H h xs us Q E rh r q0
  obtain ⟨x, u, rfl, rfl, rx, q⟩ := one_ok r q0
  clear q0
  unfold gSorted at q
  split at q
  · split at q
    · rename_i ys e _ ns e2
      obtain ⟨i, a, vs, rfl, _, _, rfl, ha, ra⟩ := lstA_ok rh rx e
      refine ⟨a, ns, rfl, .inl (.inl (by rw [← ints_ok ra e2]; exact ha)), fun ns' p pm pw np => ?_⟩
      rw [← sort_one' pm pw] at q
      exact mkO_ok rh (.lst (rv_ints ns')) q p np
    · exact q.elim
  · exact q.elim
/-! ### isinstance -/
def tyA (x : AV) (h : Hh) : Option String := match x with
  | .non => some "NoneType"
  | .bl _ => some "bool"
  | .int _ => some "int"
  | .str _ => some "str"
  | .tup _ => some "tuple"
  | .kt _ => some "tuple"
  | .ref i => match h.get i with
    | some (.lst _) => some "list"
    | _ => none
  | _ => none
theorem tyA_ok {m : List Addr} {H : Hp} {h : Hh} {x : AV} {u : V} {t : String} (rh : RH F m h H) (r : RV F m H x u) (e : tyA x h = some t) : TyX F.K H u (.type t) := by
  have sq : ∀ {a us}, SqT F.K H a us → TyX F.K H (.ref a) (.type "tuple") := fun {a us} hs => by
    rcases hs with (hs | ⟨o, hs⟩) | ⟨o, its, n, hs, c, _⟩
    · exact .base (.tup hs)
    · exact .fTuple hs
    · exact .kTuple hs c
  cases x <;> first | cases e; done | skip
  · cases e; cases r; exact .base .non
  · cases e; cases r; exact .base (.bl _)
  · cases e; cases r; exact .base (.int _)
  · cases e; cases r; exact .base (.str _)
  · rename_i i
    unfold tyA at e
    cases z : h.get i with
    | none => simp only [z] at e; cases e
    | some o =>
      obtain ⟨a, w, rfl, e1, e2, e3⟩ := r.at_ rh z
      cases o with
      | lst zs => simp only [z] at e; cases e; cases e3 with | lst q => exact .base (.lst e2)
      | dk _ => simp only [z] at e; cases e
      | dt _ => simp only [z] at e; cases e
      | fk _ => simp only [z] at e; cases e
  · cases e; cases r with | tup h1 h2 => exact sq (.inl (.inl h1))
  · cases e; cases r with | kt h1 h2 => exact sq (kt_at h1)
def xIsi (Ty : String) (fa : EvF) : EvF := fun ρ h => bindO (fa ρ h) fun x h1 => match tyA x h1 with
  | some t => match kitB t Ty with
    | some b => .ok (.bl b) h1
    | none => .bad
  | none => .bad
theorem x_isi {Ty : String} {ta : TE} {fa : EvF} (ha : Pe F W ta fa) : Pe F W (tCB (rIsi F.K) (tCons ta (tCons (tC (.ty Ty)) tNil))) (xIsi Ty fa) := by
  intro m H h σ ρ Q rh rs q
  refine ha m H h σ ρ _ rh rs (okg_imp (okg_bind q) fun x h1 m1 H1 r1 M1 q1 u ru => ?_)
  split at q1
  · split at q1
    · rename_i t e _ b e2
      exact ⟨u, .ty Ty, .type t, .type Ty, b, rfl, .ty Ty, tyA_ok r1 ru e, kit_ty e2, okg_ok r1 q1 _ (.bl b)⟩
    · exact q1.elim
  · exact q1.elim
end
end DI

set_option Elab.async false
set_option linter.all false
set_option maxRecDepth 100000
set_option maxHeartbeats 4000000
/-! statements, loops -/
namespace DI
open PySem PySem.Spec PyProof.Rows L2
inductive So where
  | nx (ρ : Sl) (h : Hh) | bk (ρ : Sl) (h : Hh) | ct (ρ : Sl) (h : Hh)
  | rt (v : AV) (h : Hh)
  | exc (c : Str) (fs : List (Str × AV)) (ρ : Sl) (h : Hh)
  | bad
abbrev EvS := Sl → Hh → So
section
variable (F : Fx) (W : WX')
def NxOk (m : List Addr) (H : Hp) (ρ : Sl) (h' : Hh) (N : L2.St → Hp → Prop) : Prop := ∀ m' H' σ', RH F m' h' H' → Mono F m H m' H' → RS F m' H' ρ σ' → N σ' H'
def OkS (m : List Addr) (H : Hp) (o : So) (D : Ends) : Prop := match o with
  | .nx ρ h' => NxOk F m H ρ h' D.nx
  | .bk ρ h' => NxOk F m H ρ h' D.bk
  | .ct ρ h' => NxOk F m H ρ h' D.ct
  | .rt v h' => ∀ m' H' u, RH F m' h' H' → Mono F m H m' H' → RV F m' H' v u → D.rt u H'
  | .exc c fs ρ h' => ∀ m' H' d us a σ', RH F m' h' H' → Mono F m H m' H' → F.G c = some a → H' d = some (.xd us) → RKV (F := F) m' H' fs us → RS F m' H' ρ σ' → W (.ref a) (some d) σ' H'
  | .bad => False
def Pst (t : TS) (f : EvS) : Prop := ∀ m H h σ ρ D, RH F m h H → RS F m H ρ σ → OkS F W m H (f ρ h) D → t D σ H
def bindE {α : Type} (o : Out α) (ρ : Sl) (k : α → Hh → So) : So := match o with
  | .ok v h => k v h
  | .exc c fs h => .exc c fs ρ h
  | .bad => .bad
variable {F W} {m m1 : List Addr} {H H1 : Hp}
theorem oks_mono {o : So} {D : Ends} (q : OkS F W m H o D) (M : Mono F m H m1 H1) : OkS F W m1 H1 o D := by
  cases o with
  | nx ρ h' => exact fun m' H' σ' r M' s => q m' H' σ' r (M.trans M') s
  | bk ρ h' => exact fun m' H' σ' r M' s => q m' H' σ' r (M.trans M') s
  | ct ρ h' => exact fun m' H' σ' r M' s => q m' H' σ' r (M.trans M') s
  | rt v h' => exact fun m' H' u r M' s => q m' H' u r (M.trans M') s
  | exc c fs ρ h' => exact fun m' H' d us a σ' r M' e1 e2 e3 e4 => q m' H' d us a σ' r (M.trans M') e1 e2 e3 e4
  | bad => exact q
theorem okg_stmt {α : Type} {o : Out α} {ρ : Sl} {σ : L2.St} {k : α → Hh → So} {D : Ends} (rs : RS F m H ρ σ) (q : OkS F W m H (bindE o ρ k) D) : OkG F m H o (fun v h1 m1 H1 => OkS F W m1 H1 (k v h1) D) (fun c d H' => W c d σ H') := by
  cases o with
  | ok v h' => exact fun m' H' r M' => oks_mono q M'
  | exc c fs h' => exact fun m' H' d us a r M' e1 e2 e3 => q m' H' d us a σ r M' e1 e2 e3 (rs.mono M')
  | bad => exact q
theorem oks_nx {h : Hh} {ρ : Sl} {σ : L2.St} {D : Ends} (rh : RH F m h H) (rs : RS F m H ρ σ) (q : OkS F W m H (.nx ρ h) D) : D.nx σ H := q m H σ rh (Mono.refl m H) rs
/-! ### small statements -/
def sPass : EvS := fun ρ h => .nx ρ h
theorem s_next : Pst F W tNext sPass := fun m H h σ ρ D rh rs q => oks_nx rh rs q
def sBreak : EvS := fun ρ h => .bk ρ h
theorem s_break : Pst F W tBreak sBreak := fun m H h σ ρ D rh rs q => q m H σ rh (Mono.refl m H) rs
def sCont : EvS := fun ρ h => .ct ρ h
theorem s_cont : Pst F W tCont sCont := fun m H h σ ρ D rh rs q => q m H σ rh (Mono.refl m H) rs
def bindS (o : So) (k : Sl → Hh → So) : So := match o with
  | .nx ρ h => k ρ h
  | .bk ρ h => .bk ρ h
  | .ct ρ h => .ct ρ h
  | .rt v h => .rt v h
  | .exc c fs ρ h => .exc c fs ρ h
  | .bad => .bad
def sSeq (f g : EvS) : EvS := fun ρ h => bindS (f ρ h) g
theorem oks_bind {o : So} {k : Sl → Hh → So} {D : Ends} {N : L2.St → Hp → Prop} (q : OkS F W m H (bindS o k) D) (hN : ∀ m1 H1 h1 ρ1 σ1, RH F m1 h1 H1 → RS F m1 H1 ρ1 σ1 → OkS F W m1 H1 (k ρ1 h1) D → N σ1 H1) : OkS F W m H o { D with nx := N } := by
  cases o with
  | nx ρ h' => exact fun m' H' σ' r M' s => hN m' H' h' ρ σ' r s (oks_mono q M')
  | bk ρ h' => exact q
  | ct ρ h' => exact q
  | rt v h' => exact q
  | exc c fs ρ h' => exact q
  | bad => exact q
theorem s_seq {t u : TS} {f g : EvS} (a : Pst F W t f) (b : Pst F W u g) : Pst F W (tSeq t u) (sSeq f g) := by
  intro m H h σ ρ D rh rs q
  exact a m H h σ ρ _ rh rs (oks_bind q fun m1 H1 h1 ρ1 σ1 r1 s1 q1 => b m1 H1 h1 σ1 ρ1 D r1 s1 q1)
def sDrop (fa : EvF) : EvS := fun ρ h => bindE (fa ρ h) ρ fun _ h1 => .nx ρ h1
theorem s_drop {te : TE} {fa : EvF} (ha : Pe F W te fa) : Pst F W (tDrop te) (sDrop fa) := by
  intro m H h σ ρ D rh rs q
  exact ha m H h σ ρ _ rh rs (okg_imp (okg_stmt rs q) fun x h1 m1 H1 r1 M1 q1 u ru => oks_nx r1 (rs.mono M1) q1)
def sRet (fa : EvF) : EvS := fun ρ h => bindE (fa ρ h) ρ fun v h1 => .rt v h1
theorem s_ret {te : TE} {fa : EvF} (ha : Pe F W te fa) : Pst F W (tRet te) (sRet fa) := by
  intro m H h σ ρ D rh rs q
  exact ha m H h σ ρ _ rh rs (okg_imp (okg_stmt rs q) fun x h1 m1 H1 r1 M1 q1 u ru => q1 m1 H1 u r1 (Mono.refl m1 H1) ru)
def sRetN : EvS := fun _ h => .rt .non h
theorem s_retN : Pst F W tRetN sRetN := fun m H h σ ρ D rh rs q => q m H .non rh (Mono.refl m H) .non
def sIf (fc : EvT) (f g : EvS) : EvS := fun ρ h => bindE (fc ρ h) ρ fun b h1 => if b = true then f ρ h1 else g ρ h1
theorem s_if {c : TT} {t u : TS} {fc : EvT} {f g : EvS} (hc : Ptt F W c fc) (a : Pst F W t f) (b : Pst F W u g) : Pst F W (tIfS c t u) (sIf fc f g) := by
  intro m H h σ ρ D rh rs q
  refine hc m H h σ ρ _ rh rs (okg_imp (okg_stmt rs q) fun k h1 m1 H1 r1 M1 q1 => ?_)
  cases k with
  | true => exact a m1 H1 h1 σ ρ D r1 (rs.mono M1) q1
  | false => exact b m1 H1 h1 σ ρ D r1 (rs.mono M1) q1
/-! ### targets -/
abbrev EvG := Sl → AV → Option Sl
def Ptg (F : Fx) (g : TG) (f : EvG) : Prop := ∀ m H σ ρ v u Q, RS F m H ρ σ → RV F m H v u → (∃ ρ1, f ρ v = some ρ1 ∧ ∀ σ1, RS F m H ρ1 σ1 → Q σ1 H) → g u σ H Q
def Ptgs (F : Fx) (g : TGs) (f : Sl → List AV → Option Sl) : Prop := ∀ m H σ ρ v u Q, RS F m H ρ σ → RVs F m H v u → (∃ ρ1, f ρ v = some ρ1 ∧ ∀ σ1, RS F m H ρ1 σ1 → Q σ1 H) → g u σ H Q
def yName (i : Nat) : EvG := fun ρ v => some (ρ.set i (some v))
theorem y_name (i : Nat) : Ptg F (gName i) (yName i) := by
  intro m H σ ρ v u Q rs rv ⟨ρ1, e, q⟩
  cases e
  exact q _ (rs.set rv)
def yNil : Sl → List AV → Option Sl := fun ρ vs => if vs.isEmpty = true then some ρ else none
def yCons (f : EvG) (g : Sl → List AV → Option Sl) : Sl → List AV → Option Sl := fun ρ vs => match vs with
  | [] => none
  | v :: r => match f ρ v with
    | none => none
    | some ρ1 => g ρ1 r
theorem y_nil : Ptgs F gNil yNil := by
  intro m H σ ρ v u Q rs rv ⟨ρ1, e, q⟩
  cases rv with
  | nil => cases e; exact ⟨rfl, q _ rs⟩
  | cons _ _ => cases e
theorem y_cons {t : TG} {u : TGs} {f : EvG} {g : Sl → List AV → Option Sl} (a : Ptg F t f) (b : Ptgs F u g) : Ptgs F (gCons t u) (yCons f g) := by
  intro m H σ ρ v us Q rs rv ⟨ρ1, e, q⟩
  cases rv with
  | nil => cases e
  | @cons x xs w ws r rr =>
    refine ⟨w, ws, rfl, a m H σ ρ x w _ rs r ?_⟩
    unfold yCons at e
    cases z : f ρ x with
    | none => simp only [z] at e; cases e
    | some ρ2 =>
      simp only [z] at e
      exact ⟨ρ2, rfl, fun σ2 s2 => b m H σ2 ρ2 xs ws Q s2 rr ⟨ρ1, e, q⟩⟩
def yTup (n : Nat) (g : Sl → List AV → Option Sl) : EvG := fun ρ v => match tupA v with
  | some xs => if xs.length = n then g ρ xs else none
  | none => none
theorem y_tup {n : Nat} {t : TGs} {g : Sl → List AV → Option Sl} (b : Ptgs F t g) : Ptg F (gTup F.K n t) (yTup n g) := by
  intro m H σ ρ v u Q rs rv ⟨ρ1, e, q⟩
  unfold yTup at e
  cases z : tupA v with
  | none => simp only [z] at e; cases e
  | some xs =>
    simp only [z] at e
    split at e
    · rename_i hl
      obtain ⟨a, us, rfl, ha, ra⟩ := tupA_ok rv z
      exact ⟨a, us, rfl, ha, by rw [rvs_len ra]; exact hl, b m H σ ρ xs us Q rs ra ⟨ρ1, e, q⟩⟩
    · cases e
def sAsg (fa : EvF) (g : EvG) : EvS := fun ρ h => bindE (fa ρ h) ρ fun v h1 => match g ρ v with
  | some ρ1 => .nx ρ1 h1
  | none => .bad
theorem s_asg {te : TE} {fa : EvF} {t : TG} {g : EvG} (ha : Pe F W te fa) (hg : Ptg F t g) : Pst F W (tAsg te t) (sAsg fa g) := by
  intro m H h σ ρ D rh rs q
  refine ha m H h σ ρ _ rh rs (okg_imp (okg_stmt rs q) fun x h1 m1 H1 r1 M1 q1 u ru => ?_)
  cases z : g ρ x with
  | none => simp only [z] at q1; exact q1.elim
  | some ρ1 =>
    simp only [z] at q1
    exact hg m1 H1 σ ρ x u _ (rs.mono M1) ru ⟨ρ1, z, fun σ1 s1 => oks_nx r1 s1 q1⟩
/-! ### iteration -/
inductive AIt where
  | lst (i : Nat) | tup (xs : List AV) | rng (lo : Int) (n : Nat) | enL (i : Nat) | enT (xs : List AV) | zpL (i j : Nat) | zpT (xs ys : List AV)
def enA (k : Nat) (o : Option AV) : Option AV := match o with
  | some x => some (.tup [.int k, x])
  | none => none
def zpA (o o' : Option AV) : Option AV := match o, o' with
  | some x, some y => some (.tup [x, y])
  | _, _ => none
def lstAt (h : Hh) (i : Nat) : Option (List AV) := match h.get i with
  | some (.lst xs) => some xs
  | _ => none
def stepA (it : AIt) (k : Nat) (h : Hh) : Option (Option AV) := match it with
  | .lst i => match h.get i with
    | some (.lst xs) => some xs[k]?
    | _ => none
  | .tup xs => some xs[k]?
  | .rng lo n => some (if k < n then some (.int (lo + k)) else none)
  | .enL i => match lstAt h i with
    | some xs => some (enA k xs[k]?)
    | none => none
  | .enT xs => some (enA k xs[k]?)
  | .zpL i j => match lstAt h i, lstAt h j with
    | some xs, some ys => some (zpA xs[k]? ys[k]?)
    | _, _ => none
  | .zpT xs ys => some (zpA xs[k]? ys[k]?)
/-- an iterator as the machine has it, behind (m, H) -/
def IOk (F : Fx) (m0 : List Addr) (H0 : Hp) (J : It) (it : AIt) : Prop := ∀ m h H k, RH F m h H → Mono F m0 H0 m H →
  (stepA it k h = some none → J.stop k H) ∧ ∀ x, stepA it k h = some (some x) → J.go k H ∧ ∀ v H', J.yld k H v H' → RH F m h H' ∧ Mono F m H m H' ∧ RV F m H' x v
theorem iok_mono {J : It} {it : AIt} (h : IOk F m H J it) (M : Mono F m H m1 H1) : IOk F m1 H1 J it := fun m' h' H' k r M' => h m' h' H' k r (M.trans M')
def Pit (F : Fx) (W : WX') (wi : TI) (f : Sl → Hh → Out AIt) : Prop := ∀ m H h σ ρ R, RH F m h H → RS F m H ρ σ → OkG F m H (f ρ h) (fun it _ m' H' => ∀ J, IOk F m' H' J it → R J H') (fun c d H' => W c d σ H') → wi σ H R
theorem rvs_none {m : List Addr} {H : Hp} {xs : List AV} {us : List V} (r : RVs F m H xs us) {k : Nat} (e : xs[k]? = none) : us.length ≤ k := by
  rw [rvs_len r]; exact List.getElem?_eq_none_iff.mp e
theorem it_tup {a : Addr} {xs : List AV} {us : List V} (hs : ∀ m' H', Mono F m H m' H' → SqT F.K H' a us ∧ RVs F m' H' xs us) (one : ∀ m' H' vs, Mono F m H m' H' → SqT F.K H' a vs → vs = us) : IOk F m H (Itt F.K a) (.tup xs) := by
  intro m' h' H' k r M
  obtain ⟨h1, h2⟩ := hs m' H' M
  refine ⟨fun e => ⟨us, h1, rvs_none h2 (Option.some.inj e)⟩, fun x e => ?_⟩
  obtain ⟨u, e1, e2⟩ := rvs_get h2 k x (Option.some.inj e)
  refine ⟨⟨us, u, h1, e1⟩, fun v H2 y => ?_⟩
  obtain ⟨rfl, y⟩ := y
  have := y us h1
  rw [e1] at this; cases this
  exact ⟨r, Mono.refl _ _, e2⟩
theorem it_rng (lo : Int) (n : Nat) : IOk F m H (Itr lo n) (.rng lo n) := by
  intro m' h' H' k r M
  unfold stepA
  by_cases hk : k < n
  · simp only [if_pos hk]
    refine ⟨(fun e => nomatch e), fun x e => ?_⟩
    cases e
    refine ⟨hk, fun v H2 y => ?_⟩
    obtain ⟨rfl, rfl⟩ := y
    exact ⟨r, Mono.refl _ _, .int _⟩
  · simp only [if_neg hk]
    exact ⟨fun _ => Nat.le_of_not_lt hk, (fun x e => nomatch e)⟩
/-- the turns of a loop -/
def forS (it : AIt) (g : EvG) (body : EvS) : Nat → Nat → EvS
  | 0, _, _, _ => .bad
  | n + 1, k, ρ, h => match stepA it k h with
    | none => .bad
    | some none => .nx ρ h
    | some (some x) => match g ρ x with
      | none => .bad
      | some ρ1 => match body ρ1 h with
        | .nx ρ2 h2 => forS it g body n (k + 1) ρ2 h2
        | .ct ρ2 h2 => forS it g body n (k + 1) ρ2 h2
        | .bk ρ2 h2 => .nx ρ2 h2
        | .rt v h2 => .rt v h2
        | .exc c fs ρ2 h2 => .exc c fs ρ2 h2
        | .bad => .bad
def sFor (fi : Sl → Hh → Out AIt) (g : EvG) (body : EvS) : EvS := fun ρ h => bindE (fi ρ h) ρ fun it h1 => forS it g body 100000 0 ρ h1
theorem s_for {wi : TI} {fi : Sl → Hh → Out AIt} {t : TG} {g : EvG} {tb : TS} {body : EvS} (hi : Pit F W wi fi) (hg : Ptg F t g) (hb : Pst F W tb body) : Pst F W (tFor wi t tb) (sFor fi g body) := by
  intro m H h σ ρ D rh rs q
  refine hi m H h σ ρ _ rh rs (okg_imp (okg_stmt rs q) fun it h1 m1 H1 r1 M1 q1 J ij => ?_)
  refine ⟨fun i n σ H => ∃ m h ρ, RH F m h H ∧ RS F m H ρ σ ∧ Mono F m1 H1 m H ∧ OkS F W m H (forS it g body n i ρ h) D, ⟨100000, m1, h1, ρ, r1, rs.mono M1, Mono.refl _ _, q1⟩, fun i n σ2 H2 ⟨m2, h2, ρ2, r2, s2, M2, q2⟩ => ?_⟩
  cases n with
  | zero => exact q2.elim
  | succ n =>
    unfold forS at q2
    obtain ⟨st, yl⟩ := ij m2 h2 H2 i r2 M2
    cases z : stepA it i h2 with
    | none => simp only [z] at q2; exact q2.elim
    | some o =>
      cases o with
      | none => simp only [z] at q2; exact .inl ⟨st z, oks_nx r2 s2 q2⟩
      | some x =>
        simp only [z] at q2
        obtain ⟨go, yl⟩ := yl x z
        refine .inr ⟨go, fun σ' H' => ∃ m' h' ρ', RH F m' h' H' ∧ RS F m' H' ρ' σ' ∧ Mono F m1 H1 m' H' ∧ OkS F W m' H' (forS it g body n (i + 1) ρ' h') D, fun σ' H' w => ⟨n, Nat.lt_succ_self n, w⟩, fun v H3 y => ?_⟩
        obtain ⟨r3, M3, rx⟩ := yl v H3 y
        cases zg : g ρ2 x with
        | none => simp only [zg] at q2; exact q2.elim
        | some ρ3 =>
          simp only [zg] at q2
          refine hg m2 H3 σ2 ρ2 x v _ (s2.mono M3) rx ⟨ρ3, zg, fun σ3 s3 => ?_⟩
          refine hb m2 H3 h2 σ3 ρ3 _ r3 s3 ?_
          have M4 := M2.trans M3
          cases zb : body ρ3 h2 with
          | nx ρ4 h4 => simp only [zb] at q2; exact fun m' H' σ' r M' s => ⟨m', h4, ρ4, r, s, M4.trans M', oks_mono q2 (M3.trans M')⟩
          | ct ρ4 h4 => simp only [zb] at q2; exact fun m' H' σ' r M' s => ⟨m', h4, ρ4, r, s, M4.trans M', oks_mono q2 (M3.trans M')⟩
          | bk ρ4 h4 => simp only [zb] at q2; exact fun m' H' σ' r M' s => q2 m' H' σ' r (M3.trans M') s
          | rt v4 h4 => simp only [zb] at q2; exact fun m' H' u r M' s => q2 m' H' u r (M3.trans M') s
          | exc c fs ρ4 h4 => simp only [zb] at q2; exact fun m' H' d us a σ' r M' e1 e2 e3 e4 => q2 m' H' d us a σ' r (M3.trans M') e1 e2 e3 e4
          | bad => simp only [zb] at q2; exact q2
/-! ### while -/
def whileS (fc : EvT) (body : EvS) : Nat → EvS
  | 0, _, _ => .bad
  | n + 1, ρ, h => bindE (fc ρ h) ρ fun b h1 => if b = true then (match body ρ h1 with
        | .nx ρ2 h2 => whileS fc body n ρ2 h2
        | .ct ρ2 h2 => whileS fc body n ρ2 h2
        | .bk ρ2 h2 => .nx ρ2 h2
        | .rt v h2 => .rt v h2
        | .exc c fs ρ2 h2 => .exc c fs ρ2 h2
        | .bad => .bad) else .nx ρ h1
theorem s_while {c : TT} {tb : TS} {fc : EvT} {body : EvS} (hc : Ptt F W c fc) (hb : Pst F W tb body) : Pst F W (tWhile c tb) (whileS fc body 100000) := by
  intro m H h σ ρ D rh rs q
  refine ⟨fun n σ H => ∃ m h ρ, RH F m h H ∧ RS F m H ρ σ ∧ OkS F W m H (whileS fc body n ρ h) D, ⟨100000, m, h, ρ, rh, rs, q⟩, fun n σ2 H2 ⟨m2, h2, ρ2, r2, s2, q2⟩ => ?_⟩
  cases n with
  | zero => exact q2.elim
  | succ n =>
    unfold whileS at q2
    refine hc m2 H2 h2 σ2 ρ2 _ r2 s2 (okg_imp (okg_stmt s2 q2) fun k h1 m1 H1 r1 M1 q1 => ?_)
    cases k with
    | false => exact oks_nx r1 (s2.mono M1) q1
    | true =>
      refine ⟨fun σ' H' => ∃ m' h' ρ', RH F m' h' H' ∧ RS F m' H' ρ' σ' ∧ OkS F W m' H' (whileS fc body n ρ' h') D, fun σ' H' w => ⟨n, Nat.lt_succ_self n, w⟩, ?_⟩
      refine hb m1 H1 h1 σ2 ρ2 _ r1 (s2.mono M1) ?_
      have q1 := q1
      simp only [if_pos] at q1
      cases zb : body ρ2 h1 with
      | nx ρ4 h4 => simp only [zb] at q1; exact fun m' H' σ' r M' s => ⟨m', h4, ρ4, r, s, oks_mono q1 M'⟩
      | ct ρ4 h4 => simp only [zb] at q1; exact fun m' H' σ' r M' s => ⟨m', h4, ρ4, r, s, oks_mono q1 M'⟩
      | bk ρ4 h4 => simp only [zb] at q1; exact q1
      | rt v4 h4 => simp only [zb] at q1; exact q1
      | exc c fs ρ4 h4 => simp only [zb] at q1; exact q1
      | bad => simp only [zb] at q1; exact q1
end
end DI

set_option Elab.async false
set_option linter.all false
set_option maxRecDepth 100000
set_option maxHeartbeats 4000000
/-! iterators, list comprehensions, all and any of generator expressions -/
namespace DI
open PySem PySem.Spec PyProof.Rows L2 GxR
section
variable {F : Fx} {W : WX'} {m m1 : List Addr} {H H1 : Hp}
/-! ### iterators -/
theorem it_lst {i : Nat} {a : Addr} (e : m[i]? = some a) : IOk F m H (Itl F.K a) (.lst i) := by
  intro m' h' H' k r M
  have e' := pre_get M.pre e
  have look : ∀ {xs : List AV}, h'.get i = some (.lst xs) → ∃ us, H' a = some (.lst us) ∧ RVs F m' H' xs us := fun {xs} z => by
    obtain ⟨b, w, e1, e2, e3⟩ := r.of z
    rw [e'] at e1; cases e1
    cases e3 with | lst q => exact ⟨_, e2, q⟩
  have val : ∀ {q : Option (Option AV)}, stepA (.lst i) k h' = q → q = none ∨ ∃ xs, h'.get i = some (.lst xs) ∧ q = some xs[k]? := fun {q} e => by
    unfold stepA at e
    cases z : h'.get i with
    | none => simp only [z] at e; exact .inl e.symm
    | some o =>
      cases o with
      | dk _ => simp only [z] at e; exact .inl e.symm
      | dt _ => simp only [z] at e; exact .inl e.symm
      | fk _ => simp only [z] at e; exact .inl e.symm
      | lst xs => simp only [z] at e; exact .inr ⟨xs, rfl, e.symm⟩
  refine ⟨fun q => ?_, fun x q => ?_⟩
  · rcases val q with c | ⟨xs, z, c⟩
    · cases c
    · obtain ⟨us, e2, rs⟩ := look z
      exact ⟨us, .inl (.inl e2), rvs_none rs (Option.some.inj c).symm⟩
  · rcases val q with c | ⟨xs, z, c⟩
    · cases c
    · obtain ⟨us, e2, rs⟩ := look z
      obtain ⟨u, e3, e4⟩ := rvs_get rs k x (Option.some.inj c).symm
      refine ⟨⟨us, u, .inl (.inl e2), e3⟩, fun v H2 y => ?_⟩
      obtain ⟨rfl, y⟩ := y
      have := y us (.inl (.inl e2))
      rw [e3] at this; cases this
      exact ⟨r, Mono.refl _ _, e4⟩
theorem it_tup' {a : Addr} {xs : List AV} {u : V} {x : AV} (r : RV F m H x u) (e : tupA x = some xs) (ea : u = .ref a) : IOk F m H (Itt F.K a) (.tup xs) := by
  subst ea
  intro m' h' H' k rr M
  obtain ⟨b, us, e1, h1, h2⟩ := tupA_ok (r.mono M) e
  cases e1
  refine ⟨fun e => ⟨us, h1, rvs_none h2 (Option.some.inj e)⟩, fun x e => ?_⟩
  obtain ⟨u, e1, e2⟩ := rvs_get h2 k x (Option.some.inj e)
  refine ⟨⟨us, u, h1, e1⟩, fun v H2 y => ?_⟩
  obtain ⟨rfl, y⟩ := y
  have := y us h1
  rw [e1] at this; cases this
  exact ⟨rr, Mono.refl _ _, e2⟩
/-- either of two ways to walk -/
def iEither (a b : TI) : TI := fun σ H R => a σ H R ∨ b σ H R
theorem pi_either {X : Cx} {tg e : Expr} {a b : TI} (ha : PI X tg e a) (hb : PI X tg e b) : PI X tg e (iEither a b) := ⟨fun pins s σ H R I h => h.elim (ha.run pins s σ H R I) (hb.run pins s σ H R I)⟩
def toIt (x : AV) (h : Hh) : Option AIt := match x with
  | .ref i => match h.get i with
    | some (.lst _) => some (.lst i)
    | _ => none
  | .tup xs => some (.tup xs)
  | .kt xs => some (.tup xs)
  | .rg lo hi => if -(2 ^ 62) ≤ lo ∧ lo < 2 ^ 62 ∧ -(2 ^ 62) ≤ hi ∧ hi < 2 ^ 62 then some (.rng lo (hi - lo).toNat) else none
  | _ => none
def xIter (fa : EvF) : Sl → Hh → Out AIt := fun ρ h => bindO (fa ρ h) fun x h1 => optO (toIt x h1) h1
def rngA (vs : List AV) (h : Hh) : Out AIt := match vs with
  | [.int j] => if -(2 ^ 62) ≤ j ∧ j < 2 ^ 62 then .ok (.rng 0 j.toNat) h else .bad
  | _ => .bad
def rng2A (vs : List AV) (h : Hh) : Out AIt := match vs with
  | [.int i, .int j] => if -(2 ^ 62) ≤ i ∧ i < 2 ^ 62 ∧ -(2 ^ 62) ≤ j ∧ j < 2 ^ 62 then .ok (.rng i (j - i).toNat) h else .bad
  | _ => .bad
def xRng1 (fa : EvA) : Sl → Hh → Out AIt := fun ρ h => bindO (fa ρ h) rngA
def xRng2 (fa : EvA) : Sl → Hh → Out AIt := fun ρ h => bindO (fa ρ h) rng2A
theorem x_rng1 {ta : TA} {fa : EvA} (ha : Paa F W ta fa) : Pit F W (iRng1 ta) (xRng1 fa) := by
  intro m H h σ ρ R rh rs q
  refine ha m H h σ ρ _ rh rs (okg_imp (okg_bind q) fun x h1 m1 H1 r1 M1 q1 u ru => ?_)
  unfold rngA at q1
  split at q1
  · split at q1
    · rename_i j hj
      cases ru with
      | cons rx rr =>
        cases rr
        cases rx
        exact ⟨j, rfl, hj.1, hj.2, okg_ok r1 q1 _ (it_rng 0 j.toNat)⟩
    · exact q1.elim
  · exact q1.elim
theorem x_rng2 {ta : TA} {fa : EvA} (ha : Paa F W ta fa) : Pit F W (iRng2 ta) (xRng2 fa) := by
  intro m H h σ ρ R rh rs q
  refine ha m H h σ ρ _ rh rs (okg_imp (okg_bind q) fun x h1 m1 H1 r1 M1 q1 u ru => ?_)
  unfold rng2A at q1
  split at q1
  · split at q1
    · rename_i i j hj
      cases ru with
      | cons rx rr =>
        cases rr with
        | cons ry rr =>
          cases rr
          cases rx
          cases ry
          exact ⟨i, j, rfl, hj, okg_ok r1 q1 _ (it_rng i (j - i).toNat)⟩
    · exact q1.elim
  · exact q1.elim
/-! ### slots set aside -/
theorem wipe_set {σ : L2.St} {i : Nat} {o : Option V} : ∀ {vs : List Nat}, i ∈ vs → L2.wipe (σ.set i o) vs = L2.wipe σ vs
  | [], h => absurd h (by simp)
  | v :: vs, h => by
    unfold L2.wipe
    by_cases e : i = v
    · subst e
      by_cases hv : i ∈ vs
      · rw [wipe_set hv]
      · have : L2.wipe (σ.set i o) vs = (L2.wipe σ vs).set i o := by
          clear h
          induction vs with
          | nil => rfl
          | cons w ws ih =>
            have h1 : i ≠ w := fun z => hv (by rw [z]; exact List.mem_cons_self)
            have h2 : i ∉ ws := fun z => hv (List.mem_cons_of_mem _ z)
            unfold L2.wipe
            rw [ih h2, List.set_comm _ _ h1]
        rw [this, List.set_set]
    · rw [wipe_set (List.mem_of_ne_of_mem e h)]
theorem wipe_twice {σ : L2.St} : ∀ {ws vs : List Nat}, (∀ w ∈ ws, w ∈ vs) → L2.wipe (L2.wipe σ ws) vs = L2.wipe σ vs
  | [], _, _ => rfl
  | w :: ws, vs, h => by
    show L2.wipe ((L2.wipe σ ws).set w none) vs = _
    rw [wipe_set (h w List.mem_cons_self), wipe_twice fun x hx => h x (List.mem_cons_of_mem _ hx)]
/-- a target that stores in the slots at `is` alone -/
def Ptq (F : Fx) (g : TG) (f : EvG) (is : List Nat) : Prop := ∀ m H σ ρ v u Q, RS F m H ρ σ → RV F m H v u → (∃ ρ1, f ρ v = some ρ1 ∧ ∀ σ1, RS F m H ρ1 σ1 → (∀ vs : List Nat, (∀ i ∈ is, i ∈ vs) → L2.wipe σ1 vs = L2.wipe σ vs) → Q σ1 H) → g u σ H Q
def Ptqs (F : Fx) (g : TGs) (f : Sl → List AV → Option Sl) (is : List Nat) : Prop := ∀ m H σ ρ v u Q, RS F m H ρ σ → RVs F m H v u → (∃ ρ1, f ρ v = some ρ1 ∧ ∀ σ1, RS F m H ρ1 σ1 → (∀ vs : List Nat, (∀ i ∈ is, i ∈ vs) → L2.wipe σ1 vs = L2.wipe σ vs) → Q σ1 H) → g u σ H Q
theorem Ptq.ptg {g : TG} {f : EvG} {is : List Nat} (h : Ptq F g f is) : Ptg F g f := fun m H σ ρ v u Q rs rv ⟨ρ1, e, q⟩ => h m H σ ρ v u Q rs rv ⟨ρ1, e, fun σ1 s1 _ => q σ1 s1⟩
theorem q_name (i : Nat) : Ptq F (gName i) (yName i) [i] := by
  intro m H σ ρ v u Q rs rv ⟨ρ1, e, q⟩
  cases e
  exact q _ (rs.set rv) fun vs h => wipe_set (h i (by simp))
theorem q_nil : Ptqs F gNil yNil [] := by
  intro m H σ ρ v u Q rs rv ⟨ρ1, e, q⟩
  cases rv with
  | nil => cases e; exact ⟨rfl, q _ rs fun vs _ => rfl⟩
  | cons _ _ => cases e
theorem q_cons {t : TG} {u : TGs} {f : EvG} {g : Sl → List AV → Option Sl} {is js : List Nat} (a : Ptq F t f is) (b : Ptqs F u g js) : Ptqs F (gCons t u) (yCons f g) (is ++ js) := by
  intro m H σ ρ v us Q rs rv ⟨ρ1, e, q⟩
  cases rv with
  | nil => cases e
  | @cons x xs w ws r rr =>
    refine ⟨w, ws, rfl, a m H σ ρ x w _ rs r ?_⟩
    unfold yCons at e
    cases z : f ρ x with
    | none => simp only [z] at e; cases e
    | some ρ2 =>
      simp only [z] at e
      exact ⟨ρ2, rfl, fun σ2 s2 w2 => b m H σ2 ρ2 xs ws Q s2 rr ⟨ρ1, e, fun σ3 s3 w3 => q σ3 s3 fun vs hv =>
        (w3 vs fun i hi => hv i (List.mem_append_right _ hi)).trans (w2 vs fun i hi => hv i (List.mem_append_left _ hi))⟩⟩
theorem q_tup {n : Nat} {t : TGs} {g : Sl → List AV → Option Sl} {is : List Nat} (b : Ptqs F t g is) : Ptq F (gTup F.K n t) (yTup n g) is := by
  intro m H σ ρ v u Q rs rv ⟨ρ1, e, q⟩
  unfold yTup at e
  cases z : tupA v with
  | none => simp only [z] at e; cases e
  | some xs =>
    simp only [z] at e
    split at e
    · rename_i hl
      obtain ⟨a, us, rfl, ha, ra⟩ := tupA_ok rv z
      exact ⟨a, us, rfl, ha, by rw [rvs_len ra]; exact hl, b m H σ ρ xs us Q rs ra ⟨ρ1, e, q⟩⟩
    · cases e
/-! ### list comprehensions -/
def Wno : WX' := fun _ _ _ _ => False
def noX {α : Type} (o : Out α) : Out α := match o with
  | .ok v h => .ok v h
  | _ => .bad
theorem okg_nox {α : Type} {o : Out α} {P : α → Hh → List Addr → Hp → Prop} {E E' : XK} (q : OkG F m H (noX o) P E) : OkG F m H o P E' := by
  cases o with
  | ok v h' => exact q
  | exc c fs h' => exact q.elim
  | bad => exact q.elim
def lcL (it : AIt) (g : EvG) (ft : EvT) (fe : EvF) (vs : List Nat) (d : Nat) (ρ : Sl) : Nat → Nat → Hh → Out AV
  | 0, _, _ => .bad
  | n + 1, k, h => match stepA it k h with
    | none => .bad
    | some none => .ok (.ref d) h
    | some (some x) => match g (wipeS ρ vs) x with
      | none => .bad
      | some ρ1 => bindO (noX (ft ρ1 h)) fun b h1 => if b = true then bindO (noX (fe ρ1 h1)) fun y h2 => match h2.get d with
          | some (.lst acc) => if acc.length < most then lcL it g ft fe vs d ρ n (k + 1) (h2.put d (.lst (acc ++ [y]))) else .bad
          | _ => .bad
        else lcL it g ft fe vs d ρ n (k + 1) h1
def xLc (fi : Sl → Hh → Out AIt) (g : EvG) (ft : EvT) (fe : EvF) (vs : List Nat) : EvF := fun ρ h => bindO (fi ρ h) fun it h1 => if h1.n < big then lcL it g ft fe vs h1.n ρ 100000 0 (h1.new (.lst [])) else .bad
theorem x_lc {wi : TI} {fi : Sl → Hh → Out AIt} {g : TG} {gf : EvG} {is vs : List Nat} {tt : TT} {ft : EvT} {te : TE} {fe : EvF} (hi : Pit F W wi fi) (hg : Ptq F g gf is) (hv : ∀ i ∈ is, i ∈ vs) (ht : Ptt F Wno tt ft) (he : Pe F Wno te fe) :
    Pe F W (tLc wi g tt te vs) (xLc fi gf ft fe vs) := by
  intro m H h σ ρ Q rh rs q
  refine hi m H h σ ρ _ rh rs (okg_imp (okg_bind q) fun it h1 m1 H1 r1 M1 q1 J ij D nD => ?_)
  by_cases hb : h1.n < big
  · rw [if_pos hb] at q1
    have M2 : Mono F m1 H1 (m1 ++ [D]) (upd H1 D (.lst [])) := Mono.new nD
    have r2 : RH F (m1 ++ [D]) (h1.new (.lst [])) (upd H1 D (.lst [])) := r1.new nD hb (.lst .nil)
    have eD : (m1 ++ [D])[h1.n]? = some D := by rw [← r1.len, List.getElem?_append_right (Nat.le_refl _)]; simp
    refine ⟨fun i n H' => ∃ m' h', RH F m' h' H' ∧ Mono F (m1 ++ [D]) (upd H1 D (.lst [])) m' H' ∧ OkG F m' H' (lcL it gf ft fe vs h1.n ρ n i h') (PV F Q) (fun c d H' => W c d σ H'), ⟨100000, _, _, r2, Mono.refl _ _, okg_mono q1 M2⟩, fun i n H2 ⟨m2, h2, r3, M3, q2⟩ => ?_⟩
    cases n with
    | zero => exact q2.elim
    | succ n =>
      unfold lcL at q2
      have Mall := M2.trans M3
      obtain ⟨st, yl⟩ := ij m2 h2 H2 i r3 Mall
      cases z : stepA it i h2 with
      | none => simp only [z] at q2; exact q2.elim
      | some o =>
        cases o with
        | none => simp only [z] at q2; exact .inl ⟨st z, okg_ok r3 q2 _ (.ref (pre_get M3.pre eD))⟩
        | some x =>
          simp only [z] at q2
          obtain ⟨go, yl⟩ := yl x z
          refine .inr ⟨go, fun H' => ∃ m' h', RH F m' h' H' ∧ Mono F (m1 ++ [D]) (upd H1 D (.lst [])) m' H' ∧ OkG F m' H' (lcL it gf ft fe vs h1.n ρ n (i + 1) h') (PV F Q) (fun c d H' => W c d σ H'), fun H' w => ⟨n, Nat.lt_succ_self n, w⟩, fun v H3 y => ?_⟩
          obtain ⟨r4, M4, rx⟩ := yl v H3 y
          cases zg : gf (wipeS ρ vs) x with
          | none => simp only [zg] at q2; exact q2.elim
          | some ρ3 =>
            simp only [zg] at q2
            have s3 : RS F m2 H3 (wipeS ρ vs) (L2.wipe σ vs) := ((rs.mono (M1.trans Mall)).mono M4).wipe vs
            refine hg m2 H3 _ _ x v _ s3 rx ⟨ρ3, zg, fun σ3 s3 w3 => ⟨?_, ?_⟩⟩
            · rw [w3 vs hv, wipe_twice fun _ h => h]
            · refine ht m2 H3 h2 σ3 ρ3 _ r4 s3 (okg_imp (okg_nox (okg_bind (okg_mono q2 M4))) fun b h4 m4 H4 r5 M5 q4 => ?_)
              cases b with
              | false => exact ⟨m4, h4, r5, M3.trans (M4.trans M5), q4⟩
              | true =>
                refine he m4 H4 h4 σ3 ρ3 _ r5 (s3.mono M5) (okg_imp (okg_nox (okg_bind q4)) fun y h5 m5 H5 r6 M6 q5 u ru => ?_)
                have M7 := M3.trans (M4.trans (M5.trans M6))
                cases zl : h5.get h1.n with
                | none => simp only [zl] at q5; exact q5.elim
                | some o =>
                  cases o with
                  | dk _ => simp only [zl] at q5; exact q5.elim
                  | dt _ => simp only [zl] at q5; exact q5.elim
                  | fk _ => simp only [zl] at q5; exact q5.elim
                  | lst acc =>
                    simp only [zl] at q5
                    obtain ⟨a, w, e1, e2, e3⟩ := r6.of zl
                    rw [pre_get M7.pre eD] at e1; cases e1
                    cases e3 with
                    | @lst _ us ra =>
                      split at q5
                      · rename_i hz
                        have ro : RO F m5 H5 (.lst acc) (.lst us) := .lst ra
                        have M8 : Mono F m5 H5 m5 (upd H5 D (.lst (us ++ [u]))) := Mono.write e2 ro.mut
                        refine ⟨us, e2, by rw [rvs_len ra]; unfold most at hz; rw [sizeLine_eq]; omega, m5, h5.put h1.n (.lst (acc ++ [y])), ?_, M7.trans M8, okg_mono q5 M8⟩
                        exact r6.write zl (pre_get M7.pre eD) e2 ro (.lst (rvs_app ra (.cons ru .nil)))
                      · exact q5.elim
  · rw [if_neg hb] at q1; exact q1.elim
end
end DI

set_option Elab.async false
set_option linter.all false
set_option maxRecDepth 100000
set_option maxHeartbeats 4000000
/-! all and any of generator expressions; enumerate, zip; stores in dicts, append -/
namespace DI
open PySem PySem.Spec PyProof.Rows L2 GxR RZ
section
variable {F : Fx} {W : WX'} {m m1 : List Addr} {H H1 : Hp}
theorem Mono.tabbed {P : Addr} {H2 : Hp} (hl : ∀ p ∈ F.L, p.1 ≠ P) (hP : TabG H1 P) (t : GxR.Tabbed P H1 H2) : Mono F m H1 m H2 := by
  obtain ⟨ps, e1, t1⟩ := hP
  have im : ∀ a u, Imm u → H1 a = some u → H2 a = some u := fun a u i e => by
    have : a ≠ P := fun z => by subst z; rw [e1] at e; cases e; exact i
    rw [t.2 a this]; exact e
  refine ⟨List.prefix_refl _, fun a u i e => ?_, fun P' hP' g => ?_, lams_stay (fun p hp qs e => by rw [t.2 _ (hl p hp)]; exact e) im⟩
  · have : a ≠ P := fun z => by subst z; rw [e1] at e; cases e; exact i
    rw [t.2 a this]; exact e
  · by_cases z : P' = P
    · subst z; exact t.1
    · obtain ⟨qs, e2, t2⟩ := g
      exact ⟨qs, by rw [t.2 P' z]; exact e2, t2⟩
theorem RH.nL {P : Addr} {h : Hh} (r : RH F m h H1) (hT : P ∈ F.T) : ∀ p ∈ F.L, p.1 ≠ P := fun p hp z => r.dis p hp (by rw [z]; exact hT)
theorem RH.tabbed {P : Addr} {h : Hh} {H2 : Hp} (r : RH F m h H1) (hT : P ∈ F.T) (hP : TabG H1 P) (t : GxR.Tabbed P H1 H2) : RH F m h H2 := by
  have M : Mono F m H1 m H2 := Mono.tabbed (r.nL hT) hP t
  obtain ⟨ps, e1, t1⟩ := hP
  refine ⟨r.len, r.nd, r.big, fun i a e => ?_, fun P' hP' => M.tab P' hP' (r.tab P' hP'), M.lam r.lam, r.dis, r.one⟩
  obtain ⟨o, u, e2, e3, e4⟩ := r.at_ i a e
  have : a ≠ P := fun z => by subst z; rw [e1] at e3; cases e3; exact e4.mut.2 _ rfl
  exact ⟨o, u, e2, by rw [t.2 a this]; exact e3, e4.mono M⟩
def gxL (go : Bool) (it : AIt) (g : EvG) (ft : EvT) (fe : EvF) (vs : List Nat) (ρ : Sl) : Nat → Nat → Hh → Out AV
  | 0, _, _ => .bad
  | n + 1, k, h => match stepA it k h with
    | none => .bad
    | some none => .ok (.bl go) h
    | some (some x) => match g (wipeS ρ vs) x with
      | none => .bad
      | some ρ1 => bindO (noX (ft ρ1 h)) fun b h1 => if b = true then bindO (noX (fe ρ1 h1)) fun y h2 => match asBl y with
          | some c => if c = go then gxL go it g ft fe vs ρ n (k + 1) h2 else .ok (.bl (!go)) h2
          | none => .bad
        else gxL go it g ft fe vs ρ n (k + 1) h1
def xGx (go : Bool) (fi : Sl → Hh → Out AIt) (g : EvG) (ft : EvT) (fe : EvF) (vs : List Nat) : EvF := fun ρ h => bindO (fi ρ h) fun it h1 => gxL go it g ft fe vs ρ 100000 0 h1
theorem x_gx {P : Addr} {go : Bool} {wi : TI} {fi : Sl → Hh → Out AIt} {g : TG} {gf : EvG} {is vs : List Nat} {tt : TT} {ft : EvT} {te : TE} {fe : EvF} (hP : P ∈ F.T) (hi : Pit F W wi fi) (hg : Ptq F g gf is) (hv : ∀ i ∈ is, i ∈ vs) (ht : Ptt F Wno tt ft) (he : Pe F Wno te fe) :
    Pe F W (GX.tGx P go wi g tt te vs) (xGx go fi gf ft fe vs) := by
  intro m H h σ ρ Q rh rs q
  refine hi m H h σ ρ _ rh rs (okg_imp (okg_bind q) fun it h1 m1 H1 r1 M1 q1 J ij => ⟨r1.tab P hP, fun H2 tb => ?_⟩)
  have M2 : Mono F m1 H1 m1 H2 := Mono.tabbed (r1.nL hP) (r1.tab P hP) tb
  have r2 := r1.tabbed hP (r1.tab P hP) tb
  refine ⟨fun i n H' => ∃ m' h', RH F m' h' H' ∧ Mono F m1 H2 m' H' ∧ OkG F m' H' (gxL go it gf ft fe vs ρ n i h') (PV F Q) (fun c d H' => W c d σ H'), ⟨100000, _, _, r2, Mono.refl _ _, okg_mono q1 M2⟩, fun i n H2 ⟨m2, h2, r3, M3, q2⟩ => ?_⟩
  cases n with
  | zero => exact q2.elim
  | succ n =>
    unfold gxL at q2
    have Mall := M2.trans M3
    obtain ⟨st, yl⟩ := ij m2 h2 H2 i r3 Mall
    cases z : stepA it i h2 with
    | none => simp only [z] at q2; exact q2.elim
    | some o =>
      cases o with
      | none => simp only [z] at q2; exact .inl ⟨st z, okg_ok r3 q2 _ (.bl go)⟩
      | some x =>
        simp only [z] at q2
        obtain ⟨go', yl⟩ := yl x z
        refine .inr ⟨go', fun H' => ∃ m' h', RH F m' h' H' ∧ Mono F m1 _ m' H' ∧ OkG F m' H' (gxL go it gf ft fe vs ρ n (i + 1) h') (PV F Q) (fun c d H' => W c d σ H'), fun H' w => ⟨n, Nat.lt_succ_self n, w⟩, fun v H3 y => ?_⟩
        obtain ⟨r4, M4, rx⟩ := yl v H3 y
        cases zg : gf (wipeS ρ vs) x with
        | none => simp only [zg] at q2; exact q2.elim
        | some ρ3 =>
          simp only [zg] at q2
          have s3 : RS F m2 H3 (wipeS ρ vs) (L2.wipe σ vs) := ((rs.mono (M1.trans Mall)).mono M4).wipe vs
          refine hg m2 H3 _ _ x v _ s3 rx ⟨ρ3, zg, fun σ3 s3 w3 => ⟨?_, ?_⟩⟩
          · rw [w3 vs hv, wipe_twice fun _ h => h]
          · refine ht m2 H3 h2 σ3 ρ3 _ r4 s3 (okg_imp (okg_nox (okg_bind (okg_mono q2 M4))) fun b h4 m4 H4 r5 M5 q4 => ?_)
            cases b with
            | false => exact ⟨m4, h4, r5, M3.trans (M4.trans M5), q4⟩
            | true =>
              refine he m4 H4 h4 σ3 ρ3 _ r5 (s3.mono M5) (okg_imp (okg_nox (okg_bind q4)) fun y h5 m5 H5 r6 M6 q5 u ru => ?_)
              cases zl : asBl y with
              | none => simp only [zl] at q5; exact q5.elim
              | some c =>
                simp only [zl] at q5
                have := asBl_some zl
                subst this
                cases ru
                refine ⟨c, rfl, ?_⟩
                by_cases hc : c = go
                · rw [if_pos hc] at q5 ⊢
                  exact ⟨m5, h5, r6, M3.trans (M4.trans (M5.trans M6)), q5⟩
                · rw [if_neg hc] at q5 ⊢
                  exact okg_ok r6 q5 _ (.bl _)
/-! ### enumerate, zip -/
theorem lstAt_ok {h : Hh} {i : Nat} {a : Addr} {xs : List AV} (rh : RH F m h H) (e : m[i]? = some a) (z : lstAt h i = some xs) : ∃ us, H a = some (.lst us) ∧ RVs F m H xs us := by
  unfold lstAt at z
  cases y : h.get i with
  | none => simp only [y] at z; cases z
  | some o =>
    cases o with
    | dk _ => simp only [y] at z; cases z
    | dt _ => simp only [y] at z; cases z
    | fk _ => simp only [y] at z; cases z
    | lst ys =>
      simp only [y] at z; cases z
      obtain ⟨b, w, e1, e2, e3⟩ := rh.of y
      rw [e] at e1; cases e1
      cases e3 with | lst q => exact ⟨_, e2, q⟩
theorem pair_ok {h : Hh} {x y : AV} {u v : V} {T : Addr} (rh : RH F m h H) (rx : RV F m H x u) (ry : RV F m H y v) (n : H T = none) :
    RH F m h (upd H T (.tup [u, v])) ∧ Mono F m H m (upd H T (.tup [u, v])) ∧ RV F m (upd H T (.tup [u, v])) (.tup [x, y]) (.ref T) := by
  have M : Mono F m H m (upd H T (.tup [u, v])) := Mono.laid n
  exact ⟨rh.laid n, M, .tup upd_same (.cons (rx.mono M) (.cons (ry.mono M) .nil))⟩
theorem it_enL {i : Nat} {a : Addr} (e : m[i]? = some a) : IOk F m H (Ite F.K a) (.enL i) := by
  intro m' h' H' k r M
  have e' := pre_get M.pre e
  cases z : lstAt h' i with
  | none => exact ⟨fun q => (by simp only [stepA, z] at q; cases q), fun x q => (by simp only [stepA, z] at q; cases q)⟩
  | some xs =>
    obtain ⟨us, e2, rs⟩ := lstAt_ok r e' z
    cases y : xs[k]? with
    | none => exact ⟨fun q => ⟨us, .inl (.inl e2), rvs_none rs y⟩, fun x q => (by simp only [stepA, z, y, enA] at q; cases q)⟩
    | some x0 =>
      refine ⟨fun q => (by simp only [stepA, z, y, enA] at q; cases q), fun x q => ?_⟩
      simp only [stepA, z, y, enA] at q
      cases q
      obtain ⟨u, e3, e4⟩ := rvs_get rs k x0 y
      refine ⟨⟨us, u, .inl (.inl e2), e3⟩, fun v H2 w => ?_⟩
      obtain ⟨T, u', rfl, n, rfl, w⟩ := w
      have := w us (.inl (.inl e2))
      rw [e3] at this; cases this
      exact pair_ok r (.int _) e4 n
theorem it_zpL {i j : Nat} {a b : Addr} (ei : m[i]? = some a) (ej : m[j]? = some b) : IOk F m H (Itz F.K a b) (.zpL i j) := by
  intro m' h' H' k r M
  have ei' := pre_get M.pre ei
  have ej' := pre_get M.pre ej
  cases z : lstAt h' i with
  | none => exact ⟨fun q => (by simp only [stepA, z] at q; cases q), fun x q => (by simp only [stepA, z] at q; cases q)⟩
  | some xs =>
    cases z' : lstAt h' j with
    | none => exact ⟨fun q => (by simp only [stepA, z, z'] at q; cases q), fun x q => (by simp only [stepA, z, z'] at q; cases q)⟩
    | some ys =>
      obtain ⟨us, e2, rs⟩ := lstAt_ok r ei' z
      obtain ⟨ws, f2, ss⟩ := lstAt_ok r ej' z'
      cases y : xs[k]? with
      | none => exact ⟨fun q => ⟨us, ws, .inl (.inl e2), .inl (.inl f2), .inl (rvs_none rs y)⟩, fun x q => (by simp only [stepA, z, z', y, zpA] at q; cases q)⟩
      | some x0 =>
        cases y' : ys[k]? with
        | none => exact ⟨fun q => ⟨us, ws, .inl (.inl e2), .inl (.inl f2), .inr (rvs_none ss y')⟩, fun x q => (by simp only [stepA, z, z', y, y', zpA] at q; cases q)⟩
        | some y0 =>
          refine ⟨fun q => (by simp only [stepA, z, z', y, y', zpA] at q; cases q), fun x q => ?_⟩
          simp only [stepA, z, z', y, y', zpA] at q
          cases q
          obtain ⟨u, e3, e4⟩ := rvs_get rs k x0 y
          obtain ⟨v, f3, f4⟩ := rvs_get ss k y0 y'
          refine ⟨⟨us, ws, u, v, .inl (.inl e2), .inl (.inl f2), e3, f3⟩, fun v' H2 w => ?_⟩
          obtain ⟨T, u', w', rfl, n, rfl, g1, g2⟩ := w
          have h1 := g1 us (.inl (.inl e2))
          have h2 := g2 ws (.inl (.inl f2))
          rw [e3] at h1; cases h1
          rw [f3] at h2; cases h2
          exact pair_ok r e4 f4 n
theorem it_zpT {a b : Addr} {xs ys : List AV} {x y : AV} (rx : RV F m H x (.ref a)) (ry : RV F m H y (.ref b)) (ex : tupA x = some xs) (ey : tupA y = some ys) : IOk F m H (ItzT F.K a b) (.zpT xs ys) := by
  intro m' h' H' k r M
  obtain ⟨a', us, e1, e2, rs⟩ := tupA_ok (rx.mono M) ex
  cases e1
  obtain ⟨b', ws, e1, f2, ss⟩ := tupA_ok (ry.mono M) ey
  cases e1
  cases y : xs[k]? with
  | none => exact ⟨fun q => ⟨us, ws, e2, f2, .inl (rvs_none rs y)⟩, fun x q => (by simp only [stepA, y, zpA] at q; cases q)⟩
  | some x0 =>
    cases y' : ys[k]? with
    | none => exact ⟨fun q => ⟨us, ws, e2, f2, .inr (rvs_none ss y')⟩, fun x q => (by simp only [stepA, y, y', zpA] at q; cases q)⟩
    | some y0 =>
      refine ⟨fun q => (by simp only [stepA, y, y', zpA] at q; cases q), fun x q => ?_⟩
      simp only [stepA, y, y', zpA] at q
      cases q
      obtain ⟨u, e3, e4⟩ := rvs_get rs k x0 y
      obtain ⟨v, f3, f4⟩ := rvs_get ss k y0 y'
      refine ⟨⟨us, ws, u, v, e2, f2, e3, f3⟩, fun v' H2 w => ?_⟩
      obtain ⟨T, u', w', rfl, n, rfl, g1, g2⟩ := w
      have h1 := g1 us e2
      have h2 := g2 ws f2
      rw [e3] at h1; cases h1
      rw [f3] at h2; cases h2
      exact pair_ok r e4 f4 n
def enIt (vs : List AV) (h : Hh) : Out AIt := match vs with
  | [.ref i] => match lstAt h i with
    | some _ => .ok (.enL i) h
    | none => .bad
  | _ => .bad
def xEnum (fa : EvA) : Sl → Hh → Out AIt := fun ρ h => bindO (fa ρ h) enIt
theorem x_enum {ta : TA} {fa : EvA} (ha : Paa F W ta fa) : Pit F W (iEnum F.K ta) (xEnum fa) := by
  intro m H h σ ρ R rh rs q
  refine ha m H h σ ρ _ rh rs (okg_imp (okg_bind q) fun x h1 m1 H1 r1 M1 q1 u ru => ?_)
  unfold enIt at q1
  split at q1
  · split at q1
    · rename_i i _ xs z
      cases ru with
      | cons rx rr =>
        cases rr
        cases rx with
        | ref e =>
          obtain ⟨us, e2, rs'⟩ := lstAt_ok r1 e z
          exact ⟨_, us, rfl, .inl (.inl e2), okg_ok r1 q1 _ (it_enL e)⟩
    · exact q1.elim
  · exact q1.elim
def zpIt (vs : List AV) (h : Hh) : Out AIt := match vs with
  | [x, y] => match tupA x, tupA y with
    | some xs, some ys => .ok (.zpT xs ys) h
    | _, _ => match x, y with
      | .ref i, .ref j => match lstAt h i, lstAt h j with
        | some _, some _ => .ok (.zpL i j) h
        | _, _ => .bad
      | _, _ => .bad
  | _ => .bad
def xZip (fa : EvA) : Sl → Hh → Out AIt := fun ρ h => bindO (fa ρ h) zpIt
theorem x_zip {ta : TA} {fa : EvA} (ha : Paa F W ta fa) : Pit F W (iZipA F.K ta) (xZip fa) := by
  intro m H h σ ρ R rh rs q
  refine ha m H h σ ρ _ rh rs (okg_imp (okg_bind q) fun x h1 m1 H1 r1 M1 q1 u ru => ?_)
  unfold zpIt at q1
  split at q1
  · rename_i x y
    cases ru with
    | cons rx rr =>
      cases rr with
      | cons ry rr =>
        cases rr
        split at q1
        · rename_i xs ys z1 z2
          obtain ⟨a, us, rfl, e1, _⟩ := tupA_ok rx z1
          obtain ⟨b, ws, rfl, e2, _⟩ := tupA_ok ry z2
          exact ⟨a, b, us, ws, rfl, .inr ⟨e1, e2, okg_ok r1 q1 _ (it_zpT rx ry z1 z2)⟩⟩
        · split at q1
          · split at q1
            · rename_i i j _ _ _ xs ys z1 z2
              cases rx with
              | ref e =>
                cases ry with
                | ref e' =>
                  obtain ⟨us, e2, _⟩ := lstAt_ok r1 e z1
                  obtain ⟨ws, f2, _⟩ := lstAt_ok r1 e' z2
                  exact ⟨_, _, us, ws, rfl, .inl ⟨.inl (.inl e2), .inl (.inl f2), okg_ok r1 q1 _ (it_zpL e e')⟩⟩
            · exact q1.elim
          · exact q1.elim
  · exact q1.elim
end
end DI

set_option Elab.async false
set_option linter.all false
set_option maxRecDepth 100000
set_option maxHeartbeats 4000000
/-! calls of one's own defs; defs; stores in dicts, append -/
namespace DI
open PySem PySem.Spec PyProof.Rows L2 GxR RZ
section
variable {F : Fx} {W : WX'} {m m1 : List Addr} {H H1 : Hp}
/-- what a def promises: from plain arguments and the store to what fn says -/
def spD (F : Fx) (n : Nat) (fn : List AV → Hh → Out AV) : Sp := fun vs H Q E => ∃ m h xs, RH F m h H ∧ RVs F m H xs vs ∧ xs.length = n ∧ OkG F m H (fn xs h) (PV F Q) E
theorem spD_len {n : Nat} {fn : List AV → Hh → Out AV} {vs : List V} {Q : VK} {E : XK} (s : spD F n fn vs H Q E) : vs.length = n := by
  obtain ⟨m, h, xs, _, r, l, _⟩ := s
  rw [rvs_len r]; exact l
def onN (n : Nat) (fn : List AV → Hh → Out AV) : List AV → Hh → Out AV := fun xs h => if xs.length = n then fn xs h else .bad
theorem p_spD {n : Nat} {fn : List AV → Hh → Out AV} {h : Hh} {xs : List AV} {us : List V} {Q : VK} {E : XK} (rh : RH F m h H) (r : RVs F m H xs us) (q : OkG F m H (onN n fn xs h) (PV F Q) E) : spD F n fn us H Q E := by
  unfold onN at q
  split at q
  · rename_i hn
    exact ⟨m, h, xs, rh, r, hn, q⟩
  · exact q.elim
theorem x_callS {n : Nat} {fn : List AV → Hh → Out AV} {t : TA} {fa : EvA} (ha : Paa F W t fa) : Pe F W (tCallS (spD F n fn) (fun σ cls d H => W cls d σ H) t) (xA (onN n fn) fa) := by
  intro m H h σ ρ Q rh rs q
  exact ha m H h σ ρ _ rh rs (okg_imp (okg_bind q) fun x h1 m1 H1 r1 M1 q1 u ru => p_spD r1 ru q1)
theorem x_call {n : Nat} {fn : List AV → Hh → Out AV} {t : TA} {fa : EvA} {E : XK} (ha : Paa F W t fa) (hE : ∀ c d σ H, W c d σ H → E c d H) : Pe F W (tCall (spD F n fn) [] E t) (xA (onN n fn) fa) := by
  intro m H h σ ρ Q rh rs q
  refine ha m H h σ ρ _ rh rs (okg_imp (okg_bind q) fun x h1 m1 H1 r1 M1 q1 u ru => ?_)
  show spD F n fn (u ++ []) H1 Q E
  rw [List.append_nil]
  obtain ⟨m2, h2, xs, s1, s2, s3, s4⟩ := p_spD r1 ru q1
  refine ⟨m2, h2, xs, s1, s2, s3, ?_⟩
  revert s4
  cases fn xs h2 with
  | ok v h' => exact fun s => s
  | exc c fs h' => exact fun s m' H' d us a r M e1 e2 e3 => hE _ _ _ _ (s m' H' d us a r M e1 e2 e3)
  | bad => exact fun s => s
/-! ### the body of a def -/
def startA (n : Nat) (xs : List AV) : Sl := xs.map some ++ List.replicate (n - xs.length) none
theorem rvs_start {N : List Str} {h : Hh} {xs : List AV} {us : List V} (r : RVs F m H xs us) : RS F m H (startA N.length xs) (L2.start N us) := by
  have hl := rvs_len r
  refine ⟨by unfold startA L2.start; simp [hl], fun i v e => ?_⟩
  unfold startA at e
  unfold L2.start
  by_cases hi : i < xs.length
  · rw [List.getElem?_append_left (by simpa using hi), List.getElem?_map] at e
    cases z : xs[i]? with
    | none => rw [z] at e; cases e
    | some x0 =>
      rw [z] at e
      have e : x0 = v := Option.some.inj (Option.some.inj e)
      subst e
      obtain ⟨u, e1, e2⟩ := rvs_get r i _ z
      exact ⟨u, by rw [List.getElem?_append_left (by rw [List.length_map, hl]; exact hi), List.getElem?_map, e1]; rfl, e2⟩
  · rw [List.getElem?_append_right (by simpa using Nat.le_of_not_lt hi)] at e
    have := List.mem_of_getElem? e
    have := List.eq_of_mem_replicate this
    cases this
def endO (o : So) : Out AV := match o with
  | .nx _ h => .ok .non h
  | .rt v h => .ok v h
  | .exc c fs _ h => .exc c fs h
  | _ => .bad
theorem end_ok {o : So} {Q : VK} {E : XK} (q : OkG F m H (endO o) (PV F Q) E) : OkS F (fun c d _ H => E c d H) m H o { nx := fun _ H' => Q .non H', rt := Q } := by
  cases o with
  | nx ρ h' => exact fun m' H' σ' r M s => q m' H' r M .non .non
  | bk ρ h' => exact q.elim
  | ct ρ h' => exact q.elim
  | rt v h' => exact fun m' H' u r M ru => q m' H' r M u ru
  | exc c fs ρ h' => exact fun m' H' d us a σ' r M e1 e2 e3 e4 => q m' H' d us a r M e1 e2 e3
  | bad => exact q.elim
/-- a def whose body does f -/
def defO (n : Nat) (f : EvS) : List AV → Hh → Out AV := fun xs h => endO (f (startA n xs) h)
theorem body_ok {N : List Str} {n : Nat} {t : TS} {f : EvS} {vs : List V} {Q : VK} {E : XK} (b : Pst F (fun c d _ H => E c d H) t f) (s : spD F n (defO N.length f) vs H Q E) : t { nx := fun _ H' => Q .non H', rt := Q } (L2.start N vs) H := by
  obtain ⟨m, h, xs, rh, r, l, q⟩ := s
  exact b m H h _ _ _ rh (rvs_start (h := h) r) (end_ok q)
theorem fn_ok {P : Program} {w : World} {mg : Str → Option Value} {base : Heap} {x qual : Str} {st : Stmt} {f : Addr} {fd : FuncData} {N ps : List Str} {k : Nat} {fs : EvS} (Fu : Fun F.K x qual st f fd) (S : FnScope N ps (defScope st))
    (hbody : ∀ (E : XK) (cdv : Value) (A : Around) (outer : List Env) (s : Shared) (H : Hp), Room k (A.deeper (envOfC qual (defScope st) s.heap.objs.size f cdv)) →
      ∃ t, PSs (cxOf (L2.CX P w) P w F.K mg base N qual (defScope st) f cdv A outer s H E) (defBody st) t ∧ Pst F (fun c d _ H => E c d H) t fs) :
    FnOk P w F.K mg base (L2.CX P w) (k + 1) f fd ps (spD F ps.length (defO N.length fs)) :=
  Fu.okX S (fun vs H Q E h => spD_len h) fun cdv A outer s H vs Q E hr h => by
    obtain ⟨t, p1, p2⟩ := hbody E cdv A outer s H hr
    exact ⟨t, p1, body_ok p2 h⟩
/-! ### d[k] = v -/
def putA {κ : Type} [DecidableEq κ] (k : κ) (v : AV) (kvs : List (κ × AV)) : List (κ × AV) :=
  if (kvs.any fun kv => decide (kv.1 = k)) = true then kvs.map (fun kv => if kv.1 = k then (kv.1, v) else kv) else kvs ++ [(k, v)]
theorem rkv_any {κ : Type} [DecidableEq κ] {k : κ} : ∀ {xs : List (κ × AV)} {us : List (κ × V)}, RKV (F := F) m H xs us → (us.any fun kv => decide (kv.1 = k)) = (xs.any fun kv => decide (kv.1 = k))
  | _, _, .nil => rfl
  | _, _, .cons h t => by rw [List.any_cons, List.any_cons, rkv_any t]
theorem rkv_map {κ : Type} [DecidableEq κ] {k : κ} {x : AV} {u : V} (r : RV F m H x u) : ∀ {xs : List (κ × AV)} {us : List (κ × V)}, RKV (F := F) m H xs us → RKV (F := F) m H (xs.map fun kv => if kv.1 = k then (kv.1, x) else kv) (us.map fun kv => if kv.1 = k then (kv.1, u) else kv)
  | _, _, .nil => .nil
  | _, _, @RKV.cons _ _ _ _ k' y w xs us h t => by
    rw [List.map_cons, List.map_cons]
    by_cases e : k' = k
    · rw [if_pos e, if_pos e]; exact .cons r (rkv_map r t)
    · rw [if_neg e, if_neg e]; exact .cons h (rkv_map r t)
theorem rkv_app {κ : Type} {k : κ} {x : AV} {u : V} (r : RV F m H x u) : ∀ {xs : List (κ × AV)} {us : List (κ × V)}, RKV (F := F) m H xs us → RKV (F := F) m H (xs ++ [(k, x)]) (us ++ [(k, u)])
  | _, _, .nil => .cons r .nil
  | _, _, .cons h t => .cons h (rkv_app r t)
theorem putA_ok {κ : Type} [DecidableEq κ] {k : κ} {x : AV} {u : V} {xs : List (κ × AV)} {us : List (κ × V)} (r : RV F m H x u) (rk : RKV (F := F) m H xs us) : RKV (F := F) m H (putA k x xs) (putK us k u) := by
  unfold putA putK
  rw [rkv_any rk]
  split
  · exact rkv_map r rk
  · exact rkv_app r rk
theorem rkv_len {κ : Type} : ∀ {xs : List (κ × AV)} {us : List (κ × V)}, RKV (F := F) m H xs us → us.length = xs.length
  | _, _, .nil => rfl
  | _, _, .cons _ t => congrArg Nat.succ (rkv_len t)
def storeA (x y v : AV) (h : Hh) : Option Hh := match x with
  | .ref i => match h.get i with
    | some (.dk kvs) => match keyA y with
      | some k => if kvs.length < most then some (h.put i (.dk (putA k v kvs))) else none
      | none => none
    | some (.dt kvs) => match y with
      | .tup xs => match mapO keyA xs with
        | some k => if kvs.length < most then some (h.put i (.dt (putA k v kvs))) else none
        | none => none
      | _ => none
    | _ => none
  | _ => none
theorem few_ok {n : Nat} (h : n < most) : n < sizeLine := by unfold most at h; rw [sizeLine_eq]; omega
theorem storeA_ok {h h2 : Hh} {x y v : AV} {a b c : V} (rh : RH F m h H) (rx : RV F m H x a) (ry : RV F m H y b) (rv : RV F m H v c) (e : storeA x y v h = some h2) :
    ∃ p H2, a = .ref p ∧ DPut H p b c H2 ∧ RH F m h2 H2 ∧ Mono F m H m H2 := by
  cases x <;> first | cases e; done | skip
  rename_i i
  unfold storeA at e
  cases z : h.get i with
  | none => simp only [z] at e; cases e
  | some ob =>
    obtain ⟨p, w, rfl, e1, e2, e3⟩ := rx.at_ rh z
    cases ob with
    | lst zs => simp only [z] at e; cases e
    | fk zs => simp only [z] at e; cases e
    | dk kvs =>
      cases e3 with
      | @dk _ us rk =>
        cases z2 : keyA y with
        | none => simp only [z, z2] at e; cases e
        | some k =>
          simp only [z, z2] at e
          split at e
          · rename_i hz
            cases e
            rw [keyA_ok ry z2]
            exact ⟨p, _, rfl, DPut.k e2 (by rw [rkv_len rk]; exact few_ok hz), rh.write z e1 e2 (.dk rk) (.dk (putA_ok rv rk)), Mono.write e2 (RO.mut (.dk rk))⟩
          · cases e
    | dt kvs =>
      cases e3 with
      | @dt _ us rk =>
        cases y <;> first | (simp only [z] at e; cases e; done) | skip
        rename_i xs
        cases z2 : mapO keyA xs with
        | none => simp only [z, z2] at e; cases e
        | some k =>
          simp only [z, z2] at e
          split at e
          · rename_i hz
            cases e
            cases ry with
            | tup h1 h2 =>
              rw [keysA_ok h2 z2] at h1
              exact ⟨p, _, rfl, DPut.t e2 h1 (by rw [rkv_len rk]; exact few_ok hz), rh.write z e1 e2 (.dt rk) (.dt (putA_ok rv rk)), Mono.write e2 (RO.mut (.dt rk))⟩
          · cases e
def sPut (fd fk fv : EvF) : EvS := fun ρ h => bindE (fv ρ h) ρ fun v h1 => bindE (fd ρ h1) ρ fun x h2 => bindE (fk ρ h2) ρ fun y h3 => match storeA x y v h3 with
  | some h4 => .nx ρ h4
  | none => .bad
theorem s_put {td ty tv : TE} {fd fk fv : EvF} (hd : Pe F W td fd) (hk : Pe F W ty fk) (hv : Pe F W tv fv) : Pst F W (sDPut td ty tv) (sPut fd fk fv) := by
  intro m H h σ ρ D rh rs q
  refine hv m H h σ ρ _ rh rs (okg_imp (okg_stmt rs q) fun v h1 m1 H1 r1 M1 q1 c rc => ?_)
  refine hd m1 H1 h1 σ ρ _ r1 (rs.mono M1) (okg_imp (okg_stmt (rs.mono M1) q1) fun x h2 m2 H2 r2 M2 q2 a ra => ?_)
  have s2 := (rs.mono M1).mono M2
  refine hk m2 H2 h2 σ ρ _ r2 s2 (okg_imp (okg_stmt s2 q2) fun y h3 m3 H3 r3 M3 q3 b rb => ?_)
  cases z : storeA x y v h3 with
  | none => simp only [z] at q3; exact q3.elim
  | some h4 =>
    simp only [z] at q3
    obtain ⟨p, H4, e1, e2, e3, e4⟩ := storeA_ok r3 (ra.mono M3) rb (rc.mono (M2.trans M3)) z
    exact ⟨p, H4, e1, e2, oks_nx e3 ((s2.mono M3).mono e4) (oks_mono q3 e4)⟩
/-! ### xs.append(v) -/
def xApp (fo : EvF) (fa : EvA) : EvF := fun ρ h => bindO (fo ρ h) fun x h1 => match lstA x h1 with
  | none => .bad
  | some _ => bindO (fa ρ h1) fun vs h2 => match x, lstA x h2, vs with
    | .ref i, some xs, [v] => if xs.length < most then .ok .non (h2.put i (.lst (xs ++ [v]))) else .bad
    | _, _, _ => .bad
theorem x_app {to : TE} {t : TA} {fo : EvF} {fa : EvA} (ho : Pe F W to fo) (ha : Paa F W t fa) : Pe F W (tBM F.K "list" rAppend to t) (xApp fo fa) := by
  intro m H h σ ρ Q rh rs q
  refine ho m H h σ ρ _ rh rs (okg_imp (okg_bind q) fun x h1 m1 H1 r1 M1 q1 u ru => ?_)
  cases z : lstA x h1 with
  | none => simp only [z] at q1; exact q1.elim
  | some xs =>
    simp only [z] at q1
    obtain ⟨i, a, us, rfl, _, ei, rfl, e2, _⟩ := lstA_ok r1 ru z
    refine ⟨.inl ⟨rfl, us, .inl (.inl e2)⟩, ?_⟩
    refine ha m1 H1 h1 σ ρ _ r1 (rs.mono M1) (okg_imp (okg_bind q1) fun vs h2 m2 H2 r2 M2 q2 ws rw' => ?_)
    split at q2
    · rename_i j ys v e3 e4
      cases e3
      split at q2
      · rename_i hz
        obtain ⟨i', a', us', e5, e6, ei', e7, e8, ra⟩ := lstA_ok r2 (ru.mono M2) e4
        cases e5
        cases e7
        cases rw' with
        | @cons _ _ y _ rv rr =>
          cases rr
          have ro : RO F m2 H2 (.lst ys) (.lst us') := .lst ra
          have M3 : Mono F m2 H2 m2 (upd H2 a (.lst (us' ++ [y]))) := Mono.write e8 ro.mut
          refine ⟨a, us', y, rfl, rfl, e8, by rw [rvs_len ra]; exact few_ok hz, ?_⟩
          exact okg_at q2 (r2.write e6 ei' e8 ro (.lst (rvs_app ra (.cons rv .nil)))) M3 .non .non
      · exact q2.elim
    · exact q2.elim
end
end DI

set_option Elab.async false
set_option linter.all false
set_option maxRecDepth 100000
set_option maxHeartbeats 4000000
/-! rules that say at once what a construct does and what the small machine does for it -/
namespace DI
open PySem PySem.Spec PyProof.Rows L2 GxR RZ
section
variable (F : Fx) (W : WX')
def rdE (f : EvF) : TE := fun σ H Q => ∃ m h ρ, RH F m h H ∧ RS F m H ρ σ ∧ OkG F m H (f ρ h) (PV F Q) (fun c d H' => W c d σ H')
def rdT (f : EvT) : TT := fun σ H Q => ∃ m h ρ, RH F m h H ∧ RS F m H ρ σ ∧ OkG F m H (f ρ h) (PB Q) (fun c d H' => W c d σ H')
def rdA (f : EvA) : TA := fun σ H Q => ∃ m h ρ, RH F m h H ∧ RS F m H ρ σ ∧ OkG F m H (f ρ h) (PVs F Q) (fun c d H' => W c d σ H')
def rdS (f : EvS) : TS := fun D σ H => ∃ m h ρ, RH F m h H ∧ RS F m H ρ σ ∧ OkS F W m H (f ρ h) D
def rdI (f : Sl → Hh → Out AIt) : TI := fun σ H R => ∃ m h ρ, RH F m h H ∧ RS F m H ρ σ ∧ OkG F m H (f ρ h) (fun it _ m' H' => ∀ J, IOk F m' H' J it → R J H') (fun c d H' => W c d σ H')
def rdO (f : Sl → Hh → Out (Option Int)) : TO := fun σ H Q => ∃ m h ρ, RH F m h H ∧ RS F m H ρ σ ∧ OkG F m H (f ρ h) (fun o _ _ H' => Q o H') (fun c d H' => W c d σ H')
variable {F W}
theorem rdE_ok (f : EvF) : Pe F W (rdE F W f) f := fun m H h σ ρ Q rh rs q => ⟨m, h, ρ, rh, rs, q⟩
theorem rdT_ok (f : EvT) : Ptt F W (rdT F W f) f := fun m H h σ ρ Q rh rs q => ⟨m, h, ρ, rh, rs, q⟩
theorem rdA_ok (f : EvA) : Paa F W (rdA F W f) f := fun m H h σ ρ Q rh rs q => ⟨m, h, ρ, rh, rs, q⟩
theorem rdS_ok (f : EvS) : Pst F W (rdS F W f) f := fun m H h σ ρ D rh rs q => ⟨m, h, ρ, rh, rs, q⟩
theorem rdI_ok (f : Sl → Hh → Out AIt) : Pit F W (rdI F W f) f := fun m H h σ ρ Q rh rs q => ⟨m, h, ρ, rh, rs, q⟩
theorem rdO_ok (f : Sl → Hh → Out (Option Int)) : Poo F W (rdO F W f) f := fun m H h σ ρ Q rh rs q => ⟨m, h, ρ, rh, rs, q⟩
end
abbrev CE (X : Cx) (F : Fx) (W : WX') (e : Expr) (f : EvF) : Prop := PE X e (rdE F W f)
abbrev CT (X : Cx) (F : Fx) (W : WX') (e : Expr) (f : EvT) : Prop := PT X e (rdT F W f)
abbrev CW (X : Cx) (F : Fx) (W : WX') (e : Expr) (f : EvT) : Prop := PW X e (rdT F W f)
abbrev CA (X : Cx) (F : Fx) (W : WX') (es : List Expr) (f : EvA) : Prop := PA X es (rdA F W f)
abbrev CS (X : Cx) (F : Fx) (W : WX') (s : Stmt) (f : EvS) : Prop := PS X s (rdS F W f)
abbrev CSs (X : Cx) (F : Fx) (W : WX') (s : List Stmt) (f : EvS) : Prop := PSs X s (rdS F W f)
abbrev CI (X : Cx) (F : Fx) (W : WX') (tg e : Expr) (f : Sl → Hh → Out AIt) : Prop := PI X tg e (rdI F W f)
abbrev CO (X : Cx) (F : Fx) (W : WX') (e : Option Expr) (f : Sl → Hh → Out (Option Int)) : Prop := PO X e (rdO F W f)
def CG (X : Cx) (F : Fx) (tg : Expr) (g : EvG) (is : List Nat) : Prop := ∃ t, PG X tg t ∧ Ptq F t g is
section
variable {X : Cx} {F : Fx} {W : WX'}
theorem ce {e : Expr} {t : TE} {f : EvF} (a : PE X e t) (p : Pe F W t f) : CE X F W e f := ⟨fun pins s σ H Q I ⟨m, h, ρ, rh, rs, q⟩ => a.run pins s σ H Q I (p m H h σ ρ Q rh rs q)⟩
theorem ct {e : Expr} {t : TT} {f : EvT} (a : PT X e t) (p : Ptt F W t f) : CT X F W e f := ⟨fun pins s σ H Q I ⟨m, h, ρ, rh, rs, q⟩ => a.run pins s σ H Q I (p m H h σ ρ Q rh rs q)⟩
theorem cw {e : Expr} {t : TT} {f : EvT} (a : PW X e t) (p : Ptt F W t f) : CW X F W e f := ⟨fun wh pins s σ H Q I ⟨m, h, ρ, rh, rs, q⟩ => a.run wh pins s σ H Q I (p m H h σ ρ Q rh rs q)⟩
theorem ca {es : List Expr} {t : TA} {f : EvA} (a : PA X es t) (p : Paa F W t f) : CA X F W es f := ⟨fun pos pins s σ H Q I ⟨m, h, ρ, rh, rs, q⟩ => a.run pos pins s σ H Q I (p m H h σ ρ Q rh rs q)⟩
theorem cs {e : Stmt} {t : TS} {f : EvS} (a : PS X e t) (p : Pst F W t f) : CS X F W e f := ⟨fun pins s σ H D I ⟨m, h, ρ, rh, rs, q⟩ => a.run pins s σ H D I (p m H h σ ρ D rh rs q)⟩
theorem css {e : List Stmt} {t : TS} {f : EvS} (a : PSs X e t) (p : Pst F W t f) : CSs X F W e f := ⟨fun pins s σ H D I ⟨m, h, ρ, rh, rs, q⟩ => a.run pins s σ H D I (p m H h σ ρ D rh rs q)⟩
theorem ci {tg e : Expr} {t : TI} {f : Sl → Hh → Out AIt} (a : PI X tg e t) (p : Pit F W t f) : CI X F W tg e f := ⟨fun pins s σ H R I ⟨m, h, ρ, rh, rs, q⟩ => a.run pins s σ H R I (p m H h σ ρ R rh rs q)⟩
theorem co {e : Option Expr} {t : TO} {f : Sl → Hh → Out (Option Int)} (a : PO X e t) (p : Poo F W t f) : CO X F W e f := ⟨fun pins s σ H Q I ⟨m, h, ρ, rh, rs, q⟩ => a.run pins s σ H Q I (p m H h σ ρ Q rh rs q)⟩
/-! ### expressions -/
theorem ce_var {x : Str} {pos : Pos} (i : Nat) (hN : X.N[i]? = some x) (hv : Vis X.env.scope x) (hd : (x == ("__debug__" : Str)) = false := by decide) (hcd : (x == ("__classdict__" : Str)) = false := by decide) : CE X F W (.Name x pos) (xVar i) := ce (pe_var hN hv hd hcd) (x_var i)
theorem ce_int {i j pos} : CE X F W (.Constant (.int i) j pos) (xC (.int i)) := ce pe_int (x_c fun _ _ => .int i)
theorem ce_bl {b j pos} : CE X F W (.Constant (.bool b) j pos) (xC (.bl b)) := ce pe_bl (x_c fun _ _ => .bl b)
theorem ce_non {j pos} : CE X F W (.Constant .none j pos) (xC .non) := ce pe_non (x_c fun _ _ => .non)
theorem ce_str {x j pos} : CE X F W (.Constant (.str x) j pos) (xC (.str x)) := ce pe_str (x_c fun _ _ => .str x)
theorem ce_glob {x : Str} {pos : Pos} {v : AV} {w : V} {u : Value} (hg : Gl X x) (hm : X.mg x = some u) (r : RelV w u) (rv : ∀ m H, RV F m H v w) (hd : (x == ("__debug__" : Str)) = false := by decide) : CE X F W (.Name x pos) (xC v) := ce (pe_glob hg hm r hd) (x_c rv)
theorem ce_bin {op : Operator} {r : R2} {g : AV → AV → Hh → Out AV} {a b : Expr} {pos : Pos} {fa fb : EvF} (ho : OpR X (binaryOp op) r) (p : P2 F r g) (ha : CE X F W a fa) (hb : CE X F W b fb) : CE X F W (.BinOp a op b pos) (x2 g fa fb) := ce (pe_op ho ha hb) (x_op p (rdE_ok fa) (rdE_ok fb))
theorem ce_cmp {op : CmpOp} {r : R2} {g : AV → AV → Hh → Out AV} {a b : Expr} {pos : Pos} {fa fb : EvF} (ho : OpR X (compareOp op) r) (p : P2 F r g) (hm : behindInMarks op b = false) (ha : CE X F W a fa) (hb : CE X F W b fb) : CE X F W (.Compare a [op] [b] pos) (x2 g fa fb) := ce (pe_cmpR ho ha hb hm) (x_op p (rdE_ok fa) (rdE_ok fb))
theorem ct_cmp {op : CmpOp} {r : R2} {g : AV → AV → Hh → Out AV} {a b : Expr} {pos : Pos} {fa fb : EvF} (ho : OpR X (compareOp op) r) (p : P2 F r g) (hm : behindInMarks op b = false) (ha : CE X F W a fa) (hb : CE X F W b fb) : CT X F W (.Compare a [op] [b] pos) (xTB (x2 g fa fb)) := ct (pt_cmpR ho ha hb hm) (x_tB (x_op p (rdE_ok fa) (rdE_ok fb)))
theorem ce_cmp2 {op op' : CmpOp} {r r' : R2} {g g' : AV → AV → Hh → Out AV} {a b c : Expr} {pos : Pos} {fa fb fc : EvF} (ho : OpR X (compareOp op) r) (ho' : OpR X (compareOp op') r') (p : P2 F r g) (p' : P2 F r' g') (ha : CE X F W a fa) (hb : CE X F W b fb) (hc : CE X F W c fc)
    (hm : lastMarks [op, op'] [b, c] = false := by with_unfolding_all rfl) : CE X F W (.Compare a [op, op'] [b, c] pos) (xCh g g' fa fb fc) := ce (pe_chain ho ho' ha hb hc hm) (x_chain p p' (rdE_ok fa) (rdE_ok fb) (rdE_ok fc))
theorem ct_cmp2 {op op' : CmpOp} {r r' : R2} {g g' : AV → AV → Hh → Out AV} {a b c : Expr} {pos : Pos} {fa fb fc : EvF} (ho : OpR X (compareOp op) r) (ho' : OpR X (compareOp op') r') (p : P2 F r g) (p' : P2 F r' g') (ha : CE X F W a fa) (hb : CE X F W b fb) (hc : CE X F W c fc)
    (hm : lastMarks [op, op'] [b, c] = false := by with_unfolding_all rfl) : CT X F W (.Compare a [op, op'] [b, c] pos) (xTB (xCh g g' fa fb fc)) := ct (pt_chain ho ho' ha hb hc hm) (x_tB (x_chain p p' (rdE_ok fa) (rdE_ok fb) (rdE_ok fc)))
theorem ce_one {op : BoolOp} {a : Expr} {pos : Pos} {fa : EvF} (ha : CE X F W a fa) : CE X F W (.BoolOp op [a] pos) fa := pe_one ha
theorem ce_and {a b : Expr} {rest : List Expr} {pos : Pos} {fa fb : EvF} (hK : X.K = F.K) (ha : CE X F W a fa) (hb : CE X F W (.BoolOp .And (b :: rest) pos) fb) : CE X F W (.BoolOp .And (a :: b :: rest) pos) (xAndT fa fb) := ce (pe_andT ha hb) (by rw [hK]; exact x_andT (rdE_ok fa) (rdE_ok fb))
theorem ce_or {a b : Expr} {rest : List Expr} {pos : Pos} {fa fb : EvF} (hK : X.K = F.K) (ha : CE X F W a fa) (hb : CE X F W (.BoolOp .Or (b :: rest) pos) fb) : CE X F W (.BoolOp .Or (a :: b :: rest) pos) (xOrT fa fb) := ce (pe_orT ha hb) (by rw [hK]; exact x_orT (rdE_ok fa) (rdE_ok fb))
theorem ce_not {a : Expr} {pos : Pos} {fa : EvF} (hK : X.K = F.K) (ha : CE X F W a fa) : CE X F W (.UnaryOp .Not a pos) (xNotT fa) := ce (pe_notT ha) (by rw [hK]; exact x_notT (rdE_ok fa))
theorem ce_if {c a b : Expr} {pos : Pos} {fc : EvT} {fa fb : EvF} (hc : CT X F W c fc) (ha : CE X F W a fa) (hb : CE X F W b fb) : CE X F W (.IfExp c a b pos) (xIf fc fa fb) := ce (pe_ifExp hc ha hb) (x_if (rdT_ok fc) (rdE_ok fa) (rdE_ok fb))
/-! ### tests -/
theorem ct_truth {a : Expr} {fa : EvF} (hK : X.K = F.K) (ha : CE X F W a fa) (he : ∀ whole, isTrue a X.env whole = (do let v ← whole; standAt a.pos; holding [v] (truthy v)) := by intro _; rfl) : CT X F W a (xTru fa) := ct (pt_truth ha he) (by rw [hK]; exact x_tru (rdE_ok fa))
theorem cw_and1 {a : Expr} {pos : Pos} {fa : EvT} (ha : CT X F W a fa) : CW X F W (.BoolOp .And [a] pos) fa := pw_and1 ha
theorem cw_or1 {a : Expr} {pos : Pos} {fa : EvT} (ha : CT X F W a fa) : CW X F W (.BoolOp .Or [a] pos) fa := pw_or1 ha
theorem cw_and {a b : Expr} {rest : List Expr} {pos : Pos} {fa fb : EvT} (ha : CT X F W a fa) (hb : CW X F W (.BoolOp .And (b :: rest) pos) fb) : CW X F W (.BoolOp .And (a :: b :: rest) pos) (xAnd fa fb) := cw (pw_and ha hb) (x_and (rdT_ok fa) (rdT_ok fb))
theorem cw_or {a b : Expr} {rest : List Expr} {pos : Pos} {fa fb : EvT} (ha : CT X F W a fa) (hb : CW X F W (.BoolOp .Or (b :: rest) pos) fb) : CW X F W (.BoolOp .Or (a :: b :: rest) pos) (xOr fa fb) := cw (pw_or ha hb) (x_or (rdT_ok fa) (rdT_ok fb))
theorem ct_w {a : Expr} {fa : EvT} (h : CW X F W a fa) : CT X F W a fa := h.pt
theorem ct_not {a : Expr} {pos : Pos} {fa : EvT} (ha : CT X F W a fa) : CT X F W (.UnaryOp .Not a pos) (xNot fa) := ct (pt_not ha) (x_not (rdT_ok fa))
/-! ### arguments, tuples, lists -/
theorem ca_nil : CA X F W [] xNil := ca pa_nil x_nil
theorem ca_cons {e : Expr} {es : List Expr} {fa : EvF} {fr : EvA} (ha : CE X F W e fa) (hr : CA X F W es fr) (hs : starEach (e :: es) X.env = (false, eval e X.env) :: starEach es X.env := by rfl) : CA X F W (e :: es) (xCons fa fr) := ca (pa_cons ha hr hs) (x_cons (rdE_ok fa) (rdA_ok fr))
theorem ce_tup {es : List Expr} {k : Nat} {pos : Pos} {fa : EvA} (ha : CA X F W es fa) : CE X F W (.Tuple es k pos) (xA mkT fa) := ce (pe_tup ha) (x_tup (rdA_ok fa))
theorem ce_lst {es : List Expr} {pos : Pos} {fa : EvA} (ha : CA X F W es fa) : CE X F W (.List es pos) (xA mkL fa) := ce (pe_lst ha) (x_lst (rdA_ok fa))
/-! ### calls -/
/-- an own def of this name: n parameters, what it does -/
structure Dn (P : Program) (w : World) (F : Fx) (mg : Str → Option Value) (base : Heap) (k : Nat) (x : Str) (n : Nat) (fn : List AV → Hh → Out AV) : Prop where
  ex : ∃ (f : Addr) (fd : FuncData) (ps : List Str), mg x = some (.ref f) ∧ PySem.W.keepIn F.K (.ref f) = true ∧ FnOk P w F.K mg base (L2.CX P w) k f fd ps (spD F n fn) ∧ Binds F.K fd ps []
theorem ce_call {k j : Nat} {x : Str} {n : Nat} {fn : List AV → Hh → Out AV} {p pos : Pos} {e : Expr} {es : List Expr} {fa : EvA} (d : Dn X.prog X.w F X.mg X.base k x n fn) (hK : X.K = F.K) (hj : k ≤ j) (hr : Room j X.A) (tk : L2.Takes X W) (hg : Gl X x) (ha : CA X F W (e :: es) fa)
    (hdb : (x == ("__debug__" : Str)) = false := by decide) (he : starEach (e :: es) X.env = (false, eval e X.env) :: starEach es X.env := by rfl) (hpl : (backTo pos (starEach es X.env)).any (·.1) = false := by rfl) :
    CE X F W (.Call (.Name x p) (e :: es) [] pos) (xA (onN n fn) fa) := by
  obtain ⟨f, fd, ps, h1, h2, h3, h4⟩ := d.ex
  refine ce (pe_callS (sp := spD F n fn) (E := fun σ cls d H => W cls d σ H) (k := k) (by rw [hK]; exact h3) (hr.mono hj) hg h1 (by rw [hK]; exact h2) (by rw [hK]; exact h4) (fun σ => passAt tk σ) ha hdb he hpl) (x_callS (rdA_ok fa))
theorem ce_callB {id : String} {r : List V → Hp → VK → Prop} {g : List AV → Hh → Out AV} {x : Str} {p pos : Pos} {e : Expr} {es : List Expr} {fa : EvA} (hc : CallR X (.builtin id) r) (pl : PLs F r g) (hg : Gl X x) (hm : X.mg x = none) (hv : bootBuiltins x = some (.builtin id)) (ha : CA X F W (e :: es) fa)
    (hn : x ≠ "__name__" := by decide) (hdb : (x == ("__debug__" : Str)) = false := by decide) (he : starEach (e :: es) X.env = (false, eval e X.env) :: starEach es X.env := by rfl) (hpl : (backTo pos (starEach es X.env)).any (·.1) = false := by rfl) :
    CE X F W (.Call (.Name x p) (e :: es) [] pos) (xA g fa) := ce (pe_callB hc hg hm hv ha hn hdb he hpl) (x_callB pl (rdA_ok fa))
theorem ce_callTy {T : String} {r : List V → Hp → VK → Prop} {g : List AV → Hh → Out AV} {x : Str} {p pos : Pos} {e : Expr} {es : List Expr} {fa : EvA} (hc : CallR X (.type T) r) (pl : PLs F r g) (hg : Gl X x) (hm : X.mg x = none) (hv : bootBuiltins x = some (.type T)) (ha : CA X F W (e :: es) fa)
    (hn : x ≠ "__name__" := by decide) (hdb : (x == ("__debug__" : Str)) = false := by decide) (he : starEach (e :: es) X.env = (false, eval e X.env) :: starEach es X.env := by rfl) (hpl : (backTo pos (starEach es X.env)).any (·.1) = false := by rfl) :
    CE X F W (.Call (.Name x p) (e :: es) [] pos) (xA g fa) := ce (pe_callTy hc hg hm hv ha hn hdb he hpl) (x_callB pl (rdA_ok fa))
/-- isinstance(x, T) -/
theorem ce_isi {Ty : String} {p pos p2 : Pos} {e : Expr} {T : Str} {fa : EvF} (hK : X.K = F.K) (hg : Gl X "isinstance") (hm : X.mg "isinstance" = none) (hv : bootBuiltins "isinstance" = some (.builtin "isinstance")) (ha : CE X F W e fa) (hT : Gl X T) (hmT : X.mg T = none) (hvT : bootBuiltins T = some (.type Ty)) (hn : T ≠ "__name__" := by decide) (hd : (T == ("__debug__" : Str)) = false := by decide)
    (hs : starEach [e, .Name T p2] X.env = (false, eval e X.env) :: starEach [.Name T p2] X.env := by rfl) (hpl : (backTo pos (starEach [.Name T p2] X.env)).any (·.1) = false := by rfl) :
    CE X F W (.Call (.Name "isinstance" p) [e, .Name T p2] [] pos) (xIsi Ty fa) :=
  ce (pe_callB call_isi hg hm hv (pa_cons ha (pa_cons (pe_bltn (v := .ty Ty) hT hmT hvT rfl hn hd) pa_nil) hs) (by decide) (by decide) hs hpl) (by rw [hK]; exact x_isi (rdE_ok fa))
/-! ### items, slices -/
theorem pe_tEither3 {e : Expr} {t1 t2 t3 : TE} (a : PE X e t1) (b : PE X e t2) (c : PE X e t3) : PE X e (tEither t1 (tEither t2 t3)) := pe_either a (pe_either b c)
def gItem : AV → AV → Hh → Out AV := gOr gIx (gOr gIxL gDGet)
theorem ce_ix {a b : Expr} {pos : Pos} {fa fb : EvF} {k : Nat} (hK : X.K = F.K) (hr : Room k X.A) (ha : CE X F W a fa) (hb : CE X F W b fb) (hs : PlainIx b := by intro _ _; rfl) : CE X F W (.Subscript a b pos) (x2 gItem fa fb) := by
  refine ce (pe_tEither3 (pe_ix ix_tup ha hb hs) (pe_ix ix_list ha hb hs) (pe_dget (by have := hr.un; omega) ha hb hs)) ?_
  refine x_either (x_op (by rw [hK]; exact p_ixT) (rdE_ok fa) (rdE_ok fb)) (x_either (x_op (by rw [hK]; exact p_ixL) (rdE_ok fa) (rdE_ok fb)) ?_)
  exact x_op p_dget (rdE_ok fa) (rdE_ok fb)
theorem co_none : CO X F W none xNoPart := co po_none x_noPart
theorem co_some {e : Expr} {fa : EvF} (ha : CE X F W e fa) : CO X F W (some e) (xPart fa) := co (po_some ha) (x_part (rdE_ok fa))
def gOrS (g g' : AV → Option Int → Option Int → Hh → Out AV) : AV → Option Int → Option Int → Hh → Out AV := fun x l u h => match g x l u h with
  | .bad => g' x l u h
  | .ok v h' => .ok v h'
  | .exc c fs h' => .exc c fs h'
theorem p_orS {r r' : V → Option Int → Option Int → Hp → VK → Prop} {g g' : AV → Option Int → Option Int → Hh → Out AV} (a : PSl F r g) (b : PSl F r' g') : PSl F (fun x lo hi H Q => r x lo hi H Q ∨ r' x lo hi H Q) (gOrS g g') := by
  intro m H h x lo hi u Q E rh ru q
  unfold gOrS at q
  cases e : g x lo hi h with
  | bad => rw [e] at q; exact .inr (b m H h x lo hi u Q E rh ru q)
  | ok w h' => rw [e] at q; exact .inl (a m H h x lo hi u Q E rh ru (by rw [e]; exact q))
  | exc c fs h' => rw [e] at q; exact .inl (a m H h x lo hi u Q E rh ru (by rw [e]; exact q))
def gCut := gOrS gSlT (gOrS gSlL gSlS)
theorem ce_sl {a : Expr} {lo hi : Option Expr} {p2 pos : Pos} {fa : EvF} {fl fh : Sl → Hh → Out (Option Int)} (hK : X.K = F.K) (ha : CE X F W a fa) (hl : CO X F W lo fl) (hh : CO X F W hi fh) : CE X F W (.Subscript a (.Slice lo hi none p2) pos) (xSl gCut fa fl fh) := by
  refine ce (pe_slice (SlR.or sl_tupA (SlR.or sl_list sl_str)) ha hl hh) (x_sl ?_ (rdE_ok fa) (rdO_ok fl) (rdO_ok fh))
  exact p_orS (by rw [hK]; exact p_slT) (p_orS (by rw [hK]; exact p_slL) p_slS)
/-! ### in -/
theorem opr_din {k : Nat} (hr : Room k X.A) : OpR X (compareOp .In) (rDIn false) := by
  intro pins s σ H x y v u Q I rx ry ⟨a, o, e, g, q⟩
  subst e
  obtain rfl : u = Value.ref a := ry
  exact d_in (by have := hr.un; omega) I g rx fun s3 I3 => ⟨.bl o.isSome, H, I3, rfl, q⟩
theorem opr_dnin {k : Nat} (hr : Room k X.A) : OpR X (compareOp .NotIn) (rDIn true) := by
  intro pins s σ H x y v u Q I rx ry ⟨a, o, e, g, q⟩
  subst e
  obtain rfl : u = Value.ref a := ry
  exact d_notIn (by have := hr.un; omega) I g rx fun s3 I3 => ⟨.bl (!o.isSome), H, I3, rfl, q⟩
def gIn (neg : Bool) := gOr (gInS neg) (gDIn neg)
theorem opr_in {k : Nat} (hr : Room k X.A) : OpR X (compareOp .In) (rOr (rIn X.K false) (rDIn false)) := opr_or op_in_seq (opr_din hr)
theorem opr_nin {k : Nat} (hr : Room k X.A) : OpR X (compareOp .NotIn) (rOr (rIn X.K true) (rDIn true)) := opr_or op_notIn_seq (opr_dnin hr)
theorem p_in (hK : X.K = F.K) (neg : Bool) : P2 F (rOr (rIn X.K neg) (rDIn neg)) (gIn neg) := by rw [hK]; exact p_or (p_inS neg) (p_din neg)
/-! ### + -/
def gAdd := gOr gAddI (gOr gCatT gCatL)
theorem opr_add : OpR X (binaryOp .Add) (rOr (rI0 fun i j => .int (i + j)) (rOr (rCatA X.K) rCat)) := opr_or op_add (opr_or op_catA op_cat)
theorem p_add (hK : X.K = F.K) : P2 F (rOr (rI0 fun i j => .int (i + j)) (rOr (rCatA X.K) rCat)) gAdd := by rw [hK]; exact p_or p_addI (p_or p_catT p_catL)
/-! ### statements -/
theorem cs_pass {pos : Pos} : CS X F W (.Pass pos) sPass := cs ps_pass s_next
theorem cs_doc {x j pos pos'} : CS X F W (.Expr (.Constant (.str x) j pos) pos') sPass := cs ps_doc s_next
theorem cs_break {pos : Pos} : CS X F W (.Break pos) sBreak := cs ps_break s_break
theorem cs_cont {pos : Pos} : CS X F W (.Continue pos) sCont := cs ps_continue s_cont
theorem cs_expr {e : Expr} {pos : Pos} {fa : EvF} (ha : CE X F W e fa) (hs : swapsWith e none pos.line X.env = pure false := by rfl) : CS X F W (.Expr e pos) (sDrop fa) := cs (ps_expr ha hs) (s_drop (rdE_ok fa))
theorem cs_ret {e : Expr} {pos : Pos} {fa : EvF} (ha : CE X F W e fa) : CS X F W (.Return (some e) pos) (sRet fa) := cs (ps_ret ha) (s_ret (rdE_ok fa))
theorem cs_retN {pos : Pos} : CS X F W (.Return none pos) sRetN := cs ps_retN s_retN
theorem cs_if {c : Expr} {a b : List Stmt} {pos : Pos} {fc : EvT} {fa fb : EvS} (hc : CT X F W c fc) (ha : CSs X F W a fa) (hb : CSs X F W b fb) : CS X F W (.If c a b pos) (sIf fc fa fb) := cs (ps_if hc ha hb) (s_if (rdT_ok fc) (rdS_ok fa) (rdS_ok fb))
theorem css_nil : CSs X F W [] sPass := css pss_nil s_next
theorem css_one {s : Stmt} {f : EvS} (h : CS X F W s f) : CSs X F W [s] f := pss_one h
theorem css_cons {s : Stmt} {r : List Stmt} {f g : EvS} (h : CS X F W s f) (hr : CSs X F W r g) : CSs X F W (s :: r) (sSeq f g) := css (pss_cons h hr) (s_seq (rdS_ok f) (rdS_ok g))
/-! ### targets, stores -/
theorem cg_name {x : Str} {pos : Pos} (i : Nat) (hN : X.N.Nodup) (hi : X.N[i]? = some x) (hx : Loc X.env.scope x) (hf : X.fn x = true ∨ X.env.scope.names.lookup x = some .local := by first | exact .inl rfl | exact .inr rfl | assumption) : CG X F (.Name x pos) (yName i) [i] := ⟨_, pg_name hN hi hx hf, q_name i⟩
def CGs (X : Cx) (F : Fx) (ts : List Expr) (g : Sl → List AV → Option Sl) (is : List Nat) : Prop := ∃ t, PGs X ts t ∧ Ptqs F t g is
theorem cgs_nil : CGs X F [] yNil [] := ⟨_, pgs_nil, q_nil⟩
theorem cgs_cons {e : Expr} {es : List Expr} {f : EvG} {g : Sl → List AV → Option Sl} {is js : List Nat} (a : CG X F e f is) (b : CGs X F es g js) (hs : (assignEach (e :: es) X.env).map (·.2) = assign e X.env :: (assignEach es X.env).map (·.2) := by rfl) : CGs X F (e :: es) (yCons f g) (is ++ js) := by
  obtain ⟨t, a1, a2⟩ := a
  obtain ⟨u, b1, b2⟩ := b
  exact ⟨_, pgs_cons a1 b1 hs, q_cons a2 b2⟩
theorem cg_tup {es : List Expr} {k n : Nat} {pos : Pos} {g : Sl → List AV → Option Sl} {is : List Nat} (hK : X.K = F.K) (hc : X.calm = true) (b : CGs X F es g is) (hn : (assignEach es X.env).length = n := by rfl) (hst : (assignEach es X.env).findIdx? (·.1) = none := by rfl) : CG X F (.Tuple es k pos) (yTup n g) is := by
  obtain ⟨u, b1, b2⟩ := b
  exact ⟨_, pg_tup hc b1 hn hst, by rw [hK]; exact q_tup b2⟩
theorem cs_set {i : Nat} {x : Str} {e : Expr} {pos pos' : Pos} {fa : EvF} (hN : X.N.Nodup) (hi : X.N[i]? = some x) (hx : Loc X.env.scope x) (he : CE X F W e fa) (hs : swapsWith e (some (.Name x pos')) pos.line X.env = pure false := by rfl) (hf : X.fn x = true ∨ X.env.scope.names.lookup x = some .local := by first | exact .inl rfl | exact .inr rfl | assumption) :
    CS X F W (.Assign [.Name x pos'] e pos) (sAsg fa (yName i)) := cs (ps_set hN hi hx he hs hf) (s_asg (rdE_ok fa) (y_name i))
theorem cs_asg {tg e : Expr} {pos : Pos} {fa : EvF} {g : EvG} {is : List Nat} (he : CE X F W e fa) (hg : CG X F tg g is) (hs : swapsWithSole [tg] e pos.line X.env = pure false := by rfl) (hw : swappedStores [tg] e X.env = pure none := by rfl)
    (h1 : (assignEach [tg] X.env).map (·.2) = [assign tg X.env] := by rfl) : CS X F W (.Assign [tg] e pos) (sAsg fa g) := by
  obtain ⟨t, a1, a2⟩ := hg
  exact cs (ps_asg he a1 hs hw h1) (s_asg (rdE_ok fa) a2.ptg)
theorem cs_put {o i e : Expr} {pos pos' : Pos} {fd fk fv : EvF} {k : Nat} (hr : Room k X.A) (ho : CE X F W o fd) (hi : CE X F W i fk) (hv : CE X F W e fv) (hs : swapsWith e (some (.Subscript o i pos')) pos.line X.env = pure false := by rfl) : CS X F W (.Assign [.Subscript o i pos'] e pos) (sPut fd fk fv) :=
  cs (ps_dput (by have := hr.un; omega) ho hi hv hs) (s_put (rdE_ok fd) (rdE_ok fk) (rdE_ok fv))
/-! ### loops -/
/-- range(n), range(a, b) as values -/
theorem cr_range1 : CallR X (.type "range") (fun vs H Q => ∃ j, vs = [V.int j] ∧ ∀ p, H p = none → Q (.ref p) (upd H p (.rng 0 j))) := by
  intro pins s σ H vs us Q I r h
  obtain ⟨j, rfl, q⟩ := h
  cases r with
  | cons r rr =>
    cases rr
    obtain ⟨t, rfl⟩ := r
    refine call_range_1 ⟨.ref s.heap.objs.size, upd H s.heap.objs.size (.rng 0 j), I.laid (fun b o e => Heap.get?_push_of_some _ e) (Nat.le_refl _) ?_, rfl, q _ (I.hok.fresh (Nat.le_refl _))⟩
    exact ⟨_, _, _, Heap.get?_push_size _ rfl⟩
def gRange : List AV → Hh → Out AV := fun xs h => match xs with
  | [.int j] => .ok (.rg 0 j) h
  | _ => .bad
theorem p_range : PLs F (fun vs H Q => ∃ j, vs = [V.int j] ∧ ∀ p, H p = none → Q (.ref p) (upd H p (.rng 0 j))) gRange := by
  intro m H h xs us Q E rh r q
  unfold gRange at q
  split at q
  · cases r with
    | cons r1 rr =>
      cases rr
      cases r1
      exact ⟨_, rfl, fun p n => okg_at q (rh.laid n) (Mono.laid n) _ (.rg upd_same)⟩
  · exact q.elim
def iRgV (te : TE) : TI := fun σ H R => te σ H fun x H1 => ∃ (a : Addr) (lo hi : Int), x = .ref a ∧ H1 a = some (.rng lo hi) ∧ (-(2 ^ 62) ≤ lo ∧ lo < 2 ^ 62 ∧ -(2 ^ 62) ≤ hi ∧ hi < 2 ^ 62) ∧ R (Itr lo (hi - lo).toNat) H1
/-- a range object, walked -/
theorem pi_rgV {tg e : Expr} {te : TE} (he : PE X e te) : PI X tg e (iRgV te) := by
  refine ⟨fun pins s σ H R I h => ?_⟩
  refine thn (he.run pins s σ H _ I h) fun v s1 ⟨x, H1, I1, r1, q1⟩ => ?_
  obtain ⟨a, lo, hi, e, ea, ⟨b1, b2, b3, b4⟩, q⟩ := q1
  subst e
  cases r1
  obtain ⟨t, u, w, hget⟩ := I1.hok a _ ea
  refine wpAny_pyIter_range (a := lo) (b := hi) (c := 1) (t := t) (u := u) (v := w) hget (small_one b1 b2 b3 b4) ?_
  refine ⟨s1.heap.objs.size, [s1.heap.objs.size], _, _, H1, rfl, I1.kept (t' := s1.toks) fun b o e => Heap.get?_push_of_some _ e, turn_range _ lo (hi - lo).toNat, ?_, fun b hb => ?_, q⟩
  · have e1 : lo + ((0 : Nat) : Int) * 1 = lo := by simp
    have e2 : (((hi - lo).toNat : Nat) : Int) - ((0 : Nat) : Int) = Builtin.Range.rangeSize lo hi 1 := by rw [rangeSize_one]; split <;> omega
    show IsRangeIter _ _ (lo + ((0 : Nat) : Int) * 1) ((((hi - lo).toNat : Nat) : Int) - ((0 : Nat) : Int)) 1
    rw [e1, e2]
    exact Heap.get?_push_size _ rfl
  · have e : b = s1.heap.objs.size := by simpa using hb
    subst e
    exact I1.fpOk (Nat.le_refl _) (I1.hok.fresh (Nat.le_refl _))
theorem ci_seq {tg e : Expr} {fa : EvF} (hK : X.K = F.K) (he : CE X F W e fa) : CI X F W tg e (xIter fa) := by
  have h1 := pi_list (tg := tg) he
  have h2 := pi_tup (tg := tg) he
  have h3 : PI X tg e (iEither (iList X.K (rdE F W fa)) (iTup X.K (rdE F W fa))) := pi_either h1 h2
  refine ⟨fun pins s σ H R I ⟨m, h, ρ, rh, rs, q⟩ => ?_⟩
  cases z : fa ρ h with
  | bad => unfold xIter at q; rw [z] at q; exact q.elim
  | exc c fs h' =>
    refine h1.run pins s σ H R I ⟨m, h, ρ, rh, rs, ?_⟩
    unfold xIter at q
    rw [z] at q ⊢
    exact q
  | ok x h' =>
    unfold xIter at q
    rw [z] at q
    have q : OkG F m H (optO (toIt x h') h') (fun it _ m' H' => ∀ J, IOk F m' H' J it → R J H') (fun c d H' => W c d σ H') := q
    cases y : toIt x h' with
    | none => rw [y] at q; exact q.elim
    | some it =>
      rw [y] at q
      have tupCase : ∀ xs, tupA x = some xs → it = .tup xs → wpAny (model X.prog X.w) X.A (eval e X.env) (fun v s1 => wpAny (model X.prog X.w) X.A (pyIter v) (PIE X pins σ tg R) X.xe s1) X.xe s := fun xs e1 e2 => by
        refine h2.run pins s σ H R I ⟨m, h, ρ, rh, rs, ?_⟩
        rw [z]
        intro m1 H1 r1 M1 u ru
        obtain ⟨a, us, rfl, t1, t2⟩ := tupA_ok ru e1
        refine ⟨a, rfl, ⟨us, by rw [hK]; exact t1⟩, ?_⟩
        subst e2
        rw [hK]
        exact q m1 H1 r1 M1 _ (it_tup' ru e1 rfl)
      cases x with
      | rg lo hi =>
        unfold toIt at y
        simp only [] at y
        split at y
        · rename_i hb
          cases y
          refine (pi_rgV (tg := tg) he).run pins s σ H R I ⟨m, h, ρ, rh, rs, ?_⟩
          rw [z]
          intro m1 H1 r1 M1 u ru
          cases ru with
          | rg e1 => exact ⟨_, lo, hi, rfl, e1, hb, q m1 H1 r1 M1 _ (it_rng lo (hi - lo).toNat)⟩
        · cases y
      | tup xs => cases y; exact tupCase xs rfl rfl
      | kt xs => cases y; exact tupCase xs rfl rfl
      | ref i =>
        unfold toIt at y
        refine h1.run pins s σ H R I ⟨m, h, ρ, rh, rs, ?_⟩
        rw [z]
        intro m1 H1 r1 M1 u ru
        cases zz : h'.get i with
        | none => simp only [zz] at y; cases y
        | some o =>
          obtain ⟨a, w, rfl, e1, e2, e3⟩ := ru.at_ r1 zz
          cases o with
          | dk _ => simp only [zz] at y; cases y
          | dt _ => simp only [zz] at y; cases y
          | fk _ => simp only [zz] at y; cases y
          | lst xs =>
            simp only [zz] at y
            cases y
            cases e3 with
            | lst t2 =>
              refine ⟨a, rfl, ⟨_, .inl (.inl e2)⟩, ?_⟩
              rw [hK]
              exact q m1 H1 r1 M1 _ (it_lst e1)
      | _ => cases y
theorem ci_rng1 {tg a : Expr} {p pos : Pos} {fa : EvA} (hg : Gl X "range") (hm : X.mg "range" = none) (ha : CA X F W [a] fa) (hs : starEach [a] X.env = [(false, eval a X.env)] := by rfl) : CI X F W tg (.Call (.Name "range" p) [a] [] pos) (xRng1 fa) := ci (pi_range1 hg hm ha hs) (x_rng1 (rdA_ok fa))
theorem ci_enum {e : Expr} {p pos tpos : Pos} {elts : List Expr} {kk : Nat} {fa : EvA} (hK : X.K = F.K) (hg : Gl X "enumerate") (hm : X.mg "enumerate" = none) (ha : CA X F W [e] fa) (hs : starEach [e] X.env = [(false, eval e X.env)] := by rfl) : CI X F W (.Tuple elts kk tpos) (.Call (.Name "enumerate" p) [e] [] pos) (xEnum fa) :=
  ci (pi_enum hg hm ha hs) (by rw [hK]; exact x_enum (rdA_ok fa))
theorem ci_zip {e e2 : Expr} {p pos tpos : Pos} {elts : List Expr} {kk : Nat} {fa : EvA} (hK : X.K = F.K) (hg : Gl X "zip") (hm : X.mg "zip" = none) (ha : CA X F W [e, e2] fa)
    (hs : starEach [e, e2] X.env = (false, eval e X.env) :: starEach [e2] X.env := by rfl) (hpl : (backTo pos (starEach [e2] X.env)).any (·.1) = false := by rfl) : CI X F W (.Tuple elts kk tpos) (.Call (.Name "zip" p) [e, e2] [] pos) (xZip fa) :=
  ci (pi_zipA hg hm ha hs hpl) (by rw [hK]; exact x_zip (rdA_ok fa))
theorem cs_for {tg iter : Expr} {body : List Stmt} {pos : Pos} {fi : Sl → Hh → Out AIt} {g : EvG} {is : List Nat} {fb : EvS} (hp : PassesOwn (model X.prog X.w) X.A X.env X.xe) (hc : X.calm = true) (hi : CI X F W tg iter fi) (hg : CG X F tg g is) (hb : CSs X F W body fb)
    (hs : ∀ x, foldedSetIterable iter X.env x = pure x := by intro _; rfl) : CS X F W (.For tg iter body [] pos) (sFor fi g fb) := by
  obtain ⟨t, a1, a2⟩ := hg
  exact cs (ps_for hp hc hi a1 hb hs) (s_for (rdI_ok fi) a2.ptg (rdS_ok fb))
theorem cs_while {c : Expr} {body : List Stmt} {pos : Pos} {fc : EvT} {fb : EvS} (hp : PassesOwn (model X.prog X.w) X.A X.env X.xe) (hc : CT X F W c fc) (hb : CSs X F W body fb) : CS X F W (.While c body [] pos) (whileS fc fb 100000) := cs (ps_while hp hc hb) (s_while (rdT_ok fc) (rdS_ok fb))
end
end DI

set_option Elab.async false
set_option linter.all false
set_option maxRecDepth 100000
set_option maxHeartbeats 4000000
/-! comprehensions; all, any; defs -/
namespace DI
open PySem PySem.Spec PyProof.Rows L2 GxR RZ
def xYes : EvT := fun _ h => .ok true h
section
variable {X : Cx} {F : Fx} {W : WX'}
theorem x_yes {W : WX'} : Ptt F W tYes xYes := fun m H h σ ρ Q rh rs q => okg_ok rh q
abbrev CTs (X : Cx) (F : Fx) (W : WX') (ifs : List Expr) (f : EvT) : Prop := PTs X ifs (rdT F W f)
theorem cts_nil : CTs X F W [] xYes := ⟨fun pins s σ H Q I ⟨m, h, ρ, rh, rs, q⟩ => pts_nil.run pins s σ H Q I (x_yes m H h σ ρ Q rh rs q)⟩
theorem cts_one {c : Expr} {f : EvT} (h : CT X F W c f) : CTs X F W [c] f := pts_one h
/-- the target of a block: the same for all blocks -/
def CGb (X : Cx) (F : Fx) (scope : Scope) (tg : Expr) (g : EvG) (is : List Nat) : Prop := ∃ t, (∀ (s : Shared) (H : Hp) (C : Addr) (cl : List (Str × Addr)) (fp : List Addr), PG (X.blk s H scope (compEnvC scope cl C X.env) fp) tg t) ∧ Ptq F t g is
theorem ce_lc {elt tg iter : Expr} {ifs : List Expr} {scope : Scope} {own : List (Str × Nat)} {pos : Pos} {fi : Sl → Hh → Out AIt} {g : EvG} {is : List Nat} {ft : EvT} {fe : EvF} (hc : X.calm = true) (hN : X.N.Nodup) (hi : CI X F W tg iter fi) (ok : BlkOk X.N X.env.scope scope own)
    (hg : CGb X F scope tg g is) (hv : ∀ i ∈ is, i ∈ own.map (·.2))
    (ht : ∀ (s : Shared) (H : Hp) (C : Addr) (cl : List (Str × Addr)) (fp : List Addr), CTs (X.blk s H scope (compEnvC scope cl C X.env) fp) F Wno ifs ft)
    (he : ∀ (s : Shared) (H : Hp) (C : Addr) (cl : List (Str × Addr)) (fp : List Addr), CE (X.blk s H scope (compEnvC scope cl C X.env) fp) F Wno elt fe) (hs : ∀ x, foldedSetIterable iter X.env x = pure x := by intro _; rfl) :
    CE X F W (.ListComp elt [⟨tg, iter, ifs, 0⟩] scope pos) (xLc fi g ft fe (own.map (·.2))) := by
  obtain ⟨t, a1, a2⟩ := hg
  exact ce (pe_lc hc hN hi ok a1 ht he hs) (x_lc (rdI_ok fi) a2 hv (rdT_ok ft) (rdE_ok fe))
def CGx (X : Cx) (F : Fx) (k : Nat) (scope : Scope) (tg : Expr) (g : EvG) (is : List Nat) : Prop := ∃ t, (∀ (s : Shared) (H : Hp) (C : Addr) (code : Value) (fp : List Addr) (B : Around), Room k B → PG (GX.gcx X s H scope (GX.gen0 X scope C code) fp B) tg t) ∧ Ptq F t g is
theorem ce_all {c P : Addr} {elt tg iter : Expr} {ifs : List Expr} {p pos gpos : Pos} {scope : Scope} {own : List (Str × Nat)} {k : Nat} {fi : Sl → Hh → Out AIt} {g : EvG} {is : List Nat} {ft : EvT} {fe : EvF}
    (hP : P ∈ F.T) (hr : Room (k + 1) X.A) (hgl : Gl X "all") (hm : X.mg "all" = none) (G : GX.GenOk X c P scope own iter) (hi : CI X F W tg iter fi) (hg : CGx X F k scope tg g is) (hv : ∀ i ∈ is, i ∈ own.map (·.2))
    (ht : ∀ s H C code fp B, Room k B → CTs (GX.gcx X s H scope (GX.gen0 X scope C code) fp B) F Wno ifs ft)
    (he : ∀ s H C code fp B, Room k B → CE (GX.gcx X s H scope (GX.gen0 X scope C code) fp B) F Wno elt fe)
    (hse : starEach [.GeneratorExp elt [⟨tg, iter, ifs, 0⟩] scope gpos] X.env = (false, eval (.GeneratorExp elt [⟨tg, iter, ifs, 0⟩] scope gpos) X.env) :: starEach [] X.env := by rfl) :
    CE X F W (.Call (.Name "all" p) [.GeneratorExp elt [⟨tg, iter, ifs, 0⟩] scope gpos] [] pos) (xGx true fi g ft fe (own.map (·.2))) := by
  obtain ⟨t, a1, a2⟩ := hg
  exact ce (GX.pe_allG hr hgl hm G hi a1 ht he hse) (x_gx hP (rdI_ok fi) a2 hv (rdT_ok ft) (rdE_ok fe))
theorem ce_any {c P : Addr} {elt tg iter : Expr} {ifs : List Expr} {p pos gpos : Pos} {scope : Scope} {own : List (Str × Nat)} {k : Nat} {fi : Sl → Hh → Out AIt} {g : EvG} {is : List Nat} {ft : EvT} {fe : EvF}
    (hP : P ∈ F.T) (hr : Room (k + 1) X.A) (hgl : Gl X "any") (hm : X.mg "any" = none) (G : GX.GenOk X c P scope own iter) (hi : CI X F W tg iter fi) (hg : CGx X F k scope tg g is) (hv : ∀ i ∈ is, i ∈ own.map (·.2))
    (ht : ∀ s H C code fp B, Room k B → CTs (GX.gcx X s H scope (GX.gen0 X scope C code) fp B) F Wno ifs ft)
    (he : ∀ s H C code fp B, Room k B → CE (GX.gcx X s H scope (GX.gen0 X scope C code) fp B) F Wno elt fe)
    (hse : starEach [.GeneratorExp elt [⟨tg, iter, ifs, 0⟩] scope gpos] X.env = (false, eval (.GeneratorExp elt [⟨tg, iter, ifs, 0⟩] scope gpos) X.env) :: starEach [] X.env := by rfl) :
    CE X F W (.Call (.Name "any" p) [.GeneratorExp elt [⟨tg, iter, ifs, 0⟩] scope gpos] [] pos) (xGx false fi g ft fe (own.map (·.2))) := by
  obtain ⟨t, a1, a2⟩ := hg
  exact ce (GX.pe_anyG hr hgl hm G hi a1 ht he hse) (x_gx hP (rdI_ok fi) a2 hv (rdT_ok ft) (rdE_ok fe))
end
/-! ### a def is there -/
section
variable {P : Program} {w : World} {F : Fx} {mg : Str → Option Value} {base : Heap}
theorem dn_of {x : Str} {st : Stmt} {f : Addr} {fd : FuncData} {N ps : List Str} {k : Nat} {fs : EvS} (hm : mg x = some (.ref f)) (hk : PySem.W.keepIn F.K (.ref f) = true) (Fu : Fun F.K x x st f fd) (hb : Binds F.K fd ps []) (S : FnScope N ps (defScope st))
    (hbody : ∀ (E : XK) (cdv : Value) (A : Around) (outer : List Env) (s : Shared) (H : Hp), Room k (A.deeper (envOfC x (defScope st) s.heap.objs.size f cdv)) → L2.Takes (cxOf (L2.CX P w) P w F.K mg base N x (defScope st) f cdv A outer s H E) (fun c d _ H => E c d H) →
      CSs (cxOf (L2.CX P w) P w F.K mg base N x (defScope st) f cdv A outer s H E) F (fun c d _ H => E c d H) (defBody st) fs) :
    Dn P w F mg base (k + 1) x ps.length (defO N.length fs) :=
  ⟨f, fd, ps, hm, hk, fn_ok Fu S fun E cdv A outer s H hr => ⟨rdS F (fun c d _ H => E c d H) fs, hbody E cdv A outer s H hr (takes_of rfl rfl rfl rfl), rdS_ok fs⟩, hb⟩
/-- the text's def stands there -/
structure At (F : Fx) (mg : Str → Option Value) (x : Str) (st : Stmt) (ps : List Str) : Prop where
  ex : ∃ (f : Addr) (fd : FuncData), mg x = some (.ref f) ∧ PySem.W.keepIn F.K (.ref f) = true ∧ Fun F.K x x st f fd ∧ Binds F.K fd ps []
theorem dn_at {x : Str} {st : Stmt} {N ps : List Str} {k : Nat} {fs : EvS} (h : At F mg x st ps) (S : FnScope N ps (defScope st))
    (hbody : ∀ (E : XK) (f : Addr) (cdv : Value) (A : Around) (outer : List Env) (s : Shared) (H : Hp), Room k (A.deeper (envOfC x (defScope st) s.heap.objs.size f cdv)) → L2.Takes (cxOf (L2.CX P w) P w F.K mg base N x (defScope st) f cdv A outer s H E) (fun c d _ H => E c d H) →
      PassesOwn (model P w) (cxOf (L2.CX P w) P w F.K mg base N x (defScope st) f cdv A outer s H E).A (cxOf (L2.CX P w) P w F.K mg base N x (defScope st) f cdv A outer s H E).env (cxOf (L2.CX P w) P w F.K mg base N x (defScope st) f cdv A outer s H E).xe →
      CSs (cxOf (L2.CX P w) P w F.K mg base N x (defScope st) f cdv A outer s H E) F (fun c d _ H => E c d H) (defBody st) fs) :
    Dn P w F mg base (k + 1) x ps.length (defO N.length fs) := by
  obtain ⟨f, fd, h1, h2, h3, h4⟩ := h.ex
  exact dn_of h1 h2 h3 h4 S fun E cdv A outer s H hr tk => hbody E f cdv A outer s H hr tk (passes_of rfl)
end
section
variable {X : Cx} {F : Fx} {W : WX'}
/-- == and !=, the room told -/
theorem opr_eq {k : Nat} (hr : Room k X.A) : OpR X (compareOp .Eq) (rEqD X.K) := op_eqD (by have := hr.un; omega)
theorem opr_ne {k : Nat} (hr : Room k X.A) : OpR X (compareOp .NotEq) (rNeD X.K) := op_neD (by have := hr.un; omega)
/-- a written tuple -/
structure KtOk (F : Fx) (mg : Str → Option Value) (x : Str) (xs : List AV) : Prop where
  ex : ∃ (a : Addr) (us : List V), mg x = some (.ref a) ∧ SqT F.K (fun _ => none) a us ∧ ∀ m H, RVs F m H xs us
theorem ce_globT {x : Str} {xs : List AV} {pos : Pos} (hg : Gl X x) (h : KtOk F X.mg x xs) (hd : (x == ("__debug__" : Str)) = false := by decide) : CE X F W (.Name x pos) (xC (.kt xs)) := by
  obtain ⟨a, us, hm, hs, hv⟩ := h.ex
  exact ce_glob (w := .ref a) hg hm rfl (fun m H => .kt hs (hv m H)) hd
theorem ce_globI {x : Str} {i : Int} {pos : Pos} (hg : Gl X x) (hm : ∃ t, X.mg x = some (.int i t)) (hd : (x == ("__debug__" : Str)) = false := by decide) : CE X F W (.Name x pos) (xC (.int i)) := by
  obtain ⟨t, hm⟩ := hm
  exact ce_glob (w := .int i) hg hm ⟨t, rfl⟩ (fun _ _ => .int i) hd
end
section
variable {P : Program} {w : World} {F : Fx} {mg : Str → Option Value} {base : Heap}
/-- the text's def stands there; its code object is c, with the table at p -/
structure AtC (F : Fx) (mg : Str → Option Value) (base : Heap) (x : Str) (st : Stmt) (ps : List Str) : Prop where
  ex : ∃ (f : Addr) (oc kV doc pm ct : Value) (an od : Option Addr) (c p : Addr) (osl : Array (Option Value)), mg x = some (.ref f) ∧ PySem.W.keepIn F.K (.ref f) = true ∧
    F.K.lookup f = some ⟨oc, od, .func (PySem.W.fnOf x x (defArgs st) (defBody st) (defScope st) .none kV doc pm an (.ref c) ct), osl⟩ ∧ PySem.W.codeIn F.K (.ref c) x = true ∧
    Binds F.K (PySem.W.fnOf x x (defArgs st) (defBody st) (defScope st) .none kV doc pm an (.ref c) ct) ps [] ∧ GxR.TabB base mg c p ∧ p ∈ F.T
theorem dn_atC {x : Str} {st : Stmt} {N ps : List Str} {k : Nat} {fs : EvS} (h : AtC F mg base x st ps) (S : FnScope N ps (defScope st))
    (hbody : ∀ (E : XK) (f c p : Addr) (A : Around) (outer : List Env) (s : Shared) (H : Hp), Room k (A.deeper (envOfC x (defScope st) s.heap.objs.size f (.ref c))) → L2.Takes (cxOf (L2.CX P w) P w F.K mg base N x (defScope st) f (.ref c) A outer s H E) (fun c d _ H => E c d H) →
      PassesOwn (model P w) (cxOf (L2.CX P w) P w F.K mg base N x (defScope st) f (.ref c) A outer s H E).A (cxOf (L2.CX P w) P w F.K mg base N x (defScope st) f (.ref c) A outer s H E).env (cxOf (L2.CX P w) P w F.K mg base N x (defScope st) f (.ref c) A outer s H E).xe →
      GxR.TabB base mg c p → p ∈ F.T →
      CSs (cxOf (L2.CX P w) P w F.K mg base N x (defScope st) f (.ref c) A outer s H E) F (fun c d _ H => E c d H) (defBody st) fs) :
    Dn P w F mg base (k + 1) x ps.length (defO N.length fs) := by
  obtain ⟨f, oc, kV, doc, pm, ct, an, od, c, p, osl, h1, h2, lk, hcd, h4, tb, hp⟩ := h.ex
  refine ⟨f, _, ps, h1, h2, ?_, h4⟩
  refine L2.fn_of lk hcd S (fun vs H Q E h => spD_len h) fun A outer s H vs Q E hr h => ?_
  exact ⟨rdS F (fun c d _ H => E c d H) fs, hbody E f c p A outer s H hr (takes_of rfl rfl rfl rfl) (passes_of rfl) tb hp, body_ok (rdS_ok fs) h⟩
end
end DI

set_option Elab.async false
set_option linter.all false
set_option maxRecDepth 100000
set_option maxHeartbeats 4000000
/-! written dicts; exceptions of one's own are raised; append -/
namespace DI
open PySem PySem.Spec PyProof.Rows L2 GxR RZ
/-! ### written dicts: text keys -/
structure KdOk (F : Fx) (w : World) (mg : Str → Option Value) (x : Str) (tab : List (Str × AV)) : Prop where
  ex : ∃ (d : Addr) (es : Array DictEntry) (n : Nat), mg x = some (.ref d) ∧ KDict F.K w d es n ∧ (∀ z, ∃ r, PySem.W.nsIn F.K d z = some r ∧ r.isSome = (findA z tab).isSome) ∧
    ∀ z v, findA z tab = some v → ∃ u v0, PySem.W.nsIn F.K d z = some (some u) ∧ RelV v0 u ∧ ∀ m H, RV F m H v v0
section
variable {X : Cx} {F : Fx} {W : WX'}
def xInG (neg : Bool) (tab : List (Str × AV)) (fa : EvF) : EvF := fun ρ h => bindO (fa ρ h) fun x h1 => match x with
  | .str z => .ok (.bl (if neg = true then !(findA z tab).isSome else (findA z tab).isSome)) h1
  | _ => .bad
def rInG (neg : Bool) (K : PySem.W.Frag) (d : Addr) : R2 := fun x y H Q => ∃ (z : Str) (r : Option Value), x = .str z ∧ y = .ref d ∧ PySem.W.nsIn K d z = some r ∧ Q (.bl (if neg = true then !r.isSome else r.isSome)) H
theorem ce_inG {neg : Bool} {op : CmpOp} {a : Expr} {x : Str} {tab : List (Str × AV)} {p pos : Pos} {fa : EvF} (hop : ∀ (d : Addr) es n, KDict X.K X.w d es n → OpR X (compareOp op) (rInG neg X.K d)) (h : KdOk F X.w X.mg x tab) (hK : X.K = F.K) (hg : Gl X x) (ha : CE X F W a fa)
    (hm : behindInMarks op (.Name x p) = false := by with_unfolding_all rfl) (hd : (x == ("__debug__" : Str)) = false := by decide) : CE X F W (.Compare a [op] [.Name x p] pos) (xInG neg tab fa) := by
  obtain ⟨d, es, n, h1, h2, h3, _⟩ := h.ex
  refine ce (pe_cmpR (hop d es n (by rw [hK]; exact h2)) ha (pe_glob (v := .ref d) hg h1 rfl hd) hm) fun m H hh σ ρ Q rh rs q => ?_
  refine rdE_ok fa m H hh σ ρ _ rh rs (okg_imp (okg_bind q) fun v h1' m1 H1 r1 M1 q1 u ru => ?_)
  cases v <;> first | exact q1.elim | skip
  rename_i z
  obtain ⟨r, e1, e2⟩ := h3 z
  cases ru
  refine ⟨z, r, rfl, rfl, by rw [hK]; exact e1, ?_⟩
  rw [e2]
  exact okg_ok r1 q1 _ (.bl _)
theorem opr_inG (d : Addr) (es : Array DictEntry) (n : Nat) (D : KDict X.K X.w d es n) : OpR X (compareOp .In) (rInG false X.K d) := op_in_kd D
theorem opr_ninG (d : Addr) (es : Array DictEntry) (n : Nat) (D : KDict X.K X.w d es n) : OpR X (compareOp .NotIn) (rInG true X.K d) := op_notIn_kd D
def xIxG (tab : List (Str × AV)) (fb : EvF) : EvF := fun ρ h => bindO (fb ρ h) fun y h1 => match y with
  | .str z => optO (findA z tab) h1
  | _ => .bad
theorem ce_ixG {b : Expr} {x : Str} {tab : List (Str × AV)} {p pos : Pos} {fb : EvF} (h : KdOk F X.w X.mg x tab) (hK : X.K = F.K) (hg : Gl X x) (hb : CE X F W b fb) (hs : PlainIx b := by intro _ _; rfl) (hd : (x == ("__debug__" : Str)) = false := by decide) : CE X F W (.Subscript (.Name x p) b pos) (xIxG tab fb) := by
  obtain ⟨d, es, n, h1, h2, _, h4⟩ := h.ex
  refine ce (pe_ix ix_kdict (pe_glob (v := .ref d) hg h1 rfl hd) hb hs) fun m H hh σ ρ Q rh rs q => ?_
  refine rdE_ok fb m H hh σ ρ _ rh rs (okg_imp (okg_bind q) fun v h1' m1 H1 r1 M1 q1 u ru => ?_)
  cases v <;> first | exact q1.elim | skip
  rename_i z
  obtain ⟨v, e, q2⟩ := opt_ok r1 q1
  obtain ⟨u0, v0, e1, e2, e3⟩ := h4 z v e
  cases ru
  exact ⟨d, z, v0, rfl, rfl, ⟨es, n, u0, by rw [hK]; exact h2.at_, h2.lit, by rw [hK]; exact e1, e2⟩, q2 v0 (e3 _ _)⟩
end
/-! ### an exception class of one's own with one field -/
def spIni (C : Addr) (fl : Str) : Sp := fun vs H Q _ => ∃ (a : Addr) (y : V), vs = [.ref a, y] ∧ H a = some (exo a C none) ∧ ∀ dx, H dx = none → dx ≠ a → Q .non (upd (upd H dx (exd dx [(fl, y)])) a (exo a C (some dx)))
structure Xcl (P : Program) (w : World) (F : Fx) (mg : Str → Option Value) (base : Heap) (x fl : Str) : Prop where
  ex : ∃ (C fI : Addr) (fd : FuncData) (ps : List Str), mg x = some (.ref C) ∧ F.G x = some C ∧ OexC F.K C ∧ PySem.W.findIn F.K (.ref C) "__init__" = some (some (.ref fI)) ∧ PySem.W.typeIn F.K (.ref fI) = some (.type "function") ∧
    FnOk P w F.K mg base CX0 1 fI fd ps (spIni C fl) ∧ Binds F.K fd ps []
section
variable {X : Cx} {F : Fx} {W : WX'}
def sRaise (x fl : Str) (fa : EvA) : EvS := fun ρ h => bindE (fa ρ h) ρ fun vs h1 => match vs with
  | [v] => .exc x [(fl, v)] ρ h1
  | _ => .bad
theorem raised_heap {H1 : Hp} {a dx : Addr} {o1 o2 o3 : HO} {fs : List (Str × V)} (na : H1 a = none) (hne : dx ≠ a) : upd (L2.del (upd (upd (upd H1 a o1) dx o2) a o3) a) dx (.xd fs) = upd H1 dx (.xd fs) := by
  funext b
  by_cases e : b = dx
  · subst e; rw [upd_same, upd_same]
  · rw [upd_ne e, upd_ne e]
    by_cases e2 : b = a
    · subst e2; rw [del_same]; exact na.symm
    · rw [del_ne e2, upd_ne e2, upd_ne e, upd_ne e2]
theorem cs_raise {x fl : Str} {a : Expr} {p pos pos2 : Pos} {k : Nat} {fa : EvA} (c : Xcl X.prog X.w F X.mg X.base x fl) (hK : X.K = F.K) (hc : X.calm = true) (hr : Room (k + 2) X.A) (tk : L2.Takes X W) (hg : Gl X x) (ha : CA X F W [a] fa)
    (hdb : (x == ("__debug__" : Str)) = false := by decide) (he : starEach (a :: []) X.env = (false, eval a X.env) :: starEach [] X.env := by rfl) (hpl : (backTo pos (starEach [] X.env)).any (·.1) = false := by rfl) :
    CS X F W (.Raise (some (.Call (.Name x p) [a] [] pos)) none pos2) (sRaise x fl fa) := by
  obtain ⟨C, fI, fd, ps, h1, h2, h3, h4, h5, h6, h7⟩ := c.ex
  refine cs (ps_raise hc tk (pmk_oex (CX := CX0) (k := 1) (by rw [hK]; exact h3) (by rw [hK]; exact h4) (by rw [hK]; exact h5) (by rw [hK]; exact h6) (hr.mono (by omega)) (by rw [hK]; exact h7) .nil pass0 hg h1 ha hdb he hpl)) fun m H hh σ ρ D rh rs q => ?_
  refine rdA_ok fa m H hh σ ρ _ rh rs (okg_imp (okg_stmt rs q) fun vs h1' m1 H1 r1 M1 q1 us ru => ?_)
  split at q1
  · cases ru with
    | @cons _ _ y _ rv rr =>
      cases rr
      refine ⟨Nat.le_of_lt (show 1 < 1000 by decide), fun a na => ⟨a, y, rfl, upd_same, fun dx nd hne => ⟨rfl, dx, _, upd_same, by rw [upd_ne hne]; exact upd_same, ?_, ?_⟩⟩⟩
      · rw [upd_ne hne] at nd; exact nd
      · rw [upd_ne hne] at nd
        rw [raised_heap na hne]
        have M2 : Mono F m1 H1 m1 (upd H1 dx (.xd [(fl, y)])) := Mono.laid nd
        exact q1 m1 _ dx _ C σ (r1.laid nd) M2 h2 upd_same (.cons (rv.mono M2) .nil) ((rs.mono M1).mono M2)
  · exact q1.elim
theorem ini_ok {P : Program} {w : World} {mg : Str → Option Value} {base : Heap} {qual fl sf gv : Str} {st : Stmt} {f C : Addr} {fd : FuncData} {p1 p2 p3 p4 : Pos} (Fu : Fun F.K "__init__" qual st f fd) (S : FnScope [sf, gv] [sf, gv] (defScope st)) (hb : defBody st = [.Assign [.Attribute (.Name sf p1) fl p2] (.Name gv p3) p4])
    (T : OexC F.K C) (no : PySem.W.findIn F.K (.ref C) fl = some none) (v1 : (defScope st).names.lookup sf = some .local) (v2 : (defScope st).names.lookup gv = some .local)
    (hd1 : (sf == ("__debug__" : Str)) = false) (hd2 : (sf == ("__classdict__" : Str)) = false) (hd3 : (gv == ("__debug__" : Str)) = false) (hd4 : (gv == ("__classdict__" : Str)) = false) : FnOk P w F.K mg base CX0 1 f fd [sf, gv] (spIni C fl) := by
  refine Fu.ok S (fun vs H Q E h => ?_) (fun cdv A outer s H vs Q E hr h => ⟨tOst F.K fl (tVar 0) (tVar 1), ?_, ?_⟩)
  · obtain ⟨a, y, rfl, _⟩ := h; rfl
  · rw [hb]
    exact pss_one (ps_ost (pe_var (i := 0) rfl (.inl v1) hd1 hd2) (pe_var (i := 1) rfl (.inl v2) hd3 hd4))
  · obtain ⟨a, y, rfl, e, q⟩ := h
    exact ⟨y, rfl, .ref a, rfl, a, C, rfl, T, no, .inl ⟨e, fun dx nd hne => q dx nd hne⟩⟩
/-- xs.append(e) -/
theorem ce_append {o e : Expr} {apos cpos : Pos} {fo : EvF} {fa : EvA} (hK : X.K = F.K) (ho : CE X F W o fo) (ha : CA X F W [e] fa) (hbase : attributeBase o "append" X.env (eval o X.env) = eval o X.env := by rfl)
    (hfew : ((backTo cpos (starEach (e :: []) X.env)).all (fun x => !x.1) && (backToKw cpos (keywordEach [] X.env)).all (fun x => x.1.isSome) && decide ((e :: []).length + ([] : List Keyword).length + (if ([] : List Keyword).isEmpty then 0 else 1) < 30)) = true := by rfl)
    (hline : (apos.endLine == cpos.line) = true := by rfl) (hs : starEach (e :: []) X.env = (false, eval e X.env) :: starEach [] X.env := by rfl) (hplain : (backTo cpos (starEach [] X.env)).any (·.1) = false := by rfl) :
    CE X F W (.Call (.Attribute o "append" apos) [e] [] cpos) (xApp fo fa) := by
  refine ce (pe_bm PySem.F.plainAttrs_list PySem.F.slot_list_append PySem.F.type_list_append mt_append ho ha hbase hfew hline hs hplain) ?_
  rw [hK]
  exact x_app (rdE_ok fo) (rdA_ok fa)
/-- a new dict with keys that are ints and texts; with keys that are tuples -/
def xDk : EvF := fun _ h => mkO (.dk []) h
def xDt : EvF := fun _ h => mkO (.dt []) h
theorem ce_dk {pos : Pos} : CE X F W (.Dict [] [] pos) xDk := ce pe_dnewK fun m H h σ ρ Q rh rs q => mkO_ok rh (.dk .nil) q
theorem ce_dt {pos : Pos} : CE X F W (.Dict [] [] pos) xDt := ce pe_dnewT fun m H h σ ρ Q rh rs q => mkO_ok rh (.dt .nil) q
end
section
variable {X : Cx} {F : Fx} {W : WX'}
/-- name = [..] on one line -/
theorem cs_setLc {i : Nat} {y : Str} {py : Pos} {elt tg iter : Expr} {ifs : List Expr} {scope : Scope} {own : List (Str × Nat)} {pos spos : Pos} {fi : Sl → Hh → Out AIt} {g : EvG} {is : List Nat} {ft : EvT} {fe : EvF} (hc : X.calm = true) (hN : X.N.Nodup) (hy : X.N[i]? = some y) (hyl : X.env.scope.names.lookup y = some .local)
    (hsw : swapsWith (.ListComp elt [⟨tg, iter, ifs, 0⟩] scope pos) (some (.Name y py)) spos.line X.env = pure true) (hi : CI X F W tg iter fi) (ok : BlkOk X.N X.env.scope scope own)
    (hg : CGb X F scope tg g is) (hv : ∀ i ∈ is, i ∈ own.map (·.2))
    (ht : ∀ (s : Shared) (H : Hp) (C : Addr) (cl : List (Str × Addr)) (fp : List Addr), CTs (X.blk s H scope (compEnvC scope cl C X.env) fp) F Wno ifs ft)
    (he : ∀ (s : Shared) (H : Hp) (C : Addr) (cl : List (Str × Addr)) (fp : List Addr), CE (X.blk s H scope (compEnvC scope cl C X.env) fp) F Wno elt fe) (hs : ∀ x, foldedSetIterable iter X.env x = pure x := by intro _; rfl) :
    CS X F W (.Assign [.Name y py] (.ListComp elt [⟨tg, iter, ifs, 0⟩] scope pos) spos) (sAsg (xLc fi g ft fe (own.map (·.2))) (yName i)) := by
  obtain ⟨t, a1, a2⟩ := hg
  exact cs (ps_setLc hc hN hy hyl hsw hi ok a1 ht he hs) (s_asg (x_lc (rdI_ok fi) a2 hv (rdT_ok ft) (rdE_ok fe)) (y_name i))
end
end DI

set_option Elab.async false
set_option linter.all false
set_option maxRecDepth 100000
set_option maxHeartbeats 4000000
/-! len(set(xs)) < len(xs); small operators -/
namespace DI
open PySem PySem.Spec PyProof.Rows L2 GxR RZ
section
variable {X : Cx} {F : Fx} {W : WX'}
theorem cr_lenN : CallR X (.builtin "len") (fun xs H Q => ∃ (a : Addr) (n : Nat), xs = [V.ref a] ∧ H a = some (TZ.SetN X.prog X.w a n) ∧ n ≤ 15 ∧ Q (.int n) H) := by
  intro pins s σ H xs us Q I r h
  obtain ⟨a, n, rfl, e, hn, q⟩ := h
  rw [Vals.ref1 r]
  obtain ⟨z, _, _⟩ := I.hok a _ e
  obtain ⟨es, ep, t, ⟨o, ho, hex, hd⟩, hf, hs⟩ := TZ.LayE.ex z
  refine PySem.call_len_set ho hex hd hf (by omega) ?_
  exact ⟨.int n, H, (I.tok _).tok _, ⟨_, by rw [hs]⟩, q⟩
def tkeys : AV → Option (List Key)
  | .tup xs => mapO keyA xs
  | _ => none
theorem tkeys_ok {m : List Addr} {H : Hp} : ∀ {xs : List AV} {us : List V} {ks : List (List Key)}, RVs F m H xs us → mapO tkeys xs = some ks →
    ∃ ps : List (Addr × List Key), us = (ps.map fun p => V.ref p.1) ∧ ps.map (·.2) = ks ∧ ∀ p ∈ ps, SqT F.K H p.1 (p.2.map kV)
  | _, _, _, .nil, e => by cases e; exact ⟨[], rfl, rfl, fun _ h => absurd h (by simp)⟩
  | x :: r, _, ks, .cons rx rr, e => by
    unfold mapO at e
    cases e1 : tkeys x with
    | none => simp only [e1] at e; cases e
    | some y =>
      cases e2 : mapO tkeys r with
      | none => simp only [e1, e2] at e; cases e
      | some ys =>
        simp only [e1, e2] at e
        cases e
        obtain ⟨ps, h1, h2, h3⟩ := tkeys_ok rr e2
        cases x <;> first | (cases e1; done) | skip
        cases rx with
        | @tup a zs us' g1 g2 =>
          have g3 := keysA_ok g2 e1
          refine ⟨(a, y) :: ps, by rw [h1]; rfl, by rw [← h2]; rfl, fun p hp => ?_⟩
          rcases List.mem_cons.mp hp with rfl | hp
          · exact .inl (.inl (by rw [← g3]; exact g1))
          · exact h3 p hp
def xDup (i : Nat) : EvF := fun ρ h => match ρ[i]? with
  | some (some x) => match lstA x h with
    | some xs => if xs.length ≤ 15 then (match mapO tkeys xs with
      | some ks => .ok (.bl (!decide ks.Nodup)) h
      | none => .bad) else .bad
    | none => .bad
  | _ => .bad
theorem ce_dup {x : Str} {p1 p2 p3 p4 p5 p6 p7 q pos : Pos} {k : Nat} (i : Nat) (hK : X.K = F.K) (hc : X.calm = true) (hr : Room k X.A) (hN : X.N[i]? = some x) (hv : Vis X.env.scope x) (gl : Gl X "len") (ml : X.mg "len" = none) (gs : Gl X "set") (ms : X.mg "set" = none)
    (hd : (x == ("__debug__" : Str)) = false := by decide) (hcd : (x == ("__classdict__" : Str)) = false := by decide) :
    CE X F W (.Compare (.Call (.Name "len" p1) [.Call (.Name "set" p2) [.Name x p3] [] p4] [] p5) [.Lt] [.Call (.Name "len" p6) [.Name x p7] [] q] pos) (xDup i) := by
    have bl : bootBuiltins "len" = some (.builtin "len") := by decide +kernel
    have bs : bootBuiltins "set" = some (.type "set") := by decide +kernel
    have v1 : ∀ pp, PE X (.Name x pp) (tVar i) := fun pp => pe_var hN hv hd hcd
    have a1 := pe_callTy (p := p2) (pos := p4) (TZ.cr_setZ hc (by have := hr.un; omega)) gs ms bs (pa_cons (v1 p3) pa_nil)
    have a2 := pe_callB (p := p1) (pos := p5) cr_lenN gl ml bl (pa_cons a1 pa_nil)
    have a3 := pe_callB (p := p6) (pos := q) call_len_seq gl ml bl (pa_cons (v1 p7) pa_nil)
    refine ce (pe_cmpR op_lt a2 a3 (nomark _)) fun m H h σ ρ Q rh rs q => ?_
    unfold xDup at q
    split at q
    · rename_i v e
      split at q
      · rename_i xs e2
        split at q
        · rename_i hz
          split at q
          · rename_i ks e3
            obtain ⟨u, s1, s2⟩ := rs.2 i v e
            obtain ⟨j, a, us, rfl, t1, t2, rfl, t4, ra⟩ := lstA_ok rh s2 e2
            obtain ⟨ps, g1, g2, g3⟩ := tkeys_ok ra e3
            have hl := rvs_len ra
            have hl2 : ps.length = xs.length := by rw [← hl, g1, List.length_map]
            refine ⟨.ref a, s1, a, ps, rfl, by rw [← g1]; exact .inl (.inl t4), fun p hp => by rw [hK]; exact g3 p hp, by omega, fun b n nb hn hnd => ?_⟩
            refine ⟨b, n, rfl, upd_same, by omega, ?_⟩
            have M : Mono F m H m (upd H b (TZ.SetN X.prog X.w b n)) := Mono.laid nb
            refine ⟨.ref a, s1, a, us, rfl, .inl (.inl (.inl (by rw [upd_ne (ne_of_none t4 nb)]; exact t4))), n, us.length, rfl, rfl, ?_⟩
            have fin := okg_at q (rh.laid nb) M (.bl (!decide ks.Nodup)) (.bl _)
            have e5 : decide ((n : Int) < (us.length : Int)) = !decide ks.Nodup := by
              rw [g2] at hnd
              by_cases c : ks.Nodup
              · have := hnd.mp c
                rw [decide_eq_true c, decide_eq_false (by omega)]; rfl
              · have : n ≠ ps.length := fun z => c (hnd.mpr z)
                rw [decide_eq_false c, decide_eq_true (by omega)]; rfl
            show Q (.bl (decide ((n : Int) < (us.length : Int)))) _
            rw [e5]
            exact fin
          · exact q.elim
        · exact q.elim
      · exact q.elim
    · exact q.elim
/-! ### small operators -/
def gFDiv := gIIc (fun _ j => decide (0 < j ∧ j < 1073741824)) fun i j => .int (i / j)
theorem p_fdiv : P2 F (rI CDiv fun i j => .int (i / j)) gFDiv := p_iic (fun i j h => by have h := of_decide_eq_true h; exact h) fun _ _ _ _ => .int _
def xNeg (fa : EvF) : EvF := fun ρ h => bindO (fa ρ h) fun x h1 => match x with
  | .int i => .ok (.int (-i)) h1
  | _ => .bad
theorem ce_neg {a : Expr} {pos : Pos} {fa : EvF} (ha : CE X F W a fa) : CE X F W (.UnaryOp .USub a pos) (xNeg fa) := by
  refine ce (pe_un un_neg ha) fun m H h σ ρ Q rh rs q => ?_
  refine rdE_ok fa m H h σ ρ _ rh rs (okg_imp (okg_bind q) fun v h1' m1 H1 r1 M1 q1 u ru => ?_)
  cases v <;> first | exact q1.elim | skip
  rename_i i
  cases ru
  exact ⟨i, rfl, okg_ok r1 q1 _ (.int _)⟩
def g2I (g : Int → Int → Int) : List AV → Hh → Out AV := fun xs h => match xs with
  | [.int i, .int j] => .ok (.int (g i j)) h
  | _ => .bad
theorem p_2I {g : Int → Int → Int} : PLs F (fun xs H Q => ∃ i j, xs = [V.int i, V.int j] ∧ Q (.int (g i j)) H) (g2I g) := by
  intro m H h xs us Q E rh r q
  unfold g2I at q
  split at q
  · cases r with
    | cons r1 rr =>
      cases rr with
      | cons r2 rr =>
        cases rr
        cases r1
        cases r2
        exact ⟨_, _, rfl, okg_ok rh q _ (.int _)⟩
  · exact q.elim
def gMax := g2I fun i j => if j > i then j else i
def gMin := g2I fun i j => if j < i then j else i
end
section
variable {X : Cx} {F : Fx} {W : WX'}
/-- a, b = x, y; a, b, c = x, y, z -/
def sPar (i j : Nat) (fa : EvA) : EvS := fun ρ h => bindE (fa ρ h) ρ fun vs h1 => match vs with
  | [v, w] => .nx ((ρ.set i (some v)).set j (some w)) h1
  | _ => .bad
def sPar3 (i j l : Nat) (fa : EvA) : EvS := fun ρ h => bindE (fa ρ h) ρ fun vs h1 => match vs with
  | [u, v, w] => .nx (((ρ.set i (some u)).set j (some v)).set l (some w)) h1
  | _ => .bad
theorem cs_par {i j : Nat} {x y : Str} {a b : Expr} {px py pt pos : Pos} {kt k2 : Nat} {pt2 : Pos} {fa : EvA} (hc : X.calm = true) (hN : X.N.Nodup) (hi : X.N[i]? = some x) (hj : X.N[j]? = some y) (hij : i ≠ j)
    (hx : X.env.scope.names.lookup x = some .local) (hy : X.env.scope.names.lookup y = some .local) (ha : CA X F W [a, b] fa)
    (hw : swappedStores [.Tuple [.Name x px, .Name y py] kt pt] (.Tuple [a, b] k2 pt2) X.env = pure (some [x, y]))
    (hs : swapsWithSole [.Tuple [.Name x px, .Name y py] kt pt] (.Tuple [a, b] k2 pt2) pos.line X.env = pure false := by rfl) :
    CS X F W (.Assign [.Tuple [.Name x px, .Name y py] kt pt] (.Tuple [a, b] k2 pt2) pos) (sPar i j fa) := by
  refine cs (ps_par hc hN hi hj hij hx hy ha hw hs) fun m H h σ ρ D rh rs q => ?_
  refine rdA_ok fa m H h σ ρ _ rh rs (okg_imp (okg_stmt rs q) fun vs h1 m1 H1 r1 M1 q1 us ru => ?_)
  split at q1
  · cases ru with
    | cons r1' rr =>
      cases rr with
      | cons r2' rr =>
        cases rr
        exact ⟨_, _, rfl, oks_nx r1 (((rs.mono M1).set r1').set r2') q1⟩
  · exact q1.elim
theorem cs_par3 {i j l : Nat} {x y z : Str} {a b c : Expr} {px py pz pt pos : Pos} {kt k2 : Nat} {pt2 : Pos} {fa : EvA} (hc : X.calm = true) (hN : X.N.Nodup) (hi : X.N[i]? = some x) (hj : X.N[j]? = some y) (hl : X.N[l]? = some z) (hij : i ≠ j) (hil : i ≠ l) (hjl : j ≠ l)
    (hx : X.env.scope.names.lookup x = some .local) (hy : X.env.scope.names.lookup y = some .local) (hz : X.env.scope.names.lookup z = some .local) (ha : CA X F W [a, b, c] fa)
    (hw : swappedStores [.Tuple [.Name x px, .Name y py, .Name z pz] kt pt] (.Tuple [a, b, c] k2 pt2) X.env = pure (some [x, y, z]))
    (hs : swapsWithSole [.Tuple [.Name x px, .Name y py, .Name z pz] kt pt] (.Tuple [a, b, c] k2 pt2) pos.line X.env = pure false := by rfl) :
    CS X F W (.Assign [.Tuple [.Name x px, .Name y py, .Name z pz] kt pt] (.Tuple [a, b, c] k2 pt2) pos) (sPar3 i j l fa) := by
  refine cs (ps_par3 hc hN hi hj hl hij hil hjl hx hy hz ha hw hs) fun m H h σ ρ D rh rs q => ?_
  refine rdA_ok fa m H h σ ρ _ rh rs (okg_imp (okg_stmt rs q) fun vs h1 m1 H1 r1 M1 q1 us ru => ?_)
  split at q1
  · cases ru with
    | cons r1' rr =>
      cases rr with
      | cons r2' rr =>
        cases rr with
        | cons r3' rr =>
          cases rr
          exact ⟨_, _, _, rfl, oks_nx r1 ((((rs.mono M1).set r1').set r2').set r3') q1⟩
  · exact q1.elim
/-! ### xs[i] = v, d[k] = v -/
def setN (xs : List AV) (i : Int) (v : AV) : Option (List AV) := match ixN xs.length i with
  | some j => some (xs.set j v)
  | none => none
end
end DI

set_option Elab.async false
set_option linter.all false
set_option maxRecDepth 100000
set_option maxHeartbeats 4000000
/-! stores at a place of a list or a dict; written dicts made anew; count -/
namespace DI
open PySem PySem.Spec PyProof.Rows L2 GxR RZ
section
variable {X : Cx} {F : Fx} {W : WX'}
theorem rvs_set {m : List Addr} {H : Hp} {v : AV} {u : V} (r : RV F m H v u) : ∀ {xs : List AV} {us : List V} (j : Nat), RVs F m H xs us → RVs F m H (xs.set j v) (us.set j u)
  | _, _, _, .nil => .nil
  | _, _, 0, .cons _ t => .cons r t
  | _, _, j + 1, .cons h t => .cons h (rvs_set r j t)
def storeL (x y v : AV) (h : Hh) : Option Hh := match x, y with
  | .ref i, .int k => match lstAt h i with
    | some xs => match ixN xs.length k with
      | some j => some (h.put i (.lst (xs.set j v)))
      | none => none
    | none => none
  | _, _ => none
def sPutL (fd fk fv : EvF) : EvS := fun ρ h => bindE (fv ρ h) ρ fun v h1 => bindE (fd ρ h1) ρ fun x h2 => bindE (fk ρ h2) ρ fun y h3 => match storeL x y v h3 with
  | some h4 => .nx ρ h4
  | none => .bad
theorem lstAt_get {h : Hh} {i : Nat} {xs : List AV} (z : lstAt h i = some xs) : h.get i = some (.lst xs) := by
  unfold lstAt at z
  cases y : h.get i with
  | none => simp only [y] at z; cases z
  | some o =>
    cases o with
    | lst ys => simp only [y] at z; cases z; rfl
    | dk _ => simp only [y] at z; cases z
    | dt _ => simp only [y] at z; cases z
    | fk _ => simp only [y] at z; cases z
theorem s_putL {td ty tv : TE} {fd fk fv : EvF} (hd : Pe F W td fd) (hk : Pe F W ty fk) (hv : Pe F W tv fv) : Pst F W (tAsg tv (L2.gSub td ty rSetL)) (sPutL fd fk fv) := by
  intro m H h σ ρ D rh rs q
  refine hv m H h σ ρ _ rh rs (okg_imp (okg_stmt rs q) fun v h1 m1 H1 r1 M1 q1 c rc => ?_)
  refine hd m1 H1 h1 σ ρ _ r1 (rs.mono M1) (okg_imp (okg_stmt (rs.mono M1) q1) fun x h2 m2 H2 r2 M2 q2 a ra => ?_)
  have s2 := (rs.mono M1).mono M2
  refine hk m2 H2 h2 σ ρ _ r2 s2 (okg_imp (okg_stmt s2 q2) fun y h3 m3 H3 r3 M3 q3 b rb => ?_)
  cases z : storeL x y v h3 with
  | none => simp only [z] at q3; exact q3.elim
  | some h4 =>
    simp only [z] at q3
    unfold storeL at z
    split at z
    · rename_i i k
      split at z
      · rename_i xs e1
        split at z
        · rename_i j e2
          cases z
          cases rb
          have ra := ra.mono M3
          cases ra with
          | @ref _ p e3 =>
            obtain ⟨us, e4, e5⟩ := lstAt_ok r3 e3 e1
            have ro : RO F m3 H3 (.lst xs) (.lst us) := .lst e5
            have rc' := rc.mono (M2.trans M3)
            have M4 : Mono F m3 H3 m3 (upd H3 p (.lst (us.set j c))) := Mono.write e4 ro.mut
            refine ⟨p, us, k, j, rfl, rfl, e4, by rw [rvs_len e5]; exact e2, ?_⟩
            exact oks_nx (r3.write (lstAt_get e1) e3 e4 ro (.lst (rvs_set rc' j e5))) ((s2.mono M3).mono M4) (oks_mono q3 M4)
        · cases z
      · cases z
    · cases z
def orSo (o o' : So) : So := match o with
  | .bad => o'
  | .nx ρ h => .nx ρ h
  | .bk ρ h => .bk ρ h
  | .ct ρ h => .ct ρ h
  | .rt v h => .rt v h
  | .exc c fs ρ h => .exc c fs ρ h
def sPutU (fd fk fv : EvF) : EvS := fun ρ h => bindE (fv ρ h) ρ fun v h1 => bindE (fd ρ h1) ρ fun x h2 => bindE (fk ρ h2) ρ fun y h3 => match storeA x y v h3 with
  | some h4 => .nx ρ h4
  | none => match storeL x y v h3 with
    | some h4 => .nx ρ h4
    | none => .bad
theorem putU_or {fd fk fv : EvF} (ρ : Sl) (h : Hh) : sPutU fd fk fv ρ h = orSo (sPut fd fk fv ρ h) (sPutL fd fk fv ρ h) := by
  unfold sPutU sPut sPutL
  cases fv ρ h with
  | bad => rfl
  | exc c fs h' => rfl
  | ok v h1 =>
    show bindE (fd ρ h1) ρ _ = orSo (bindE (fd ρ h1) ρ _) (bindE (fd ρ h1) ρ _)
    cases fd ρ h1 with
    | bad => rfl
    | exc c fs h' => rfl
    | ok x h2 =>
      show bindE (fk ρ h2) ρ _ = orSo (bindE (fk ρ h2) ρ _) (bindE (fk ρ h2) ρ _)
      cases fk ρ h2 with
      | bad => rfl
      | exc c fs h' => rfl
      | ok y h3 =>
        unfold bindE
        simp only []
        cases storeA x y v h3 <;> rfl
theorem ps_either {st : Stmt} {t t' : TS} (a : PS X st t) (b : PS X st t') : PS X st (fun D σ H => t D σ H ∨ t' D σ H) := ⟨fun pins s σ H D I h => h.elim (a.run pins s σ H D I) (b.run pins s σ H D I)⟩
theorem cs_putU {o i e : Expr} {pos pos' : Pos} {fd fk fv : EvF} {k : Nat} (hr : Room k X.A) (ho : CE X F W o fd) (hi : CE X F W i fk) (hv : CE X F W e fv) (hs : swapsWith e (some (.Subscript o i pos')) pos.line X.env = pure false := by rfl)
    (hs2 : swapsWithSole [.Subscript o i pos'] e pos.line X.env = pure false := by rfl) (hw : swappedStores [.Subscript o i pos'] e X.env = pure none := by rfl)
    (h1 : (assignEach [.Subscript o i pos'] X.env).map (·.2) = [assign (.Subscript o i pos') X.env] := by rfl)
    (has : ∀ v, assign (.Subscript o i pos') X.env v = (do
      let ov ← holding [v] (eval o X.env)
      let iv ← holding [v, ov] (eval i X.env)
      standAt pos'
      holding [v, ov, iv] (setItem ov iv v)
      release [v, ov, iv] []) := by intro _; rfl) : CS X F W (.Assign [.Subscript o i pos'] e pos) (sPutU fd fk fv) := by
  refine cs (ps_either (ps_dput (by have := hr.un; omega) ho hi hv hs) (ps_asg hv (pg_sub ho hi set_list has) hs2 hw h1)) fun m H h σ ρ D rh rs q => ?_
  rw [putU_or] at q
  have a := s_put (W := W) (rdE_ok fd) (rdE_ok fk) (rdE_ok fv) m H h σ ρ D rh rs
  have b := s_putL (W := W) (rdE_ok fd) (rdE_ok fk) (rdE_ok fv) m H h σ ρ D rh rs
  cases e : sPut fd fk fv ρ h with
  | bad => rw [e] at q; exact .inr (b q)
  | nx ρ' h' => rw [e] at q a; exact .inl (a q)
  | bk ρ' h' => rw [e] at q a; exact .inl (a q)
  | ct ρ' h' => rw [e] at q a; exact .inl (a q)
  | rt v' h' => rw [e] at q a; exact .inl (a q)
  | exc c fs ρ' h' => rw [e] at q a; exact .inl (a q)
end
end DI

set_option Elab.async false
set_option linter.all false
set_option maxRecDepth 100000
set_option maxHeartbeats 4000000
/-! list comprehensions with two for -/
namespace DI
open PySem PySem.Spec PyProof.Rows L2 GxR RZ
def addTo (d : Nat) (y : AV) (h : Hh) : Option Hh := match lstAt h d with
  | some acc => if acc.length < most then some (h.put d (.lst (acc ++ [y]))) else none
  | none => none
section
variable {X : Cx} {F : Fx} {W : WX'}
theorem addTo_ok {m : List Addr} {H : Hp} {h h2 : Hh} {d : Nat} {D : Addr} {y : AV} {u : V} (rh : RH F m h H) (eD : m[d]? = some D) (ru : RV F m H y u) (e : addTo d y h = some h2) :
    ∃ us, H D = some (.lst us) ∧ us.length < sizeLine ∧ RH F m h2 (upd H D (.lst (us ++ [u]))) ∧ Mono F m H m (upd H D (.lst (us ++ [u]))) := by
  unfold addTo at e
  split at e
  · rename_i acc z
    split at e
    · rename_i hz
      cases e
      obtain ⟨us, e2, ra⟩ := lstAt_ok rh eD z
      have ro : RO F m H (.lst acc) (.lst us) := .lst ra
      exact ⟨us, e2, by rw [rvs_len ra]; exact few_ok hz, rh.write (lstAt_get z) eD e2 ro (.lst (rvs_app ra (.cons ru .nil))), Mono.write e2 ro.mut⟩
    · cases e
  · cases e
def lcIn (it : AIt) (g : EvG) (ft : EvT) (fe : EvF) (vs : List Nat) (d : Nat) (ρ : Sl) : Nat → Nat → Hh → Out Unit
  | 0, _, _ => .bad
  | n + 1, k, h => match stepA it k h with
    | none => .bad
    | some none => .ok () h
    | some (some x) => match g (wipeS ρ vs) x with
      | none => .bad
      | some ρ1 => bindO (noX (ft ρ1 h)) fun b h1 => if b = true then bindO (noX (fe ρ1 h1)) fun y h2 => match addTo d y h2 with
          | some h3 => lcIn it g ft fe vs d ρ n (k + 1) h3
          | none => .bad
        else lcIn it g ft fe vs d ρ n (k + 1) h1
def lc2L (it : AIt) (g : EvG) (ft : EvT) (fi1 : Sl → Hh → Out AIt) (g1 : EvG) (ft1 : EvT) (fe : EvF) (vs vs1 : List Nat) (d : Nat) (ρ : Sl) : Nat → Nat → Hh → Out AV
  | 0, _, _ => .bad
  | n + 1, k, h => match stepA it k h with
    | none => .bad
    | some none => .ok (.ref d) h
    | some (some x) => match g (wipeS ρ vs) x with
      | none => .bad
      | some ρ1 => bindO (noX (ft ρ1 h)) fun b h1 => if b = true then bindO (noX (fi1 ρ1 h1)) fun it1 h2 => bindO (lcIn it1 g1 ft1 fe vs1 d ρ1 100000 0 h2) fun _ h3 => lc2L it g ft fi1 g1 ft1 fe vs vs1 d ρ n (k + 1) h3
        else lc2L it g ft fi1 g1 ft1 fe vs vs1 d ρ n (k + 1) h1
def xLc2 (fi : Sl → Hh → Out AIt) (g : EvG) (ft : EvT) (fi1 : Sl → Hh → Out AIt) (g1 : EvG) (ft1 : EvT) (fe : EvF) (vs vs1 : List Nat) : EvF := fun ρ h => bindO (fi ρ h) fun it h1 => if h1.n < big then lc2L it g ft fi1 g1 ft1 fe vs vs1 h1.n ρ 100000 0 (h1.new (.lst [])) else .bad
theorem x_lc2 {wi wi1 : TI} {fi fi1 : Sl → Hh → Out AIt} {g g1 : TG} {gf gf1 : EvG} {is is1 vs vs1 : List Nat} {tt tt1 : TT} {ft ft1 : EvT} {te : TE} {fe : EvF} (hi : Pit F W wi fi) (hg : Ptq F g gf is) (hv : ∀ i ∈ is, i ∈ vs) (ht : Ptt F Wno tt ft)
    (hi1 : Pit F Wno wi1 fi1) (hg1 : Ptq F g1 gf1 is1) (hv1 : ∀ i ∈ is1, i ∈ vs1) (ht1 : Ptt F Wno tt1 ft1) (he : Pe F Wno te fe) :
    Pe F W (tLc2 wi g tt wi1 g1 tt1 te vs vs1) (xLc2 fi gf ft fi1 gf1 ft1 fe vs vs1) := by
  intro m H h σ ρ Q rh rs q
  refine hi m H h σ ρ _ rh rs (okg_imp (okg_bind q) fun it h1 m1 H1 r1 M1 q1 J ij D nD => ?_)
  by_cases hb : h1.n < big
  · rw [if_pos hb] at q1
    have M2 : Mono F m1 H1 (m1 ++ [D]) (upd H1 D (.lst [])) := Mono.new nD
    have r2 : RH F (m1 ++ [D]) (h1.new (.lst [])) (upd H1 D (.lst [])) := r1.new nD hb (.lst .nil)
    have eD : (m1 ++ [D])[h1.n]? = some D := by rw [← r1.len, List.getElem?_append_right (Nat.le_refl _)]; simp
    refine ⟨fun i n H' => ∃ m' h', RH F m' h' H' ∧ Mono F (m1 ++ [D]) (upd H1 D (.lst [])) m' H' ∧ OkG F m' H' (lc2L it gf ft fi1 gf1 ft1 fe vs vs1 h1.n ρ n i h') (PV F Q) (fun c d H' => W c d σ H'), ⟨100000, _, _, r2, Mono.refl _ _, okg_mono q1 M2⟩, fun i n H2 ⟨m2, h2, r3, M3, q2⟩ => ?_⟩
    cases n with
    | zero => exact q2.elim
    | succ n =>
      unfold lc2L at q2
      have Mall := M2.trans M3
      obtain ⟨st, yl⟩ := ij m2 h2 H2 i r3 Mall
      cases z : stepA it i h2 with
      | none => simp only [z] at q2; exact q2.elim
      | some o =>
        cases o with
        | none => simp only [z] at q2; exact .inl ⟨st z, okg_ok r3 q2 _ (.ref (pre_get M3.pre eD))⟩
        | some x =>
          simp only [z] at q2
          obtain ⟨go, yl⟩ := yl x z
          refine .inr ⟨go, fun H' => ∃ m' h', RH F m' h' H' ∧ Mono F (m1 ++ [D]) (upd H1 D (.lst [])) m' H' ∧ OkG F m' H' (lc2L it gf ft fi1 gf1 ft1 fe vs vs1 h1.n ρ n (i + 1) h') (PV F Q) (fun c d H' => W c d σ H'), fun H' w => ⟨n, Nat.lt_succ_self n, w⟩, fun v H3 y => ?_⟩
          obtain ⟨r4, M4, rx⟩ := yl v H3 y
          cases zg : gf (wipeS ρ vs) x with
          | none => simp only [zg] at q2; exact q2.elim
          | some ρ3 =>
            simp only [zg] at q2
            have s3 : RS F m2 H3 (wipeS ρ vs) (L2.wipe σ vs) := ((rs.mono (M1.trans Mall)).mono M4).wipe vs
            refine hg m2 H3 _ _ x v _ s3 rx ⟨ρ3, zg, fun σ3 s3 w3 => ⟨?_, ?_⟩⟩
            · rw [w3 vs hv, wipe_twice fun _ h => h]
            · refine ht m2 H3 h2 σ3 ρ3 _ r4 s3 (okg_imp (okg_nox (okg_bind (okg_mono q2 M4))) fun b h4 m4 H4 r5 M5 q4 => ?_)
              cases b with
              | false => exact ⟨m4, h4, r5, M3.trans (M4.trans M5), q4⟩
              | true =>
                have s5 := s3.mono M5
                refine hi1 m4 H4 h4 σ3 ρ3 _ r5 s5 (okg_imp (okg_nox (okg_bind q4)) fun it1 h5 m5 H5 r6 M6 q5 J1 ij1 => ?_)
                have M7 := M3.trans (M4.trans (M5.trans M6))
                refine ⟨fun j k H' => ∃ m' h', RH F m' h' H' ∧ Mono F m5 H5 m' H' ∧ OkG F m' H' (bindO (lcIn it1 gf1 ft1 fe vs1 h1.n ρ3 k j h') fun _ h3 => lc2L it gf ft fi1 gf1 ft1 fe vs vs1 h1.n ρ n (i + 1) h3) (PV F Q) (fun c d H' => W c d σ H'), ⟨100000, _, _, r6, Mono.refl _ _, q5⟩, fun j k H6 ⟨m6, h6, r7, M8, q6⟩ => ?_⟩
                cases k with
                | zero => exact q6.elim
                | succ k =>
                  unfold lcIn at q6
                  obtain ⟨st1, yl1⟩ := ij1 m6 h6 H6 j r7 M8
                  cases z1 : stepA it1 j h6 with
                  | none => simp only [z1] at q6; exact q6.elim
                  | some o1 =>
                    cases o1 with
                    | none => simp only [z1] at q6; exact .inl ⟨st1 z1, m6, h6, r7, M7.trans M8, q6⟩
                    | some x1 =>
                      simp only [z1] at q6
                      obtain ⟨go1, yl1⟩ := yl1 x1 z1
                      refine .inr ⟨go1, fun H' => ∃ m' h', RH F m' h' H' ∧ Mono F m5 H5 m' H' ∧ OkG F m' H' (bindO (lcIn it1 gf1 ft1 fe vs1 h1.n ρ3 k (j + 1) h') fun _ h3 => lc2L it gf ft fi1 gf1 ft1 fe vs vs1 h1.n ρ n (i + 1) h3) (PV F Q) (fun c d H' => W c d σ H'), fun H' w => ⟨k, Nat.lt_succ_self k, w⟩, fun v1 H7 y1 => ?_⟩
                      obtain ⟨r8, M9, rx1⟩ := yl1 v1 H7 y1
                      cases zg1 : gf1 (wipeS ρ3 vs1) x1 with
                      | none => simp only [zg1] at q6; exact q6.elim
                      | some ρ4 =>
                        simp only [zg1] at q6
                        have s6 : RS F m6 H7 (wipeS ρ3 vs1) (L2.wipe σ3 vs1) := (s5.mono (M6.trans (M8.trans M9))).wipe vs1
                        refine hg1 m6 H7 _ _ x1 v1 _ s6 rx1 ⟨ρ4, zg1, fun σ4 s7 w4 => ⟨?_, ?_⟩⟩
                        · rw [w4 vs1 hv1, wipe_twice fun _ h => h]
                        · have q7 := okg_mono q6 M9
                          have assoc : ∀ {α β γ : Type} (o : Out α) (k1 : α → Hh → Out β) (k2 : β → Hh → Out γ), bindO (bindO o k1) k2 = bindO o fun a h => bindO (k1 a h) k2 := fun o k1 k2 => by cases o <;> rfl
                          rw [assoc] at q7
                          refine ht1 m6 H7 h6 σ4 ρ4 _ r8 s7 (okg_imp (okg_nox (okg_bind q7)) fun b1 h8 m8 H8 r9 M10 q8 => ?_)
                          have M11 := M8.trans (M9.trans M10)
                          cases b1 with
                          | false => exact ⟨m8, h8, r9, M11, q8⟩
                          | true =>
                            have q8 : OkG F m8 H8 (bindO (bindO (noX (fe ρ4 h8)) _) _) (PV F Q) (fun c d H' => W c d σ H') := q8
                            rw [assoc] at q8
                            refine he m8 H8 h8 σ4 ρ4 _ r9 (s7.mono M10) (okg_imp (okg_nox (okg_bind q8)) fun y2 h9 m9 H9 r10 M12 q9 u ru => ?_)
                            have M13 := M11.trans M12
                            cases za : addTo h1.n y2 h9 with
                            | none => simp only [za] at q9; exact q9.elim
                            | some h10 =>
                              simp only [za] at q9
                              obtain ⟨us, e1, e2, e3, e4⟩ := addTo_ok r10 (pre_get (M7.trans M13).pre eD) ru za
                              exact ⟨us, e1, e2, m9, h10, e3, M13.trans e4, okg_mono q9 e4⟩
  · rw [if_neg hb] at q1; exact q1.elim
end
section
variable {X : Cx} {F : Fx} {W : WX'}
theorem ce_lc2 {elt tg iter tg1 iter1 : Expr} {ifs ifs1 : List Expr} {scope : Scope} {own : List (Str × Nat)} {pos : Pos} {fi fi1 : Sl → Hh → Out AIt} {g g1 : EvG} {is is1 : List Nat} {ft ft1 : EvT} {fe : EvF} (vs1 : List Nat) (hc : X.calm = true) (hN : X.N.Nodup) (hi : CI X F W tg iter fi) (ok : BlkOk X.N X.env.scope scope own)
    (hv' : ∀ i ∈ vs1, i ∈ own.map (·.2)) (hg : CGb X F scope tg g is) (hv : ∀ i ∈ is, i ∈ own.map (·.2))
    (ht : ∀ (s : Shared) (H : Hp) (C : Addr) (cl : List (Str × Addr)) (fp : List Addr), CTs (X.blk s H scope (compEnvC scope cl C X.env) fp) F Wno ifs ft)
    (hi1 : ∀ (s : Shared) (H : Hp) (C : Addr) (cl : List (Str × Addr)) (fp : List Addr), CI (X.blk s H scope (compEnvC scope cl C X.env) fp) F Wno tg1 iter1 fi1) (hg1 : CGb X F scope tg1 g1 is1) (hv1 : ∀ i ∈ is1, i ∈ vs1)
    (ht1 : ∀ (s : Shared) (H : Hp) (C : Addr) (cl : List (Str × Addr)) (fp : List Addr), CTs (X.blk s H scope (compEnvC scope cl C X.env) fp) F Wno ifs1 ft1)
    (he : ∀ (s : Shared) (H : Hp) (C : Addr) (cl : List (Str × Addr)) (fp : List Addr), CE (X.blk s H scope (compEnvC scope cl C X.env) fp) F Wno elt fe) (hs : ∀ x, foldedSetIterable iter X.env x = pure x := by intro _; rfl) (hs1 : ∀ env x, foldedSetIterable iter1 env x = pure x := by intro _ _; rfl) :
    CE X F W (.ListComp elt [⟨tg, iter, ifs, 0⟩, ⟨tg1, iter1, ifs1, 0⟩] scope pos) (xLc2 fi g ft fi1 g1 ft1 fe (own.map (·.2)) vs1) := by
  obtain ⟨t, a1, a2⟩ := hg
  obtain ⟨t1, b1, b2⟩ := hg1
  exact ce (pe_lc2 hc hN hi ok hv' a1 ht hi1 b1 ht1 he hs hs1) (x_lc2 (rdI_ok fi) a2 hv (rdT_ok ft) (rdI_ok fi1) b2 hv1 (rdT_ok ft1) (rdE_ok fe))
theorem cs_setLc2 {i : Nat} {y : Str} {py : Pos} {elt tg iter tg1 iter1 : Expr} {ifs ifs1 : List Expr} {scope : Scope} {own : List (Str × Nat)} {pos spos : Pos} {fi fi1 : Sl → Hh → Out AIt} {g g1 : EvG} {is is1 : List Nat} {ft ft1 : EvT} {fe : EvF} (vs1 : List Nat) (hc : X.calm = true) (hN : X.N.Nodup) (hy : X.N[i]? = some y) (hyl : X.env.scope.names.lookup y = some .local)
    (hsw : swapsWith (.ListComp elt [⟨tg, iter, ifs, 0⟩, ⟨tg1, iter1, ifs1, 0⟩] scope pos) (some (.Name y py)) spos.line X.env = pure true) (hi : CI X F W tg iter fi) (ok : BlkOk X.N X.env.scope scope own)
    (hv' : ∀ i ∈ vs1, i ∈ own.map (·.2)) (hg : CGb X F scope tg g is) (hv : ∀ i ∈ is, i ∈ own.map (·.2))
    (ht : ∀ (s : Shared) (H : Hp) (C : Addr) (cl : List (Str × Addr)) (fp : List Addr), CTs (X.blk s H scope (compEnvC scope cl C X.env) fp) F Wno ifs ft)
    (hi1 : ∀ (s : Shared) (H : Hp) (C : Addr) (cl : List (Str × Addr)) (fp : List Addr), CI (X.blk s H scope (compEnvC scope cl C X.env) fp) F Wno tg1 iter1 fi1) (hg1 : CGb X F scope tg1 g1 is1) (hv1 : ∀ i ∈ is1, i ∈ vs1)
    (ht1 : ∀ (s : Shared) (H : Hp) (C : Addr) (cl : List (Str × Addr)) (fp : List Addr), CTs (X.blk s H scope (compEnvC scope cl C X.env) fp) F Wno ifs1 ft1)
    (he : ∀ (s : Shared) (H : Hp) (C : Addr) (cl : List (Str × Addr)) (fp : List Addr), CE (X.blk s H scope (compEnvC scope cl C X.env) fp) F Wno elt fe) (hs : ∀ x, foldedSetIterable iter X.env x = pure x := by intro _; rfl) (hs1 : ∀ env x, foldedSetIterable iter1 env x = pure x := by intro _ _; rfl) :
    CS X F W (.Assign [.Name y py] (.ListComp elt [⟨tg, iter, ifs, 0⟩, ⟨tg1, iter1, ifs1, 0⟩] scope pos) spos) (sAsg (xLc2 fi g ft fi1 g1 ft1 fe (own.map (·.2)) vs1) (yName i)) := by
  obtain ⟨t, a1, a2⟩ := hg
  obtain ⟨t1, b1, b2⟩ := hg1
  exact cs (ps_setLc2 hc hN hy hyl hsw hi ok hv' a1 ht hi1 b1 ht1 he hs hs1) (s_asg (x_lc2 (rdI_ok fi) a2 hv (rdT_ok ft) (rdI_ok fi1) b2 hv1 (rdT_ok ft1) (rdE_ok fe)) (y_name i))
end
end DI

set_option Elab.async false
set_option linter.all false
set_option maxRecDepth 100000
set_option maxHeartbeats 4000000
/-! written dicts made anew; min, max, count; lists of a dict's keys -/
namespace DI
open PySem PySem.Spec PyProof.Rows L2 GxR RZ
section
variable {X : Cx} {F : Fx} {W : WX'}
/-! ### either of two calls -/
theorem cr_or {f : Value} {r r' : List V → Hp → VK → Prop} (a : CallR X f r) (b : CallR X f r') : CallR X f (fun xs H Q => r xs H Q ∨ r' xs H Q) := fun pins s σ H xs us Q I rx h => h.elim (a pins s σ H xs us Q I rx) (b pins s σ H xs us Q I rx)
def gOrL (g g' : List AV → Hh → Out AV) : List AV → Hh → Out AV := fun xs h => orO (g xs h) (g' xs h)
theorem p_orL {r r' : List V → Hp → VK → Prop} {g g' : List AV → Hh → Out AV} (a : PLs F r g) (b : PLs F r' g') : PLs F (fun xs H Q => r xs H Q ∨ r' xs H Q) (gOrL g g') := by
  intro m H h xs us Q E rh ru q
  unfold gOrL at q
  cases e : g xs h with
  | bad => rw [e] at q; exact .inr (b m H h xs us Q E rh ru q)
  | ok w h' => rw [e] at q; exact .inl (a m H h xs us Q E rh ru (by rw [e]; exact q))
  | exc c fs h' => rw [e] at q; exact .inl (a m H h xs us Q E rh ru (by rw [e]; exact q))
/-! ### min, max of a list of ints -/
def bestI (less : Int → Int → Bool) : List Int → Option Int
  | [] => none
  | x :: r => match bestI less r with
    | none => some x
    | some y => if less y x = true then some y else some x
theorem best_min : ∀ {ns : List Int} {k : Int}, bestI (fun y x => decide (y < x)) ns = some k → k ∈ ns ∧ ∀ y ∈ ns, k ≤ y
  | x :: r, k, e => by
    unfold bestI at e
    cases z : bestI (fun y x => decide (y < x)) r with
    | none =>
      simp only [z] at e
      cases e
      have : r = [] := by
        cases r with
        | nil => rfl
        | cons a b => unfold bestI at z; split at z <;> first | (split at z <;> cases z) | cases z
      subst this
      exact ⟨List.mem_cons_self, fun y hy => by simp at hy; omega⟩
    | some y =>
      simp only [z] at e
      obtain ⟨h1, h2⟩ := best_min z
      split at e
      · rename_i c
        cases e
        have c := of_decide_eq_true c
        exact ⟨List.mem_cons_of_mem _ h1, fun w hw => by
          rcases List.mem_cons.mp hw with rfl | hw
          · omega
          · exact h2 w hw⟩
      · rename_i c
        cases e
        have c : ¬ y < x := fun l => c (decide_eq_true l)
        exact ⟨List.mem_cons_self, fun w hw => by
          rcases List.mem_cons.mp hw with rfl | hw
          · omega
          · have := h2 w hw; omega⟩
theorem best_max : ∀ {ns : List Int} {k : Int}, bestI (fun y x => decide (x < y)) ns = some k → k ∈ ns ∧ ∀ y ∈ ns, y ≤ k
  | x :: r, k, e => by
    unfold bestI at e
    cases z : bestI (fun y x => decide (x < y)) r with
    | none =>
      simp only [z] at e
      cases e
      have : r = [] := by
        cases r with
        | nil => rfl
        | cons a b => unfold bestI at z; split at z <;> first | (split at z <;> cases z) | cases z
      subst this
      exact ⟨List.mem_cons_self, fun y hy => by simp at hy; omega⟩
    | some y =>
      simp only [z] at e
      obtain ⟨h1, h2⟩ := best_max z
      split at e
      · rename_i c
        cases e
        have c := of_decide_eq_true c
        exact ⟨List.mem_cons_of_mem _ h1, fun w hw => by
          rcases List.mem_cons.mp hw with rfl | hw
          · omega
          · exact h2 w hw⟩
      · rename_i c
        cases e
        have c : ¬ x < y := fun l => c (decide_eq_true l)
        exact ⟨List.mem_cons_self, fun w hw => by
          rcases List.mem_cons.mp hw with rfl | hw
          · omega
          · have := h2 w hw; omega⟩
def gBest (less : Int → Int → Bool) : AV → Hh → Out AV := fun x h => match lstA x h with
  | some xs => match mapO asInt xs with
    | some ns => match bestI less ns with
      | some k => .ok (.int k) h
      | none => .bad
    | none => .bad
  | none => .bad
theorem best_ok {less : Int → Int → Bool} {m : List Addr} {H : Hp} {h : Hh} {x : AV} {u : V} {P : AV → Hh → List Addr → Hp → Prop} {E : XK} (rh : RH F m h H) (ru : RV F m H x u) (q : OkG F m H (gBest less x h) P E) :
    ∃ (a : Addr) (ns : List Int) (k : Int), u = .ref a ∧ SqL F.K H a (ns.map V.int) ∧ bestI less ns = some k ∧ P (.int k) h m H := by
  unfold gBest at q
  split at q
  · split at q
    · split at q
      · rename_i _ ys e _ ns e2 _ k e3
        obtain ⟨i, a, vs, rfl, _, _, rfl, ha, ra⟩ := lstA_ok rh ru e
        exact ⟨a, ns, k, rfl, .inl (.inl (by rw [← ints_ok ra e2]; exact ha)), e3, okg_ok rh q⟩
      · exact q.elim
    · exact q.elim
  · exact q.elim
theorem p_minL : PLs F (rMin F.K) (g1 (gBest fun y x => decide (y < x))) := by
  intro m H h xs us Q E rh r q0
  obtain ⟨x, u, rfl, rfl, rx, q⟩ := one_ok r q0
  obtain ⟨a, ns, k, rfl, hs, e, q⟩ := best_ok rh rx q
  obtain ⟨b1, b2⟩ := best_min e
  refine ⟨a, ns, rfl, hs, List.length_pos_of_mem b1, fun w hw hl => ?_⟩
  have : w = k := Int.le_antisymm (hl k b1) (b2 w hw)
  subst this
  exact q _ (.int _)
theorem p_maxL : PLs F (rMax F.K) (g1 (gBest fun y x => decide (x < y))) := by
  intro m H h xs us Q E rh r q0
  obtain ⟨x, u, rfl, rfl, rx, q⟩ := one_ok r q0
  obtain ⟨a, ns, k, rfl, hs, e, q⟩ := best_ok rh rx q
  obtain ⟨b1, b2⟩ := best_max e
  refine ⟨a, ns, rfl, hs, List.length_pos_of_mem b1, fun w hw hl => ?_⟩
  have : w = k := Int.le_antisymm (b2 w hw) (hl k b1)
  subst this
  exact q _ (.int _)
def gMinU := gOrL gMin (g1 (gBest fun y x => decide (y < x)))
def gMaxU := gOrL gMax (g1 (gBest fun y x => decide (x < y)))
theorem ce_min {p pos : Pos} {e : Expr} {es : List Expr} {fa : EvA} (hK : X.K = F.K) (hc : X.calm = true) (hg : Gl X "min") (hm : X.mg "min" = none) (ha : CA X F W (e :: es) fa)
    (he : starEach (e :: es) X.env = (false, eval e X.env) :: starEach es X.env := by rfl) (hpl : (backTo pos (starEach es X.env)).any (·.1) = false := by rfl) : CE X F W (.Call (.Name "min" p) (e :: es) [] pos) (xA gMinU fa) :=
  ce_callB (cr_or (call_min2 hc) (cr_min hc)) (p_orL p_2I (by rw [hK]; exact p_minL)) hg hm (by decide +kernel) ha (by decide) (by decide) he hpl
theorem ce_max {p pos : Pos} {e : Expr} {es : List Expr} {fa : EvA} (hK : X.K = F.K) (hc : X.calm = true) (hg : Gl X "max") (hm : X.mg "max" = none) (ha : CA X F W (e :: es) fa)
    (he : starEach (e :: es) X.env = (false, eval e X.env) :: starEach es X.env := by rfl) (hpl : (backTo pos (starEach es X.env)).any (·.1) = false := by rfl) : CE X F W (.Call (.Name "max" p) (e :: es) [] pos) (xA gMaxU fa) :=
  ce_callB (cr_or (call_max2 hc) (cr_max hc)) (p_orL p_2I (by rw [hK]; exact p_maxL)) hg hm (by decide +kernel) ha (by decide) (by decide) he hpl
/-! ### a dict written out -/
def pairsX : List (EvF × EvF) → Sl → Hh → Out (List (AV × AV))
  | [], _, h => .ok [] h
  | (fk, fv) :: r, ρ, h => bindO (fk ρ h) fun x h1 => bindO (fv ρ h1) fun y h2 => bindO (pairsX r ρ h2) fun ps h3 => .ok ((x, y) :: ps) h3
inductive RPs (F : Fx) (m : List Addr) (H : Hp) : List (AV × AV) → List (V × V) → Prop
  | nil : RPs F m H [] []
  | cons {x y : AV} {u v : V} {ps : List (AV × AV)} {us : List (V × V)} : RV F m H x u → RV F m H y v → RPs F m H ps us → RPs F m H ((x, y) :: ps) ((u, v) :: us)
inductive PPe (F : Fx) (W : WX') : List (TE × TE) → List (EvF × EvF) → Prop
  | nil : PPe F W [] []
  | cons {tk tv : TE} {fk fv : EvF} {r : List (TE × TE)} {s : List (EvF × EvF)} : Pe F W tk fk → Pe F W tv fv → PPe F W r s → PPe F W ((tk, tv) :: r) ((fk, fv) :: s)
theorem x_pairs : ∀ {trs : List (TE × TE)} {fs : List (EvF × EvF)}, PPe F W trs fs → ∀ m H h σ ρ (Q : List (V × V) → Hp → Prop), RH F m h H → RS F m H ρ σ →
    OkG F m H (pairsX fs ρ h) (fun ps _ m' H' => ∀ us, RPs F m' H' ps us → Q us H') (fun c d H' => W c d σ H') → tPairs trs σ H Q
  | _, _, .nil, m, H, h, σ, ρ, Q, rh, rs, q => okg_ok rh q [] .nil
  | _, _, .cons hk hv r, m, H, h, σ, ρ, Q, rh, rs, q => by
    refine hk m H h σ ρ _ rh rs (okg_imp (okg_bind q) fun x h1 m1 H1 r1 M1 q1 u ru => ?_)
    refine hv m1 H1 h1 σ ρ _ r1 (rs.mono M1) (okg_imp (okg_bind q1) fun y h2 m2 H2 r2 M2 q2 v rv => ?_)
    refine x_pairs r m2 H2 h2 σ ρ _ r2 ((rs.mono M1).mono M2) (okg_imp (okg_bind q2) fun ps h3 m3 H3 r3 M3 q3 us rus => ?_)
    exact okg_ok r3 q3 _ (.cons (ru.mono (M2.trans M3)) (rv.mono M3) rus)
def keyed : List (AV × AV) → Option (List (Key × AV))
  | [] => some []
  | (x, y) :: r => match keyA x with
    | some k => match keyed r with
      | some ks => some ((k, y) :: ks)
      | none => none
    | none => none
theorem keyed_ok {m : List Addr} {H : Hp} : ∀ {ps : List (AV × AV)} {us : List (V × V)} {ks : List (Key × AV)}, RPs F m H ps us → keyed ps = some ks → ∃ kvs : List (Key × V), us = kvs.map (fun kv => (kV kv.1, kv.2)) ∧ RKV (F := F) m H ks kvs
  | _, _, _, .nil, e => by cases e; exact ⟨[], rfl, .nil⟩
  | _, _, _, .cons rx ry r, e => by
    unfold keyed at e
    split at e
    · split at e
      · rename_i k e1 _ ks e2
        cases e
        obtain ⟨kvs, h1, h2⟩ := keyed_ok r e2
        exact ⟨(k, _) :: kvs, by rw [h1, keyA_ok rx e1]; rfl, .cons ry h2⟩
      · cases e
    · cases e
def mergeA (kvs more : List (Key × AV)) : List (Key × AV) := more.foldl (fun acc kv => putA kv.1 kv.2 acc) kvs
theorem mergeA_ok {m : List Addr} {H : Hp} : ∀ {more : List (Key × AV)} {mu : List (Key × V)} {kvs : List (Key × AV)} {us : List (Key × V)}, RKV (F := F) m H more mu → RKV (F := F) m H kvs us → RKV (F := F) m H (mergeA kvs more) (mergeK us mu)
  | _, _, _, _, .nil, q => q
  | _, _, _, _, @RKV.cons _ _ _ _ k _ _ _ _ h t, q => by
    have r := mergeA_ok t (putA_ok (k := k) h q)
    exact r
def xDisp (fs : List (EvF × EvF)) : EvF := fun ρ h => if h.n < big then bindO (pairsX fs ρ (h.new (.dk []))) fun ps h1 => match h1.get h.n, keyed ps with
    | some (.dk []), some ks => if ks.length ≤ 15 then .ok (.ref h.n) (h1.put h.n (.dk (mergeA [] ks))) else .bad
    | _, _ => .bad
  else .bad
theorem x_disp {trs : List (TE × TE)} {fs : List (EvF × EvF)} (hp : PPe F W trs fs) : Pe F W (tDisp trs) (xDisp fs) := by
  intro m H h σ ρ Q rh rs q p np
  unfold xDisp at q
  split at q
  · rename_i hb
    have M0 : Mono F m H (m ++ [p]) (upd H p (.dK [])) := Mono.new np
    have r0 : RH F (m ++ [p]) (h.new (.dk [])) (upd H p (.dK [])) := rh.new np hb (.dk .nil)
    have eD : (m ++ [p])[h.n]? = some p := by rw [← rh.len, List.getElem?_append_right (Nat.le_refl _)]; simp
    refine x_pairs hp _ _ _ σ ρ _ r0 (rs.mono M0) (okg_imp (okg_bind (okg_mono q M0)) fun ps h1 m1 H1 r1 M1 q1 us rus => ?_)
    split at q1
    · rename_i ks e1 e2
      split at q1
      · rename_i hz
        obtain ⟨a, w, g1', g2, g3⟩ := r1.of e1
        rw [pre_get M1.pre eD] at g1'; cases g1'
        cases g3 with
        | dk g4 =>
          cases g4
          obtain ⟨kvs, k1, k2⟩ := keyed_ok rus e2
          have ro : RO F m1 H1 (.dk []) (.dK []) := .dk .nil
          have M2 : Mono F m1 H1 m1 (upd H1 p (.dK (mergeK [] kvs))) := Mono.write g2 ro.mut
          refine ⟨g2, kvs, k1, by rw [rkv_len k2]; exact hz, ?_⟩
          exact okg_at q1 (r1.write e1 (pre_get M1.pre eD) g2 ro (.dk (mergeA_ok k2 .nil))) M2 _ (.ref (pre_get M1.pre eD))
      · exact q1.elim
    · exact q1.elim
  · exact q.elim
/-! ### xs.count(k) -/
def xCount (fo : EvF) (fa : EvA) : EvF := fun ρ h => bindO (fo ρ h) fun x h1 => match lstA x h1 with
  | none => .bad
  | some _ => bindO (fa ρ h1) fun vs h2 => match vs, lstA x h2 with
    | [.int k], some xs => match mapO asInt xs with
      | some ns => .ok (.int ((ns.count k : Nat) : Int)) h2
      | none => .bad
    | _, _ => .bad
theorem x_count {to : TE} {t : TA} {fo : EvF} {fa : EvA} (ho : Pe F W to fo) (ha : Paa F W t fa) : Pe F W (tBM F.K "list" (rCntI F.K) to t) (xCount fo fa) := by
  intro m H h σ ρ Q rh rs q
  refine ho m H h σ ρ _ rh rs (okg_imp (okg_bind q) fun x h1 m1 H1 r1 M1 q1 u ru => ?_)
  cases z : lstA x h1 with
  | none => simp only [z] at q1; exact q1.elim
  | some xs =>
    simp only [z] at q1
    obtain ⟨i, a, us, rfl, _, ei, rfl, e2, _⟩ := lstA_ok r1 ru z
    refine ⟨.inl ⟨rfl, us, .inl (.inl e2)⟩, ?_⟩
    refine ha m1 H1 h1 σ ρ _ r1 (rs.mono M1) (okg_imp (okg_bind q1) fun vs h2 m2 H2 r2 M2 q2 ws rw' => ?_)
    split at q2
    · split at q2
      · rename_i k ys e4 _ ns e5
        obtain ⟨i', a', us', e6, _, _, e7, e8, ra⟩ := lstA_ok r2 (ru.mono M2) e4
        cases e7
        cases rw' with
        | cons rv rr =>
          cases rr
          cases rv
          exact ⟨a, ns, k, rfl, rfl, .inl (.inl (by rw [← ints_ok ra e5]; exact e8)), okg_ok r2 q2 _ (.int _)⟩
      · exact q2.elim
    · exact q2.elim
theorem ce_count {o e : Expr} {apos cpos : Pos} {fo : EvF} {fa : EvA} (hK : X.K = F.K) (ho : CE X F W o fo) (ha : CA X F W [e] fa) (hbase : attributeBase o "count" X.env (eval o X.env) = eval o X.env := by rfl)
    (hfew : ((backTo cpos (starEach (e :: []) X.env)).all (fun x => !x.1) && (backToKw cpos (keywordEach [] X.env)).all (fun x => x.1.isSome) && decide ((e :: []).length + ([] : List Keyword).length + (if ([] : List Keyword).isEmpty then 0 else 1) < 30)) = true := by rfl)
    (hline : (apos.endLine == cpos.line) = true := by rfl) (hs : starEach (e :: []) X.env = (false, eval e X.env) :: starEach [] X.env := by rfl) (hplain : (backTo cpos (starEach [] X.env)).any (·.1) = false := by rfl) :
    CE X F W (.Call (.Attribute o "count" apos) [e] [] cpos) (xCount fo fa) := by
  refine ce (pe_bm PySem.F.plainAttrs_list PySem.F.slot_list_count PySem.F.type_list_count mt_lcount ho ha hbase hfew hline hs hplain) ?_
  rw [hK]
  exact x_count (rdE_ok fo) (rdA_ok fa)
end
end DI

set_option Elab.async false
set_option linter.all false
set_option maxRecDepth 100000
set_option maxHeartbeats 4000000
/-! powers; dict(pairs); a dict's keys as a list -/
namespace DI
open PySem PySem.Spec PyProof.Rows L2 GxR RZ
section
variable {X : Cx} {F : Fx} {W : WX'}
def gPow := gIIc (fun i j => decide (0 ≤ j ∧ j ≤ 1000000 ∧ i.natAbs < 2 ^ 64)) fun i j => .int (i ^ j.toNat)
theorem p_pow : P2 F (rI CPow fun i j => .int (i ^ j.toNat)) gPow := p_iic (fun i j h => by have h := of_decide_eq_true h; exact h) fun _ _ _ _ => .int _
def gShl := gIIc (fun i j => decide (0 ≤ j ∧ j ≤ 1000000 ∧ i.natAbs < 2 ^ 64)) fun i j => .int (i * 2 ^ j.toNat)
theorem p_shl : P2 F (rI CPow fun i j => .int (i * 2 ^ j.toNat)) gShl := p_iic (fun i j h => by have h := of_decide_eq_true h; exact h) fun _ _ _ _ => .int _
/-! ### dict(pairs) -/
def pairA : AV → Option (AV × AV)
  | .tup [x, y] => some (x, y)
  | _ => none
theorem pairs_ok {m : List Addr} {H : Hp} : ∀ {xs : List AV} {us : List V} {ps : List (AV × AV)} {ks : List (Key × AV)}, RVs F m H xs us → mapO pairA xs = some ps → keyed ps = some ks →
    ∃ (qs : List Addr) (kvs : List (Key × V)), us = qs.map V.ref ∧ Paired (fun (p : Addr) (kv : Key × V) => SqT F.K H p [kV kv.1, kv.2]) qs kvs ∧ RKV (F := F) m H ks kvs
  | _, _, _, _, .nil, e, e2 => by cases e; cases e2; exact ⟨[], [], rfl, .nil, .nil⟩
  | x :: r, _, _, ks, .cons rx rr, e, e2 => by
    unfold mapO at e
    cases z1 : pairA x with
    | none => simp only [z1] at e; cases e
    | some y =>
      cases z2 : mapO pairA r with
      | none => simp only [z1, z2] at e; cases e
      | some ys =>
        simp only [z1, z2] at e
        cases e
        obtain ⟨k0, v0⟩ := y
        unfold keyed at e2
        split at e2
        · split at e2
          · rename_i k e3 _ ks' e4
            cases e2
            obtain ⟨qs, kvs, h1, h2, h3⟩ := pairs_ok rr z2 e4
            unfold pairA at z1
            split at z1
            · cases z1
              cases rx with
              | tup g1 g2 =>
                cases g2 with
                | cons ra rb =>
                  cases rb with
                  | cons rb rc =>
                    cases rc
                    rename_i a _ ub
                    refine ⟨_ :: qs, (k, _) :: kvs, by rw [h1]; rfl, .cons (.inl (.inl ?_)) h2, .cons rb h3⟩
                    rw [g1, keyA_ok ra e3]
            · cases z1
          · cases e2
        · cases e2
def gDictP : AV → Hh → Out AV := fun x h => match lstA x h with
  | some xs => match mapO pairA xs with
    | some ps => match keyed ps with
      | some ks => mkO (.dk (mergeA [] ks)) h
      | none => .bad
    | none => .bad
  | none => .bad
theorem p_dictP : PLs F (fun xs H Q => ∃ (a : Addr) (ps : List Addr) (kvs : List (Key × V)), xs = [.ref a] ∧ SqL F.K H a (ps.map V.ref) ∧ Paired (fun p kv => SqT F.K H p [kV kv.1, kv.2]) ps kvs ∧
    ∀ p, H p = none → Q (.ref p) (upd H p (.dK (mergeK [] kvs)))) (g1 gDictP) := by
  intro m H h xs us Q E rh r q0
  obtain ⟨x, u, rfl, rfl, rx, q⟩ := one_ok r q0
  clear q0
  unfold gDictP at q
  split at q
  · split at q
    · split at q
      · rename_i _ ys e _ ps e2 _ ks e3
        obtain ⟨i, a, vs, rfl, _, _, rfl, ha, ra⟩ := lstA_ok rh rx e
        obtain ⟨qs, kvs, h1, h2, h3⟩ := pairs_ok ra e2 e3
        exact ⟨a, qs, kvs, rfl, .inl (.inl (by rw [← h1]; exact ha)), h2, mkO_ok rh (.dk (mergeA_ok h3 .nil)) q⟩
      · exact q.elim
    · exact q.elim
  · exact q.elim
/-! ### a dict's keys -/
def dkA (x : AV) (h : Hh) : Option (List (Key × AV)) := match x with
  | .ref i => match h.get i with
    | some (.dk kvs) => some kvs
    | _ => none
  | _ => none
theorem dkA_ok {m : List Addr} {H : Hp} {h : Hh} {x : AV} {u : V} {kvs : List (Key × AV)} (rh : RH F m h H) (r : RV F m H x u) (e : dkA x h = some kvs) : ∃ (a : Addr) (us : List (Key × V)), u = .ref a ∧ H a = some (.dK us) ∧ RKV (F := F) m H kvs us := by
  cases x <;> first | cases e; done | skip
  rename_i i
  unfold dkA at e
  cases z : h.get i with
  | none => simp only [z] at e; cases e
  | some o =>
    obtain ⟨a, w, rfl, e1, e2, e3⟩ := r.at_ rh z
    cases o with
    | lst zs => simp only [z] at e; cases e
    | dt _ => simp only [z] at e; cases e
    | fk _ => simp only [z] at e; cases e
    | dk zs => simp only [z] at e; cases e; cases e3 with | dk q => exact ⟨a, _, rfl, e2, q⟩
theorem rkv_keys {m : List Addr} {H : Hp} : ∀ {xs : List (Key × AV)} {us : List (Key × V)}, RKV (F := F) m H xs us → us.map (·.1) = xs.map (·.1)
  | _, _, .nil => rfl
  | _, _, .cons _ t => by rw [List.map_cons, List.map_cons, rkv_keys t]
theorem rv_keys {m : List Addr} {H : Hp} : ∀ {xs : List (Key × AV)} {us : List (Key × V)}, RKV (F := F) m H xs us → RVs F m H (xs.map fun kv => kA kv.1) (us.map fun kv => kV kv.1)
  | _, _, .nil => .nil
  | _, _, @RKV.cons _ _ _ _ k _ _ _ _ _ t => by
    refine .cons ?_ (rv_keys t)
    cases k with
    | inl i => exact .int i
    | inr x => exact .str x
def gListD : AV → Hh → Out AV := fun x h => match dkA x h with
  | some kvs => mkO (.lst (kvs.map fun kv => kA kv.1)) h
  | none => .bad
theorem p_listD : PLs F (fun xs H Q => ∃ (a : Addr) (kvs : List (Key × V)), xs = [.ref a] ∧ Rd H a (.dK kvs) ∧ ∀ p, H p = none → Q (.ref p) (upd H p (.lst (kvs.map fun kv => kV kv.1)))) (g1 gListD) := by
  intro m H h xs us Q E rh r q0
  obtain ⟨x, u, rfl, rfl, rx, q⟩ := one_ok r q0
  clear q0
  unfold gListD at q
  split at q
  · rename_i kvs e
    obtain ⟨a, us, rfl, ha, ra⟩ := dkA_ok rh rx e
    exact ⟨a, us, rfl, .inl ha, mkO_ok rh (.lst (rv_keys ra)) q⟩
  · exact q.elim
def intKey : Key → Option Int
  | .inl i => some i
  | .inr _ => none
theorem intKeys_ok : ∀ {ks : List Key} {ns : List Int}, mapO intKey ks = some ns → ks = ns.map Sum.inl
  | [], _, e => by cases e; rfl
  | k :: r, ns, e => by
    unfold mapO at e
    cases z1 : intKey k with
    | none => simp only [z1] at e; cases e
    | some y =>
      cases z2 : mapO intKey r with
      | none => simp only [z1, z2] at e; cases e
      | some ys =>
        simp only [z1, z2] at e
        cases e
        cases k with
        | inl i => cases z1; rw [intKeys_ok z2]; rfl
        | inr x => cases z1
def gSortD : AV → Hh → Out AV := fun x h => match dkA x h with
  | some kvs => match mapO intKey (kvs.map (·.1)) with
    | some ns => if ns.length < 64 then mkO (.lst ((sortA ns).map .int)) h else .bad
    | none => .bad
  | none => .bad
theorem p_sortD : PLs F (fun xs H Q => ∃ (a : Addr) (kvs : List (Key × V)) (ks : List Int), xs = [.ref a] ∧ Rd H a (.dK kvs) ∧ kvs.map (·.1) = ks.map Sum.inl ∧ ks.length < 64 ∧
    ∀ (ys : List Int) (p : Addr), ys.Perm ks → ys.Pairwise (· ≤ ·) → H p = none → Q (.ref p) (upd H p (.lst (ys.map V.int)))) (g1 gSortD) := by
  intro m H h xs us Q E rh r q0
  obtain ⟨x, u, rfl, rfl, rx, q⟩ := one_ok r q0
  clear q0
  unfold gSortD at q
  split at q
  · split at q
    · split at q
      · rename_i _ kvs e _ ns e2 hz
        obtain ⟨a, us, rfl, ha, ra⟩ := dkA_ok rh rx e
        refine ⟨a, us, ns, rfl, .inl ha, by rw [rkv_keys ra]; exact intKeys_ok e2, hz, fun ys p pm pw np => ?_⟩
        rw [← sort_one' pm pw] at q
        exact mkO_ok rh (.lst (rv_ints ys)) q p np
      · exact q.elim
    · exact q.elim
  · exact q.elim
end
section
variable {X : Cx} {F : Fx} {W : WX'}
def gSortU := gOrL (g1 gSorted) (g1 gSortD)
def gListU := gOrL (g1 gList) (g1 gListD)
theorem ce_sorted {p pos : Pos} {e : Expr} {fa : EvA} (hK : X.K = F.K) (hc : X.calm = true) (hg : Gl X "sorted") (hm : X.mg "sorted" = none) (ha : CA X F W [e] fa)
    (he : starEach (e :: []) X.env = (false, eval e X.env) :: starEach [] X.env := by rfl) (hpl : (backTo pos (starEach [] X.env)).any (·.1) = false := by rfl) : CE X F W (.Call (.Name "sorted" p) [e] [] pos) (xA gSortU fa) :=
  ce_callB (cr_or cr_sortedI (call_sortedDI hc)) (p_orL (by rw [hK]; exact p_sorted) p_sortD) hg hm (by decide +kernel) ha (by decide) (by decide) he hpl
theorem ce_list {p pos : Pos} {e : Expr} {fa : EvA} (hK : X.K = F.K) (hc : X.calm = true) (hg : Gl X "list") (hm : X.mg "list" = none) (ha : CA X F W [e] fa)
    (he : starEach (e :: []) X.env = (false, eval e X.env) :: starEach [] X.env := by rfl) (hpl : (backTo pos (starEach [] X.env)).any (·.1) = false := by rfl) : CE X F W (.Call (.Name "list" p) [e] [] pos) (xA gListU fa) :=
  ce_callTy (cr_or call_list_of (call_listD hc)) (p_orL (by rw [hK]; exact p_list) p_listD) hg hm (by decide +kernel) ha (by decide) (by decide) he hpl
theorem ce_dictP {p pos : Pos} {e : Expr} {fa : EvA} (hK : X.K = F.K) (hc : X.calm = true) (hg : Gl X "dict") (hm : X.mg "dict" = none) (ha : CA X F W [e] fa)
    (he : starEach (e :: []) X.env = (false, eval e X.env) :: starEach [] X.env := by rfl) (hpl : (backTo pos (starEach [] X.env)).any (·.1) = false := by rfl) : CE X F W (.Call (.Name "dict" p) [e] [] pos) (xA (g1 gDictP) fa) :=
  ce_callTy (call_dictP hc) (by rw [hK]; exact p_dictP) hg hm (by decide +kernel) ha (by decide) (by decide) he hpl
end
end DI

set_option Elab.async false
set_option linter.all false
set_option maxRecDepth 100000
set_option maxHeartbeats 4000000
/-! repr; defs that are called where no repr is under way -/
namespace DI
open PySem PySem.Spec PyProof.Rows L2 GxR RZ
section
variable {X : Cx} {F : Fx} {W : WX'}
def rReprD (K : PySem.W.Frag) : List V → Hp → VK → Prop := fun xs H Q => ∃ (v : V) (d : PyData), xs = [v] ∧ Dp K H v d ∧ d.showable = true ∧ d.hasDict = false ∧ d.depth ≤ 64 ∧ d.shown.length ≤ sizeLine ∧ Q (.str d.shown) H
theorem cr_reprD {k : Nat} (hg : X.A.guards = some []) (hr : Room k X.A) : CallR X (.builtin "repr") (rReprD X.K) := by
  intro pins s σ H xs us Q I r h
  obtain ⟨v, d, rfl, hd, h1, h2, h3, h4, q⟩ := h
  obtain ⟨u, hus, rx⟩ := L2.vals1 r
  subst hus
  · have big : ∀ {a : Addr}, v = .ref a → wpAny (model X.prog X.w) X.A (call (.builtin "repr") [u]) (EP X pins σ Q) X.xe s := fun {a} e => by
      subst e
      obtain ⟨as, rd⟩ := Dp.reads I d _ u hd rx
      obtain rfl : u = Value.ref a := rx
      exact PySem.repr_of_reads' rd h1 (fun z => by rw [h2] at z; cases z) hg (by have := hr.un; omega) (fun _ _ e => e) (fun h' u' tk hk => ⟨.str d.shown, H, I.kept (t' := tk) hk, ⟨u', rfl⟩, q⟩) h4
    cases hd with
    | non =>
      obtain rfl : u = Value.none := rx
      exact PySem.P.repr_of_none ⟨.str _, H, I.tok _, ⟨_, rfl⟩, q⟩
    | bl b =>
      obtain rfl : u = Value.bool b := rx
      exact PySem.P.repr_of_bool ⟨.str _, H, I.tok _, ⟨_, rfl⟩, q⟩
    | int i =>
      obtain ⟨t, rfl⟩ := rx
      exact PySem.P.repr_of_int (of_decide_eq_true h1) ⟨.str _, H, I.tok _, ⟨_, rfl⟩, q⟩
    | str x =>
      obtain ⟨t, rfl⟩ := rx
      exact PySem.P.repr_of_str ⟨.str _, H, I.tok _, ⟨_, rfl⟩, q⟩ h4
    | lst _ _ => exact big rfl
    | tup _ _ => exact big rfl
def gRepr : AV → Hh → Out AV := fun x h => match dat x h with
  | some d => if (d.showable && !d.hasDict && decide (d.depth ≤ 64) && decide (d.shown.length ≤ most)) = true then .ok (.str d.shown) h else .bad
  | none => .bad
theorem p_repr : PLs F (rReprD F.K) (g1 gRepr) := by
  intro m H h xs us Q E rh r q0
  obtain ⟨x, u, rfl, rfl, rx, q⟩ := one_ok r q0
  clear q0
  unfold gRepr at q
  split at q
  · split at q
    · rename_i d e hz
      simp only [Bool.and_eq_true, Bool.not_eq_true', decide_eq_true_eq] at hz
      obtain ⟨⟨⟨z1, z2⟩, z3⟩, z4⟩ := hz
      exact ⟨u, d, rfl, (dat_ok rh rx e).1, z1, z2, z3, most_ok z4, okg_ok rh q _ (.str _)⟩
    · exact q.elim
  · exact q.elim
theorem ce_repr {k : Nat} {p pos : Pos} {e : Expr} {fa : EvA} (hK : X.K = F.K) (hG : X.A.guards = some []) (hr : Room k X.A) (hg : Gl X "repr") (hm : X.mg "repr" = none) (ha : CA X F W [e] fa)
    (he : starEach (e :: []) X.env = (false, eval e X.env) :: starEach [] X.env := by rfl) (hpl : (backTo pos (starEach [] X.env)).any (·.1) = false := by rfl) : CE X F W (.Call (.Name "repr" p) [e] [] pos) (xA (g1 gRepr) fa) :=
  ce_callB (cr_reprD hG hr) (by rw [hK]; exact p_repr) hg hm (by decide +kernel) ha (by decide) (by decide) he hpl
end
/-! ### defs that want that no repr is under way -/
structure FnG (P : Program) (w : World) (K : PySem.W.Frag) (mg : Str → Option Value) (base : Heap) (CX : CXT) (k : Nat) (f : Addr) (fd : FuncData) (ps : List Str) (sp : Sp) : Prop where
  len : ∀ vs H Q E, sp vs H Q E → vs.length = ps.length
  run : ∀ (A : Around) (outer : List Env) (s : Shared) (H : Hp) (args : Args) (us : List Value) (vs : List V) (Q : VK) (E : XK), Room k A → A.guards = some [] → Env0 P w K mg base A outer s H → BindsTo s fd args (ps.zip us) → Vals vs us → sp vs H Q E →
    codeAny (model P w) A (.call (.ref f) args) (CR CX outer P w H s Q E) s
structure DnG (P : Program) (w : World) (F : Fx) (mg : Str → Option Value) (base : Heap) (k : Nat) (x : Str) (n : Nat) (fn : List AV → Hh → Out AV) : Prop where
  ex : ∃ (f : Addr) (fd : FuncData) (ps : List Str), mg x = some (.ref f) ∧ PySem.W.keepIn F.K (.ref f) = true ∧ FnG P w F.K mg base (L2.CX P w) k f fd ps (spD F n fn) ∧ Binds F.K fd ps []
section
variable {P : Program} {w : World} {F : Fx} {mg : Str → Option Value} {base : Heap}
theorem dn_atG {x : Str} {st : Stmt} {N ps : List Str} {k : Nat} {fs : EvS} (h : At F mg x st ps) (S : FnScope N ps (defScope st))
    (hbody : ∀ (E : XK) (f : Addr) (cdv : Value) (A : Around) (outer : List Env) (s : Shared) (H : Hp), Room k (A.deeper (envOfC x (defScope st) s.heap.objs.size f cdv)) → (A.deeper (envOfC x (defScope st) s.heap.objs.size f cdv)).guards = some [] →
      L2.Takes (cxOf (L2.CX P w) P w F.K mg base N x (defScope st) f cdv A outer s H E) (fun c d _ H => E c d H) →
      PassesOwn (model P w) (cxOf (L2.CX P w) P w F.K mg base N x (defScope st) f cdv A outer s H E).A (cxOf (L2.CX P w) P w F.K mg base N x (defScope st) f cdv A outer s H E).env (cxOf (L2.CX P w) P w F.K mg base N x (defScope st) f cdv A outer s H E).xe →
      CSs (cxOf (L2.CX P w) P w F.K mg base N x (defScope st) f cdv A outer s H E) F (fun c d _ H => E c d H) (defBody st) fs) :
    DnG P w F mg base (k + 1) x ps.length (defO N.length fs) := by
  obtain ⟨f, fd, h1, h2, h3, h4⟩ := h.ex
  obtain ⟨oc, od, kV, doc, pm, an, cdv, ct, osl, rfl, lk, hcd⟩ := h3.ex
  refine ⟨f, _, ps, h1, h2, ⟨fun vs H Q E s => spD_len s, fun A outer s H args us vs Q E hr hg e0 hb r hsp => ?_⟩, h4⟩
  refine LamX.run_ofS lk hcd S hr e0 hb r (spD_len hsp) fun hr' => ?_
  exact ⟨rdS F (fun c d _ H => E c d H) fs, hbody E f cdv A outer s H hr' hg (takes_of rfl rfl rfl rfl) (passes_of rfl), body_ok (rdS_ok fs) hsp⟩
end
section
variable {X : Cx} {F : Fx} {W : WX'}
theorem ce_callG {k j : Nat} {x : Str} {n : Nat} {fn : List AV → Hh → Out AV} {p pos : Pos} {e : Expr} {es : List Expr} {fa : EvA} (d : DnG X.prog X.w F X.mg X.base k x n fn) (hK : X.K = F.K) (hG : X.A.guards = some []) (hj : k ≤ j) (hr : Room j X.A) (tk : L2.Takes X W) (hg : Gl X x) (ha : CA X F W (e :: es) fa)
    (hdb : (x == ("__debug__" : Str)) = false := by decide) (he : starEach (e :: es) X.env = (false, eval e X.env) :: starEach es X.env := by rfl) (hpl : (backTo pos (starEach es X.env)).any (·.1) = false := by rfl) :
    CE X F W (.Call (.Name x p) (e :: es) [] pos) (xA (onN n fn) fa) := by
  obtain ⟨f, fd, ps, h1, h2, h3, h4⟩ := d.ex
  refine ce (t := tCallS (spD F n fn) (fun σ cls d H => W cls d σ H) (rdA F W fa)) ⟨fun pins s σ H Q I h => ?_⟩ (x_callS (rdA_ok fa))
  refine wpAny_Call_Name_kw (ld_glob I hg h1 ?_ hdb)
  refine PySem.W.callWith_K (h₀ := X.base) I.ok.mod.kin (by rw [hK]; exact h2) (thn (ha.run pos pins s σ H _ I h) fun us s1 ⟨vs, H1, I1, r, q⟩ => ⟨I1.kIn, ?_⟩) he hpl
  have hl : us.length = ps.length := by rw [← r.length]; exact h3.len _ _ _ _ q
  have b := h4 s1 us (by rw [← hK]; exact I1.kIn) (by rw [List.append_nil]; exact hl)
  rw [List.append_nil] at b
  refine wpAny_call (codeAny_mono (h3.run X.A X.stack s1 H1 ⟨us, []⟩ us vs Q _ (hr.mono hj) hG (by rw [← hK]; exact I1.env0) b r q) fun r s' hq => ?_)
  cases r with
  | error e => exact passAt tk σ pins H1 s1 e s' I1 hq
  | ok fl =>
    cases fl with
    | ret u => exact I1.after hq
    | next => exact False.elim hq
    | brk => exact False.elim hq
    | cont => exact False.elim hq
end
end DI

set_option Elab.async false
set_option linter.all false
set_option maxRecDepth 100000
set_option maxHeartbeats 4000000
/-! enumerate of a tuple -/
namespace PySem
open Sem (wp)
theorem meets_enum_B1 {v : Value} {o : Obj} {H : Heap → Prop} (B : Begins v o H) :
    Meets (Builtin.«enumerate.__new__» ⟨[.type "enumerate", v], []⟩) (fun _ R s => H s.heap ∧
      R (.ok (.ret (.ref (s.heap.push o).objs.size))) { s with heap := (s.heap.push o).push { cls := .type "enumerate", data := .fields #[.none, .bool false, .ref s.heap.objs.size, rawInt 0, .none, .none] } }) :=
  .of_wp fun prog w A R s h => by
    obtain ⟨hpz, g, d, tk, os⟩ := s; obtain ⟨h1, h⟩ := h
    have hsub := sub_enumerate
    have pq1 : ∀ {A' : Around} {E : Value → Shared → Prop} {Q : Value → Shared → Prop}, Q (.ref hpz.objs.size) ⟨hpz.push o, g, d, tk, os⟩ → wpAny (model prog w) A' (pyIter v) Q E ⟨hpz, g, d, tk, os⟩ :=
      fun q => B.iter prog w _ _ ⟨hpz, g, d, tk, os⟩ _ h1 q
    wp_walk
    refine wpAny_stack_any fun stt => wpAny_pure ?_
    split
    · rename_i c _ _ _ _ _
      cases (c == Value.type "enumerate")
      · wp_walk using pq1
        exact ⟨_, rfl, h⟩
      · wp_walk using pq1
        exact ⟨_, rfl, h⟩
    · wp_walk using pq1
      exact ⟨_, rfl, h⟩
theorem enum_begins1 {prog : Program} {w : World} {A : Around} {E : Value → Shared → Prop} {s : Shared} {v : Value} {o : Obj} {H : Heap → Prop} {Q : Value → Shared → Prop} (B : Begins v o H) (h1 : H s.heap)
    (h : ∀ h', IsEnum h' (s.heap.objs.size + 1) s.heap.objs.size 0 .none → h'.get? s.heap.objs.size = some o → h'.objs.size = s.heap.objs.size + 2 →
      (∀ b o, s.heap.get? b = some o → h'.get? b = some o) → Q (.ref (s.heap.objs.size + 1)) { s with heap := h' }) :
    wpAny (model prog w) A (call (.type "enumerate") [v]) Q E s := by
  refine callType_new F.called_enumerate (by decide) (F.typeCall_enumerate_1 _) (F.newCall_enumerate_1 _) (fun obj => F.args_object_init_2 obj _) F.entry_enumerate_new
    (meets_enum_B1 B) ⟨h1, ?_⟩
  have fitz : (s.heap.push o).objs.size = s.heap.objs.size + 1 := Heap.size_push ..
  show _ ∧ _
  rw [fitz]
  have enm : IsEnum ((s.heap.push o).push { cls := .type "enumerate", data := .fields #[.none, .bool false, .ref s.heap.objs.size, rawInt 0, .none, .none] }) (s.heap.objs.size + 1) s.heap.objs.size 0 .none := by
    have := Heap.get?_push_size (s.heap.push o) (o := { cls := .type "enumerate", data := .fields #[.none, .bool false, .ref s.heap.objs.size, rawInt 0, .none, .none] }) rfl
    rw [fitz] at this; exact this
  refine ⟨⟨_, enm, rfl⟩, h _ enm (Heap.get?_push_of_some _ (Heap.get?_push_size _ B.free)) (by rw [Heap.size_push, fitz]) fun b o x => Heap.get?_push_of_some _ (Heap.get?_push_of_some _ x)⟩
theorem wpAny_pyNext_enum_endT {prog : Program} {w : World} {A : Around} {E : Value → Shared → Prop} {s : Shared} {e it l : Addr} {i : Nat} {items : Array Value} {old : Value} {Q : Option Value → Shared → Prop} (hh : A.handled = none)
    (enm : IsEnum s.heap e it i old) (itr : s.heap.IsTupleIter it l i) (lnE : s.heap.IsTuple l items) (atX : items[i]? = none)
    (kont : ∀ h', Heap.ExtBut it s.heap h' → Q none { s with heap := h' }) : wpAny (model prog w) A (pyNext (.ref e)) Q E s := by
  have isTy : s.TypeIs (.ref e) "enumerate" := ⟨_, enm, rfl⟩
  unfold pyNext
  refine wpAny_bind (wpAny_attempt (wpAny_callSpecial?_slot (name := Str.ofString "__next__") isTy F.slot_enumerate_next
    (wpAny_call_entry F.slot_enumerate_next isTy F.entry_enumerate_next ?_ (F.args_enumerate_next_1 _))))
  show wpAny _ _ (field (.ref e) 2 >>= _) _ _ _
  refine wpAny_bind (wpAny_field enm rfl (x := .ref it) rfl ?_)
  refine wpAny_bind (wpAny_nextOf_tuple_end hh itr lnE atX fun h' x he' hx' => ?_)
  obtain ⟨o, obj1, cls1⟩ := hx'
  refine wpAny_bind (wpAny_isInstance (T := "StopIteration") (b := true) ⟨o, obj1, cls1⟩ isSubtype_stop ?_)
  exact wpAny_pure (kont _ he')
end PySem
namespace DI
open PySem PySem.Spec PyProof.Rows L2 GxR RZ
def IteT (K : PySem.W.Frag) (a : Addr) : It :=
  ⟨fun i H => ∃ (xs : List V) (x : V), SqT K H a xs ∧ xs[i]? = some x, fun i H v H' => ∃ T x, v = .ref T ∧ H T = none ∧ H' = upd H T (.tup [.int (i : Nat), x]) ∧ ∀ xs, SqT K H a xs → xs[i]? = some x, fun i H => ∃ xs : List V, SqT K H a xs ∧ xs.length ≤ i⟩
theorem turn_enumT {P : Program} {w : World} {K : PySem.W.Frag} {elts : List Expr} {kk : Nat} {tpos : Pos} (a e it : Addr) :
    Turn P w K (.Tuple elts kk tpos) (IteT K a) [e, it] e (fun i h => (∃ old, IsEnum h e it ((i : Nat) : Int) old) ∧ h.IsTupleIter it a i ∧ e ≠ it ∧ e ≠ a ∧ a ≠ it) where
  mem := by simp
  obj := fun i h stt b hbb => by
    obtain ⟨⟨old, enm⟩, ⟨o, obj1, cls1, dat1⟩, _⟩ := stt
    have e' : b = e ∨ b = it := by simpa using hbb
    rcases e' with z | z
    · rw [z]; exact ⟨_, enm, fun v q => nomatch q⟩
    · rw [z]; exact ⟨o, obj1, fun v q => by rw [dat1] at q; cases q⟩
  keep := fun i h h' stt k => let ⟨⟨old, enm⟩, hii, apt⟩ := stt; ⟨⟨old, k e (by simp) _ enm⟩, hii.at fun o q => k it (by simp) o q, apt⟩
  item := by
    intro X hP hww hK cls1 i pnz s σ H E I fpz stt glb
    subst hP hww hK
    obtain ⟨⟨old, enm⟩, itr, apt, hea, hai⟩ := stt
    obtain ⟨xs, x, sqA, atX⟩ := glb
    obtain ⟨its, rvl, p, fitz⟩ := I.tuple sqA
    obtain ⟨u, atU, relu⟩ := rvl.get atX
    have ltE : e < s.heap.objs.size := Heap.lt_size enm
    have ltI : it < s.heap.objs.size := by obtain ⟨_, q, _⟩ := itr; exact Heap.lt_size q
    have hlt : i < its.toArray.size := by simpa using (List.getElem?_eq_some_iff.mp atU).1
    refine wpAny_pyNext_enum_itemD (Draws.tuple (show X.A.in1.handled = none from I.ok.hd cls1) it a hai its.toArray) enm ⟨itr, p⟩ hlt apt (by simp [apt, hea]) fun y h' tk hyy obj1 hst' isTy hsz kps => ?_
    have hyy : y = u := by
      have : its.toArray[i]? = some u := by simpa using atU
      rw [this] at hyy
      exact (Option.some.inj hyy).symm
    subst hyy
    refine ⟨_, rfl, wpAny_letOwnedTupleGo_enum (s := { s with heap := h', toks := tk + 1 }) obj1 fun h'' he' sbt => ?_⟩
    have hT2 : h''.get? s.heap.objs.size = some { cls := .type "tuple", data := .seq #[.int i tk, y] } := (sbt.2 _ (Nat.ne_of_gt ltE)).trans isTy
    have new : ObjOk X.prog X.w (upd H s.heap.objs.size (.tup [.int (i : Nat), x])) h'' s.heap.objs.size (.tup [.int (i : Nat), x]) :=
      ⟨by show 2 ≤ sizeLine; decide, [.int i tk, y], .cons ⟨_, rfl⟩ (.cons relu .nil), ⟨_, hT2, rfl, _, rfl⟩⟩
    have I1 : Inv X pnz σ (upd H s.heap.objs.size (.tup [.int (i : Nat), x])) { s with heap := h'', toks := tk + 1 } :=
      I.turnedNew (ch := [e, it]) (fun b ob hbb q => (sbt.2 b (fun z => hbb (by simp [z]))).trans (kps b ob (fun z => hbb (by simp [z])) (fun z => hbb (by simp [z])) q)) fpz (Nat.le_refl _) new
    refine ⟨.ref s.heap.objs.size, _, I1, rfl, ⟨_, x, rfl, I.hok.fresh (Nat.le_refl _), rfl, fun ys hyy => by rw [I.tuple_inj hyy sqA]; exact atX⟩, ⟨⟨y, ?_⟩, hst'.1.at fun o q => (sbt.2 it (Ne.symm apt)).trans q, apt, hea, hai⟩, fun b hbb => ?_⟩
    · have eq1 : ((i + 1 : Nat) : Int) = (i : Int) + 1 := by omega
      rw [eq1]; exact he'
    · have hb' : b < s.heap.objs.size := by
        have e' : b = e ∨ b = it := by simpa using hbb
        rcases e' with z | z
        · rw [z]; exact ltE
        · rw [z]; exact ltI
      rw [upd_ne (Nat.ne_of_lt hb')]
      exact (fpz b hbb).1
  done := by
    intro X hP hww hK cls1 i pnz s σ H E I fpz stt glb
    subst hP hww hK
    obtain ⟨⟨old, enm⟩, itr, apt, hea, hai⟩ := stt
    obtain ⟨xs, sqA, atX⟩ := glb
    obtain ⟨its, rvl, p, fitz⟩ := I.tuple sqA
    obtain ⟨f0, f1, f2, f3, f4, f5⟩ := fpz it (by simp)
    have lnE := rvl.length
    refine PySem.wpAny_pyNext_enum_endT (I.ok.hd cls1) enm itr p (by simp; omega) fun h' eb => ⟨rfl, I.turned (t' := s.toks) (fun b o hbb q => eb b o hbb q) f0 f1 f3 f4 f5⟩
  self := fun A i s Q E stt h => let ⟨⟨_, enm⟩, _⟩ := stt; wpAny_pyIter_enum enm h
def iEnumT (K : PySem.W.Frag) (ta : TA) : TI := fun σ H R => ta σ H fun vs H1 => ∃ a xs, vs = [.ref a] ∧ SqT K H1 a xs ∧ R (IteT K a) H1
theorem pi_enumT {X : Cx} {e : Expr} {ta : TA} {p pos tpos : Pos} {elts : List Expr} {kk : Nat} (glb : Gl X "enumerate") (memb : X.mg "enumerate" = none) (ha : PA X [e] ta) (sbs : starEach [e] X.env = [(false, eval e X.env)] := by rfl) :
    PI X (.Tuple elts kk tpos) (.Call (.Name "enumerate" p) [e] [] pos) (iEnumT X.K ta) := by
  refine ⟨fun pnz s σ H R I h => ?_⟩
  refine Call_ (ld_blt I glb memb boot_enumerate (PyProof.Rows.callWith_type1 (thn (ha.run pos pnz s σ H _ I h) fun us s1 ⟨vs, H1, I1, r1, pq1⟩ => ?_) sbs rfl))
  obtain ⟨a, xs, ex, sqA, q⟩ := pq1
  subst ex
  cases r1 with
  | cons r rr =>
    cases rr
    cases r
    obtain ⟨its, rvl, p', fitz⟩ := I1.tuple sqA
    have hal : a < s1.heap.objs.size := by obtain ⟨o, obj1, _⟩ := p'; exact Heap.lt_size obj1
    refine enum_begins1 (begins_tuple a its.toArray) p' fun h' enm itr hsz kps => wpAny_pyIter_enum enm ?_
    have I2 : Inv X pnz σ H1 { s1 with heap := h' } := I1.kept (t' := s1.toks) kps
    refine ⟨s1.heap.objs.size + 1, [s1.heap.objs.size + 1, s1.heap.objs.size], _, _, H1, rfl, I2, turn_enumT a (s1.heap.objs.size + 1) s1.heap.objs.size, ⟨⟨.none, enm⟩, ⟨_, itr, rfl, rfl⟩, Nat.succ_ne_self _, Ne.symm (Nat.ne_of_lt (Nat.lt_succ_of_lt hal)), Nat.ne_of_lt hal⟩, fun b hbb => ?_, q⟩
    have e' : b = s1.heap.objs.size + 1 ∨ b = s1.heap.objs.size := by simpa using hbb
    have hle : s1.heap.objs.size ≤ b := by
      rcases e' with z | z
      · rw [z]; exact Nat.le_add_right _ _
      · rw [z]; exact Nat.le_refl _
    exact I1.fpOk hle (I1.hok.fresh hle)
section
variable {X : Cx} {F : Fx} {W : WX'} {m m1 : List Addr} {H H1 : Hp}
theorem it_enT {a : Addr} {xs : List AV} {x : AV} (relx : RV F m H x (.ref a)) (ex : tupA x = some xs) : IOk F m H (IteT F.K a) (.enT xs) := by
  intro m' h' H' k r M
  obtain ⟨a', us, eq1, eq2, rs⟩ := tupA_ok (relx.mono M) ex
  cases eq1
  cases y : xs[k]? with
  | none => exact ⟨fun q => ⟨us, eq2, rvs_none rs y⟩, fun x q => (by simp only [stepA, y, enA] at q; cases q)⟩
  | some x0 =>
    refine ⟨fun q => (by simp only [stepA, y, enA] at q; cases q), fun x q => ?_⟩
    simp only [stepA, y, enA] at q
    cases q
    obtain ⟨u, eq3, e4⟩ := rvs_get rs k x0 y
    refine ⟨⟨us, u, eq2, eq3⟩, fun v H2 w => ?_⟩
    obtain ⟨T, u', rfl, n, rfl, w⟩ := w
    have := w us eq2
    rw [eq3] at this; cases this
    exact pair_ok r (.int _) e4 n
def enItU (vs : List AV) (h : Hh) : Out AIt := match vs with
  | [x] => match tupA x with
    | some xs => .ok (.enT xs) h
    | none => enIt [x] h
  | _ => .bad
def xEnumU (fa : EvA) : Sl → Hh → Out AIt := fun ρ h => bindO (fa ρ h) enItU
theorem ci_enumU {e : Expr} {p pos tpos : Pos} {elts : List Expr} {kk : Nat} {fa : EvA} (hK : X.K = F.K) (glb : Gl X "enumerate") (memb : X.mg "enumerate" = none) (ha : CA X F W [e] fa) (sbs : starEach [e] X.env = [(false, eval e X.env)] := by rfl) : CI X F W (.Tuple elts kk tpos) (.Call (.Name "enumerate" p) [e] [] pos) (xEnumU fa) := by
  have h1 := pi_enum (p := p) (pos := pos) (tpos := tpos) (elts := elts) (kk := kk) glb memb ha sbs
  have h2 := pi_enumT (p := p) (pos := pos) (tpos := tpos) (elts := elts) (kk := kk) glb memb ha sbs
  refine ⟨fun pnz s σ H R I ⟨m, h, ρ, rh, rs, q⟩ => ?_⟩
  unfold xEnumU at q
  cases z : fa ρ h with
  | bad => rw [z] at q; exact q.elim
  | exc c fs h' =>
    refine h1.run pnz s σ H R I ⟨m, h, ρ, rh, rs, ?_⟩
    rw [z] at q ⊢
    exact q
  | ok vs h' =>
    rw [z] at q
    have q : OkG F m H (enItU vs h') (fun it _ m' H' => ∀ J, IOk F m' H' J it → R J H') (fun c d H' => W c d σ H') := q
    unfold enItU at q
    split at q
    · rename_i x
      split at q
      · rename_i xs ex
        refine h2.run pnz s σ H R I ⟨m, h, ρ, rh, rs, ?_⟩
        rw [z]
        intro m1 H1 r1 M1 us rus
        cases rus with
        | cons relu rr =>
          cases rr
          obtain ⟨a, ws, rfl, eq1, eq2⟩ := tupA_ok relu ex
          refine ⟨a, ws, rfl, by rw [hK]; exact eq1, ?_⟩
          rw [hK]
          exact q m1 H1 r1 M1 _ (it_enT relu ex)
      · refine h1.run pnz s σ H R I ⟨m, h, ρ, rh, rs, ?_⟩
        rw [z]
        intro m1 H1 r1 M1 us rus
        unfold enIt at q
        split at q
        · rename_i i enm
          cases enm
          split at q
          · rename_i zs fitz
            cases rus with
            | cons relu rr =>
              cases rr
              cases relu with
              | ref e =>
                obtain ⟨ws, eq2, rs'⟩ := lstAt_ok r1 e fitz
                refine ⟨_, ws, rfl, .inl (.inl eq2), ?_⟩
                rw [hK]
                exact q m1 H1 r1 M1 _ (it_enL e)
          · exact q.elim
        · exact q.elim
    · exact q.elim
end
end DI

set_option Elab.async false
set_option linter.all false
set_option maxRecDepth 100000
set_option maxHeartbeats 4000000
/-! try .. except X as e: y = e; the caught exception stays known behind the suite -/
namespace DI
open PySem PySem.Spec PyProof.Rows L2 GxR RZ
section
variable {X : Cx} {pins : List (Addr × Obj)} {σ : L2.St} {H : Hp} {s : Shared}
/-- a caught exception is known from now on -/
theorem trackV {a d : Addr} {cls : Value} {oe : Obj} (I : Inv X ((a, oe) :: pins) σ H s) (hz : Zc cls (some d) oe) (hv : ∃ vs, oe.data = .fields vs) (n0 : X.s_0.heap.get? a = none) (np : ∀ p ∈ X.pn ++ pins, p.1 ≠ a) :
    Inv X pins σ (upd H a (ExV cls d a)) s := by
  obtain ⟨g1, g2, g3, g4, g5⟩ := I.pin (a, oe) (List.mem_append.mpr (.inr List.mem_cons_self))
  have g1 : s.heap.get? a = some oe := g1
  have g2 : H a = none := g2
  have ok : ObjOk X.prog X.w (upd H a (ExV cls d a)) s.heap a (ExV cls d a) := by
    obtain ⟨vs, ev⟩ := hv
    exact ⟨⟨oe, vs, g1, hz, ev⟩, ⟨oe, g1⟩, fun h1 h2 ⟨o', v', e1, e2, e3⟩ k => ⟨o', v', k _ e1, e2, e3⟩⟩
  refine ⟨I.ok, I.os, I.bare, ⟨I.base.keep, I.base.slot, fun b o e n hx => ?_, I.base.there, fun b xs e => ?_, fun b o u e => ?_, fun b ps e => ?_⟩, I.loc, I.cell, ?_, fun x c e => ?_, fun p hp => ?_, HOk.laidN I.hok (fun _ _ e => e) g2 ok, I.len⟩
  · rw [upd_ne (fun z => by rw [z, n0] at e; cases e)]
    exact I.base.free b o e n hx
  · have e := I.base.tups b xs e
    rw [upd_ne (ne_of_none e g2)]; exact e
  · have e := I.base.frzs b o u e
    rw [upd_ne (ne_of_none e g2)]; exact e
  · obtain ⟨more, e⟩ := I.base.tbls b ps e
    exact ⟨more, by rw [upd_ne (ne_of_none e g2)]; exact e⟩
  · rw [upd_ne (Ne.symm g3)]; exact I.free
  · obtain ⟨v, o, ho, hd⟩ := I.cell x c e
    rw [upd_ne (fun z => by rw [z, g1] at ho; cases ho; exact g5 v hd)]
    exact I.freeC x c e
  · obtain ⟨q1, q2, q3⟩ := I.pin p (by
      rcases List.mem_append.mp hp with z | z
      · exact List.mem_append.mpr (.inl z)
      · exact List.mem_append.mpr (.inr (List.mem_cons_of_mem _ z)))
    exact ⟨q1, by rw [upd_ne (np p hp)]; exact q2, q3⟩
/-- what 'except x as n: ..' wishes of an exception, which is known behind the suite -/
def wKeep (K : PySem.W.Frag) (c : Value) (i : Nat) (ts : Addr → Value → Option Addr → TS) (Wout : L2.WX) (D : Ends) : L2.WX := fun cls d σ H =>
  ∃ b, PySem.W.exmOne K cls c = some b ∧ (b = true → ∃ dd, d = some dd ∧ ∀ a, H a = none → ts a cls d { nx := fun σ' H' => H' a = none → D.nx (σ'.set i none) (upd H' a (ExV cls dd a)), rt := fun _ _ => False } (σ.set i (some (.ref a))) H) ∧
    (b = false → Wout cls d σ H)
variable {i : Nat} {n x : Str} {c : Value} {body suite : List Stmt} {s0 : Stmt} {np pos pos' : Pos} {tb : L2.WX → TS} {ts : Addr → Value → Option Addr → TS} {Wout : L2.WX}
theorem ps_try_keep (hs : X.stack = X.env :: X.outer) (hf : X.env.frame = some X.env.locals) (hx0 : X.ex = []) (hN : X.N.Nodup) (hi : X.N[i]? = some n) (hln : X.env.kindOf n = some .local) (hc : Names X x c) (tk : L2.Takes X Wout)
    (hb : ∀ (W : L2.WX) (pn : List (Addr × Obj)) (xe : Value → Shared → Prop), L2.Takes (X.tr pn xe) W → PassesOwn (model X.prog X.w) X.A X.env xe → PSs (X.tr pn xe) body (tb W))
    (hsu : ∀ (a : Addr) (oe : Obj) (cls : Value) (d : Option Addr) (pn : List (Addr × Obj)), Zc cls d oe → (∃ vs, oe.data = .fields vs) → PSs (X.suite a ((a, oe) :: pn)) (s0 :: suite) (ts a cls d)) :
    PS X (.Try body [.ExceptHandler (some (.Name x np)) (some n) (s0 :: suite) pos'] [] [] pos) (fun D σ H => tb (wKeep X.K c i ts Wout D) D σ H) := by
  refine ⟨fun pins s σ H D I h => wpAny_Try_except ?_⟩
  have okX := I.ok
  have hA : X.A.frames = some (X.env :: X.outer) := by rw [okX.frames, hs]
  have hloc : Loc X.env.scope n := .inl hln
  refine wpAny_mono ((hb (wKeep X.K c i ts Wout D) (X.pn ++ pins) (fun e s₁ => wpAny (model X.prog X.w) X.A (noteFrame e X.env) (fun _ s₂ => wpAny (model X.prog X.w) X.A (setFlight e none) (fun _ s₃ =>
    wpAny (model X.prog X.w) X.A (handleBy e X.env [.ExceptHandler (some (.Name x np)) (some n) (s0 :: suite) pos']) (SP X pins D) X.xe s₃) X.xe s₂) X.xe s₁) (fun u s' xx => ?_) PassesOwn.looking).run [] s σ H D (I.toTry _) h) (fun f s1 hsp => ?_) (fun e s1 he => he)
  · obtain ⟨a, B, sI, pins', σ', H', cls, d, rfl, J', nb, up, sky, na, os, ag, b, hb1, hyes, hno⟩ := xx
    have J : Inv X pins σ' H' sI := J'.ofTry okX; have skyL : Sky B (X.env :: X.outer) a (Zc cls d) X.env.locals s'.heap := by rw [← hs]; exact sky
    show wpAny (model X.prog X.w) X.A (noteFrame (.ref a) X.env) _ _ _
    refine Sky.land Zc.steady hA hf skyL fun g3 fl3 up3 => ?_
    have J3 : Inv X pins σ' H' { s' with heap := g3 } := J.landed nb fl3.1 (up.trans up3) os ag
    obtain ⟨oe3, vs3, he3, hz3, hd3⟩ := fl3.there
    have notFr : a ∉ frs (X.env :: X.outer) := fun hm => by
      obtain ⟨_, o', e', hnf⟩ := fl3.2.2.1.mem hm; rw [he3] at e'; cases e'; exact hnf _ hd3
    have nL : a ≠ X.env.locals := fun z => notFr (List.mem_filterMap.mpr ⟨X.env, List.mem_cons_self, by rw [hf, z]⟩)
    have nF : a ∉ X.fs := fun hm => by
      obtain ⟨e, he, q⟩ := List.mem_filterMap.mp hm; exact notFr (List.mem_filterMap.mpr ⟨e, List.mem_cons_of_mem _ he, q⟩)
    have nB : B.get? a = none := fl3.2.1
    -- nothing of the def's own beginning, nothing pinned is the exception
    have notIn : ∀ o, sI.heap.get? a ≠ some o := fun o e => by
      have z := nb a o e (by rw [hs]; exact notFr)
      rw [nB] at z; cases z
    have n0 : X.s_0.heap.get? a = none := by
      cases z : X.s_0.heap.get? a with
      | none => rfl
      | some o => obtain ⟨o', e⟩ := J.base.there a o z (by rw [hx0]; simp); exact absurd e (notIn o')
    have npin : ∀ p ∈ X.pn ++ pins, p.1 ≠ a := fun p hp z => by
      obtain ⟨e, _⟩ := J.pin p hp; rw [z] at e; exact notIn _ e
    have S3 := J3.suite he3 hd3 na nL nF
    refine wpAny_handleBy_cons (codeAny_handlers_test ?_) (by intro q; cases q)
    have LT : PySem.W.Looks (model X.prog X.w) g3 (typeOf (.ref a)) cls := fun A Q E s k q => wpAny_typeOf_ref (k _ _ he3) (by rw [hz3.1]; exact q)
    have LM := PySem.W.exm_one (M := model X.prog X.w) (J3.kIn) LT hb1
    have look : ∀ {Q : Value → Shared → Prop} {E : Value → Shared → Prop}, Q c { s' with heap := g3 } → wpAny (model X.prog X.w) (X.A.mark (some (.ref a))) (eval (.Name x np) X.env) Q E { s' with heap := g3 } := fun {Q E} q => by
      obtain ⟨hg, hdbg, hm | ⟨hm, hv, hnn⟩⟩ := hc
      · exact ld_glob (X := X.suite a ((a, oe3) :: (X.pn ++ pins))) S3 hg hm q hdbg
      · exact ld_blt (X := X.suite a ((a, oe3) :: (X.pn ++ pins))) S3 hg hm hv q hnn hdbg
    refine look (LM.here ?_)
    cases b with
    | true =>
      obtain ⟨dd, rfl, hyes⟩ := hyes rfl
      refine codeAny_handlers_suite_as (HandSPX.lands_againZ fl3 fun g4 fl4 up4 => ?_)
      have J4 : Inv X pins σ' H' { s' with heap := g4 } := J.landed nb fl4.1 ((up.trans up3).trans up4) os ag
      obtain ⟨oe4, vs4, he4, hz4, hd4⟩ := fl4.there
      have S4 := J4.suite he4 hd4 na nL nF
      refine store_ok (X := X.suite a ((a, oe4) :: (X.pn ++ pins))) (v := .ref a) S4 hN hi hloc rfl (fun s5 S5 => ?_) (.inr hln)
      refine wpAny_mono ((hsu a oe4 cls (some dd) (X.pn ++ pins) hz4 ⟨_, hd4⟩).run [] s5 _ H' _ S5 (hyes a na)) (fun f s6 hsp => ?_) (fun _ _ z => False.elim z)
      cases f with
      | next =>
        obtain ⟨σ6, H6, S6, q6⟩ := hsp
        have n6 : H6 a = none := (S6.pin (a, oe4) (List.mem_append.mpr (.inl List.mem_cons_self))).2.1
        have J6 : Inv X ((a, oe4) :: pins) σ6 H6 s6 := ⟨okX, S6.os, S6.bare, S6.base, S6.loc, S6.cell, S6.free, S6.freeC, fun p hp => S6.pin p (by
          rcases List.mem_append.mp hp with z | z
          · exact List.mem_append.mpr (.inl (List.mem_cons_of_mem _ (List.mem_append.mpr (.inl z))))
          · rcases List.mem_cons.mp z with e | z
            · rw [e]; exact List.mem_append.mpr (.inl List.mem_cons_self)
            · exact List.mem_append.mpr (.inl (List.mem_cons_of_mem _ (List.mem_append.mpr (.inr z))))), S6.hok, S6.len⟩
        exact gone_ok J6 hN hi hln fun s7 J7 => ⟨_, _, trackV J7 hz4 ⟨_, hd4⟩ n0 npin, q6 n6⟩
      | brk => obtain ⟨_, _, _, z⟩ := hsp; exact z.elim
      | cont => obtain ⟨_, _, _, z⟩ := hsp; exact z.elim
      | ret u => obtain ⟨_, _, _, _, _, z⟩ := hsp; exact z.elim
    | false =>
      show wpAny _ X.A (handleBy (.ref a) X.env []) _ _ _
      refine wpAny_handleBy_nil ?_
      obtain ⟨k1, k2, k3, oe, vs, T, oT, ts', he, hz, hd, h1, hr⟩ := id fl3
      unfold PySem.passOn; refine wpAny_bind (wpAny_field he hd h1 ?_); rw [if_neg (show ¬ ((Value.ref T == Value.none) = true) from by simp)]
      have on : wpAny (model X.prog X.w) X.A (setFlight (.ref a) X.env.frame) (fun _ s4 => wpAny (model X.prog X.w) X.A (throw (.ref a) : Sem Flow) (SP X pins D) X.xe s4) X.xe { s' with heap := g3 } := by
        rw [hf]
        exact HandSPX.setFlight_upZ fl3 fun g4 hh4 up4 => wpAny_throw (tk _ _ ⟨a, B, sI, pins, σ', H', cls, d, rfl, J, nb, (up.trans up3).trans up4, .inr (.inr (by rw [hs]; exact hh4)), na, os, ag, hno rfl⟩)
      first
        | exact wpAny_bind (wpAny_pure (wpAny_bind on))
        | exact wpAny_bind on
  · cases f with
    | next => obtain ⟨σ', H', J', q⟩ := hsp; exact wpAny_execs_nil ⟨σ', H', J'.ofTry okX, q⟩
    | brk => obtain ⟨σ', H', J', q⟩ := hsp; exact ⟨σ', H', J'.ofTry okX, q⟩
    | cont => obtain ⟨σ', H', J', q⟩ := hsp; exact ⟨σ', H', J'.ofTry okX, q⟩
    | ret u => obtain ⟨v, σ', H', J', r, q⟩ := hsp; exact ⟨v, σ', H', J'.ofTry okX, r, q⟩
end
/-! ### the small machine's try -/
section
variable {F : Fx} {X : Cx}
theorem zip_back {α : Type} : ∀ (us : List (Str × α)), (us.map (·.1)).zip (us.map (·.2)) = us
  | [] => rfl
  | u :: us => by rw [List.map_cons, List.map_cons, List.zip_cons_cons, zip_back us]
theorem rkv_vals {m : List Addr} {H : Hp} : ∀ {fs : List (Str × AV)} {us : List (Str × V)}, RKV (F := F) m H fs us → us.map (·.1) = fs.map (·.1) ∧ RVs F m H (fs.map (·.2)) (us.map (·.2))
  | _, _, .nil => ⟨rfl, .nil⟩
  | _, _, .cons h t => ⟨by rw [List.map_cons, List.map_cons, (rkv_vals t).1], .cons h (rkv_vals t).2⟩
def exA (c : Str) (fs : List (Str × AV)) : AV := .ex c (fs.map (·.1)) (fs.map (·.2))
/-- which classes of one's own the class y catches -/
structure Xsub (F : Fx) (mg : Str → Option Value) (y : Str) (sub : Str → Option Bool) : Prop where
  ex : ∃ Cy, mg y = some (.ref Cy) ∧ ∀ c C b, F.G c = some C → sub c = some b → PySem.W.exmOne F.K (.ref C) (.ref Cy) = some b
def tryO (sub : Str → Option Bool) (j i : Nat) (o : So) : So := match o with
  | .exc c fs ρ1 h1 => match sub c with
    | some true => if i < ρ1.length then .nx ((ρ1.set j (some (exA c fs))).set i none) h1 else .bad
    | some false => .exc c fs ρ1 h1
    | none => .bad
  | .nx ρ h => .nx ρ h
  | .bk ρ h => .bk ρ h
  | .ct ρ h => .ct ρ h
  | .rt v h => .rt v h
  | .bad => .bad
/-- 'except y as n: v = n', as a reading of what the body does -/
theorem try_ok {W : WX'} {sub : Str → Option Bool} {j i : Nat} {Cy : Addr} {m : List Addr} {H : Hp} {D : Ends} {o : So} (hij : i ≠ j) (hsub : ∀ c C b, F.G c = some C → sub c = some b → PySem.W.exmOne F.K (.ref C) (.ref Cy) = some b)
    (q : OkS F W m H (tryO sub j i o) D) : OkS F (wKeep F.K (.ref Cy) i (fun _ _ _ => tAsg (tVar i) (gName j)) W D) m H o D := by
  cases o with
  | nx ρ h => exact q
  | bk ρ h => exact q
  | ct ρ h => exact q
  | rt v h => exact q
  | bad => exact q
  | exc c fs ρ1 h1 =>
    unfold tryO at q
    intro m' H' d us a σ' rh M ga gd rk rs
    cases z : sub c with
    | none => simp only [z] at q; exact q.elim
    | some b =>
      refine ⟨b, hsub c a b ga z, fun hb => ?_, fun hb => ?_⟩
      · subst hb
        simp only [z] at q
        refine ⟨d, rfl, fun ea na => ?_⟩
        by_cases hi : i < ρ1.length
        · rw [if_pos hi] at q
          have hi : i < σ'.length := by rw [← rs.1]; exact hi
          refine ⟨.ref ea, List.getElem?_set_self hi, fun na' => ?_⟩
          have M2 : Mono F m' H' m' (upd H' ea (ExV (.ref a) d ea)) := Mono.laid na'
          refine q m' _ _ (rh.laid na') (M.trans M2) ?_
          have rv : RV F m' (upd H' ea (ExV (.ref a) d ea)) (exA c fs) (.ref ea) := by
            obtain ⟨e1, e2⟩ := rkv_vals rk
            refine .ex ga upd_same (M2.imm _ _ trivial ?_) (e2.mono M2)
            rw [← e1, zip_back]; exact gd
          have r1 := rs.mono M2
          refine ⟨by simp [rs.1], fun k v e => ?_⟩
          have e0 := e
          by_cases hk : i = k
          · subst hk
            by_cases hl : i < (ρ1.set j (some (exA c fs))).length
            · rw [List.getElem?_set_self hl] at e; cases e
            · rw [List.getElem?_eq_none (by simpa using Nat.le_of_not_lt hl)] at e; cases e
          · rw [List.getElem?_set_ne hk] at e
            rw [List.getElem?_set_ne hk]
            by_cases hj : j = k
            · subst hj
              by_cases hl : j < ρ1.length
              · rw [List.getElem?_set_self hl] at e
                cases e
                exact ⟨.ref ea, List.getElem?_set_self (by rw [List.length_set, ← rs.1]; exact hl), rv⟩
              · rw [List.getElem?_eq_none (by simpa using Nat.le_of_not_lt hl)] at e; cases e
            · rw [List.getElem?_set_ne hj] at e
              obtain ⟨u, e1, e2⟩ := r1.2 k v e
              exact ⟨u, by rw [List.getElem?_set_ne hj, List.getElem?_set_ne hk]; exact e1, e2⟩
        · rw [if_neg hi] at q; exact q.elim
      · subst hb
        simp only [z] at q
        exact q m' H' d us a σ' rh M ga gd rk rs
end
end DI

set_option Elab.async false
set_option linter.all false
set_option maxRecDepth 100000
set_option maxHeartbeats 4000000
/-! isinstance of a caught exception, its field; class names as values -/
namespace PySem.W
open PySem PySem.Spec PySem.Calls PyProof.Rows PySem.Builtin
section
variable {K : Frag} {prog : Program} {w : World} {A : Around} {E : Value → Shared → Prop} {s : Shared} {x D : Addr} {ox : Obj} {od : Option Obj}
theorem findObj_dV {C : Addr} {name : Str} {b g : Value} (hc : (clsIn K C).isSome = true) (hb : findIn K (.ref C) name = some (some b)) (hg : specialIn K b "__get__" = some (some g)) (ht : takesIn K b = some true) : findObj K C od name = some (.bind g b) := by
  obtain ⟨cd, e⟩ := Option.isSome_iff_exists.mp hc; unfold findObj
  rw [e, Option.bind_some, hb, Option.bind_some]; simp [hg, ht]
/-- what a class of exceptions of one's own says of "__class__" -/
structure ClsOk (K : Frag) (D : Addr) : Prop where
  ga : findIn K (.ref D) "__getattribute__" = some (some (.builtin "BaseException.__getattribute__"))
  gt : findIn K (.ref D) "__getattr__" = some none
  sub : subIn K (.ref D) (.type "BaseException") = some true
  dct : hasDictIn K D = true
  cl : findIn K (.ref D) "__class__" = some (some (.builtin "object.__class__"))
  gn : specialIn K (.builtin "object.__class__") "__get__" = some (some (.builtin "getset_descriptor.__get__"))
  tk : takesIn K (.builtin "object.__class__") = some true
  mr : mroIn K D (.type "object") = some true
theorem classV {Q : Option Value → Shared → Prop} (c : ClsOk K D) (X : K.In s.heap) (I : InstAt s.heap x ox D od) (h : Q (some (.ref D)) { s with toks := s.toks + 1 }) : wpAny (model prog w) A (getAttr? (.ref x) "__class__") Q E s := by
  have hf : findObj K D od "__class__" = some (.bind (.builtin "getset_descriptor.__get__") (.builtin "object.__class__")) := findObj_dV (by obtain ⟨cd, e, _⟩ := any_some c.dct; rw [e]; rfl) c.cl c.gn c.tk
  obtain ⟨hp, g, d, t, os⟩ := s
  have a0 := I.type (M := model prog w); have a1 := looks_findIn (M := model prog w) X c.ga
  have a2 := looks_findIn (M := model prog w) X c.gt; have a3 := looks_find (M := model prog w) X I hf
  have sb : Looks (model prog w) hp (isInstance (.ref x) (.type "BaseException")) true := a0.andThen (looks_subIn X c.sub)
  have n2 : (Value.builtin "BaseException.__getattribute__" == Value.builtin "object.__getattribute__") = false := by decide +kernel
  have n1 : (onTheHeap (Value.ref D) && Value.builtin "BaseException.__getattribute__" == Value.builtin "object.__getattribute__") = false := by rw [n2]; rfl
  unfold getAttr? getAttrBy? getAttrBy
  refine wpAny_bind (wpAny_mkText (wpAny_bind (wpAny_attempt (wpAny_holding (wpAny_bind (a0.at (wpAny_bind (a1.at ?_))))))))
  show wpAny _ _ (if (onTheHeap (Value.ref D) && Value.builtin "BaseException.__getattribute__" == Value.builtin "object.__getattribute__") = true then _ else _) _ _ _
  rw [n1, if_neg Bool.false_ne_true]; unfold getAttrByItsOwn hookBefore
  refine wpAny_bind ?_; rw [if_pos (show onTheHeap (Value.ref D) = true from rfl)]
  refine a2.at (wpAny_bind (wpAny_attempt (wpAny_holding ?_)))
  unfold callGetattribute; rw [show (false && onTheHeap (Value.builtin "BaseException.__getattribute__")) = false from rfl, if_neg Bool.false_ne_true]; unfold boundAndCalled
  rw [PySem.F.excAttr_ValueError.ga.bind (.ref x)]; refine wpAny_bind (wpAny_pure ?_)
  show wpAny _ _ (call (.builtin "BaseException.__getattribute__") [.ref x, .str "__class__" t]) _ _ _
  refine wpAny_call (codeAny_call_builtin PySem.F.excAttr_ValueError.ga.plain PySem.F.entry_bexc_ga ?_)
  refine @check_slot (model prog w) _ _ ⟨hp, g, d, t + 1, os⟩ "BaseException.__getattribute__" "BaseException" "__getattribute__" (.ref x) [.str "__class__" t] [] _ (by decide +kernel) (by decide +kernel) sb (PySem.F.args_bexc_ga (.ref x) (.str "__class__" t)) ?_
  unfold Builtin.«object.__getattribute__»; refine wpAny_bind (wpAny_of_eq (a := ((Value.ref x : Value), [Value.str "__class__" t])) (by first | rfl | (simp only [slotArgs]; rfl)) ?_)
  refine wpAny_bind (wpAny_pure (wpAny_bind (a0.at (wpAny_bind (a3.at ?_)))))
  show wpAny _ _ (holding [Value.builtin "object.__class__"] (call (.builtin "getset_descriptor.__get__") [.builtin "object.__class__", .ref x, .ref D]) >>= ret) _ _ _
  refine wpAny_bind (wpAny_holding (wpAny_call (class_get (s := ⟨hp, g, d, t + 1, os⟩) (ox := ox) (od := od) X I c.mr (wpAny_pure ?_))))
  show wpAny _ _ (handedOut (.ref D)) _ _ _
  rw [handedOut_of (v := .ref D) rfl]
  first | exact wpAny_pure (wpAny_pure h) | exact wpAny_pure h | exact wpAny_pure (wpAny_bind (wpAny_pure (wpAny_pure h)))
theorem kitV (c : ClsOk K D) : KitX K (.ref x) (.ref D) (fun h => InstAt h x ox D od) where
  ty := fun _ _ _ I => I.type
  it := fun _ _ X _ => by
    obtain ⟨cd, hc, _⟩ := any_some c.dct
    unfold clsIn at hc; split at hc
    · rename_i c' d' cd' sl' ho
      intro A' Q' E' s' k q; unfold isType loadHead
      exact wpAny_bind (wpAny_loadPart (k _ _ (X _ _ ho)) (wpAny_pure q))
    · cases hc
  ne := fun h tp dd its n sl X htp => by
    obtain ⟨cd, hc, _⟩ := any_some c.dct
    refine Bool.eq_false_iff.mpr fun q => ?_; have e : D = tp := Value.ref.inj (beq_iff_eq.mp q); subst e
    unfold clsIn at hc; split at hc
    · rename_i c' d' cd' sl' ho; have z := (X _ _ ho).symm.trans htp; cases z
    · cases hc
  ca := fun X I k => classV c X I k
end
end PySem.W
namespace DI
open PySem PySem.Spec PyProof.Rows L2 GxR RZ
section
variable {X : Cx} {F : Fx} {W : WX'}
/-- what is known of a caught exception's object -/
theorem exV_at {pins : List (Addr × Obj)} {σ : L2.St} {H : Hp} {s : Shared} {a d : Addr} {cls : Value} (I : Inv X pins σ H s) (e : H a = some (ExV cls d a)) : ∃ (oe : Obj) (vs : Array Value), s.heap.get? a = some oe ∧ Zc cls (some d) oe ∧ oe.data = .fields vs := (I.hok a _ e).1
theorem inst_at {pins : List (Addr × Obj)} {σ : L2.St} {H : Hp} {s : Shared} {a d D : Addr} {fs : List (Str × V)} (I : Inv X pins σ H s) (e : H a = some (ExV (.ref D) d a)) (ed : H d = some (.xd fs)) :
    ∃ (oe od : Obj) (mA : Str → Option Value), PySem.W.InstAt s.heap a oe D (some od) ∧ (∀ n, PySem.W.lookIn n od = some (mA n)) ∧ ∀ f, RelO (fs.lookup f) (mA f) := by
  obtain ⟨oe, vs, h1, h2, h3⟩ := exV_at I e
  obtain ⟨mA, hns, hr⟩ := (show ObjOk X.prog X.w H s.heap d (.xd fs) from I.hok d _ ed)
  obtain ⟨od, ho, hl⟩ := lookIn_ns hns
  exact ⟨oe, od, mA, ⟨h1, h2.1, by unfold PySem.W.notCls; rw [h3] <;> rfl, by rw [h2.2]; exact ho⟩, hl, hr⟩
/-! ### isinstance -/
def rIsV (K : PySem.W.Frag) : List V → Hp → VK → Prop := fun xs H Q => ∃ (a d D Cy : Addr) (fs : List (Str × V)) (b : Bool), xs = [.ref a, .ref Cy] ∧ H a = some (ExV (.ref D) d a) ∧ H d = some (.xd fs) ∧ PySem.W.ClsOk K D ∧ PySem.W.kitOne K (.ref D) (.ref Cy) = some b ∧ Q (.bl b) H
theorem call_isV : CallR X (.builtin "isinstance") (rIsV X.K) := by
  intro pins s σ H xs us Q I r h
  obtain ⟨a, d, D, Cy, fs, b, rfl, e1, e2, e3, e4, q⟩ := h
  cases r with
  | cons rx rr =>
    cases rr with
    | cons rt rr =>
      cases rr
      cases rx; cases rt
      obtain ⟨oe, od, mA, J, _, _⟩ := inst_at I e1 e2
      exact PySem.W.kia_one (PySem.W.kitV e3) I.kIn J e4 (fun z => nomatch z) fun tk => ⟨.bl b, H, I.kept (t' := tk) fun _ _ z => z, rfl, q⟩
/-- which exception is of which class -/
structure Xis (F : Fx) (q : Str → Str → Option Bool) : Prop where
  ok : ∀ c y b C Cy, q c y = some b → F.G c = some C → F.G y = some Cy → PySem.W.ClsOk F.K C ∧ PySem.W.kitOne F.K (.ref C) (.ref Cy) = some b
def gIsV (q : Str → Str → Option Bool) : List AV → Hh → Out AV := fun xs h => match xs with
  | [.ex c _ _, .gl y] => match q c y with
    | some b => .ok (.bl b) h
    | none => .bad
  | _ => .bad
theorem p_isV {q : Str → Str → Option Bool} (x : Xis F q) : PLs F (rIsV F.K) (gIsV q) := by
  intro m H h xs us Q E rh r z
  unfold gIsV at z
  split at z
  · rename_i c ns vs y
    cases r with
    | cons r1 rr =>
      cases rr with
      | cons r2 rr =>
        cases rr
        cases r2 with
        | gl gy =>
          cases r1 with
          | ex gc h1 h2 _ =>
            cases e : q c y with
            | none => simp only [e] at z; exact z.elim
            | some b =>
              simp only [e] at z
              obtain ⟨k1, k2⟩ := x.ok c y b _ _ e gc gy
              exact ⟨_, _, _, _, _, b, rfl, h1, h2, k1, k2, okg_ok rh z _ (.bl b)⟩
  · exact z.elim
theorem ce_isV {q : Str → Str → Option Bool} {p pos : Pos} {e : Expr} {es : List Expr} {fa : EvA} (x : Xis F q) (hK : X.K = F.K) (hg : Gl X "isinstance") (hm : X.mg "isinstance" = none) (ha : CA X F W (e :: es) fa)
    (hs : starEach (e :: es) X.env = (false, eval e X.env) :: starEach es X.env := by rfl) (hpl : (backTo pos (starEach es X.env)).any (·.1) = false := by rfl) : CE X F W (.Call (.Name "isinstance" p) (e :: es) [] pos) (xA (gIsV q) fa) :=
  ce_callB call_isV (by rw [hK]; exact p_isV x) hg hm (by decide +kernel) ha (he := hs) (hpl := hpl)
/-- the name of a class of one's own, as a value -/
theorem ce_cls {y : Str} {p : Pos} (hg : Gl X y) (h : ∃ C, X.mg y = some (.ref C) ∧ F.G y = some C) (hd : (y == ("__debug__" : Str)) = false := by decide) : CE X F W (.Name y p) (xC (.gl y)) := by
  obtain ⟨C, h1, h2⟩ := h
  exact ce_glob (w := .ref C) hg h1 rfl (fun m H => .gl h2) hd
/-! ### e.f -/
def tFld (K : PySem.W.Frag) (n : Str) (te : TE) : TE := fun σ H Q => te σ H fun x H1 => ∃ (a d C : Addr) (fs : List (Str × V)) (v : V), x = .ref a ∧ H1 a = some (ExV (.ref C) d a) ∧ H1 d = some (.xd fs) ∧ XfC K C ∧ PySem.W.findIn K (.ref C) n = some none ∧ fs.lookup n = some v ∧ Q v H1
theorem pe_fld {e : Expr} {te : TE} {pos : Pos} {n : Str} (he : PE X e te) (hb : attributeBase e n X.env (eval e X.env) = eval e X.env := by rfl) : PE X (.Attribute e n pos) (tFld X.K n te) := by
  refine ⟨fun pins s σ H Q I h => attr_of hb (thn (he.run pins s σ H _ I h) fun u s1 hh => ?_)⟩
  obtain ⟨x, H1, I1, rx, a, d, C, fs, v, rfl, e1, e2, T, hno, l, q⟩ := hh
  cases rx
  obtain ⟨oe, od, mA, J, hl, hr⟩ := inst_at I1 e1 e2
  obtain ⟨u, hu, ru⟩ := RelO.some_of (v := v) (o := mA n) (by rw [← l]; exact hr n)
  exact HandSPX.exc_get I1.kIn J T.ga T.gg T.exC (PySem.W.findObj_own T.hdC hno rfl (by rw [hl, hu])) (handed_of ru) ⟨v, H1, I1.tok _, ru, q⟩
structure Xfl (F : Fx) (fl : Str → Str → Bool) : Prop where
  ok : ∀ c n C, fl c n = true → F.G c = some C → XfC F.K C ∧ PySem.W.findIn F.K (.ref C) n = some none
def xFld (fl : Str → Str → Bool) (n : Str) (fe : EvF) : EvF := fun ρ h => bindO (fe ρ h) fun v h1 => match v with
  | .ex c ns vs => if fl c n = true then optO ((ns.zip vs).lookup n) h1 else .bad
  | _ => .bad
theorem rvs_lookup {m : List Addr} {H : Hp} {n : Str} {v : AV} : ∀ {ns : List Str} {vs : List AV} {us : List V}, RVs F m H vs us → (ns.zip vs).lookup n = some v → ∃ u, (ns.zip us).lookup n = some u ∧ RV F m H v u
  | [], _, _, _, e => by cases e
  | _ :: _, _, _, .nil, e => by cases e
  | k :: ns, _, _, @RVs.cons _ _ _ x xs u us h t, e => by
    rw [List.zip_cons_cons] at e ⊢
    rw [List.lookup_cons] at e ⊢
    cases z : n == k with
    | true => simp only [z] at e ⊢; cases e; exact ⟨u, rfl, h⟩
    | false => simp only [z] at e ⊢; exact rvs_lookup t e
theorem ce_fld {fl : Str → Str → Bool} {e : Expr} {pos : Pos} {n : Str} {fe : EvF} (x : Xfl F fl) (hK : X.K = F.K) (he : CE X F W e fe) (hb : attributeBase e n X.env (eval e X.env) = eval e X.env := by rfl) : CE X F W (.Attribute e n pos) (xFld fl n fe) := by
  refine ce (pe_fld he hb) fun m H h σ ρ Q rh rs z => ?_
  refine rdE_ok fe m H h σ ρ _ rh rs (okg_imp (okg_bind z) fun v h1 m1 H1 r1 M1 z1 u ru => ?_)
  cases v <;> first | exact z1.elim | skip
  rename_i c ns vs
  by_cases hf : fl c n = true
  · simp only [if_pos hf] at z1
    obtain ⟨v, e1, z2⟩ := opt_ok r1 z1
    cases ru with
    | ex gc g1 g2 rv =>
      obtain ⟨k1, k2⟩ := x.ok c n _ hf gc
      obtain ⟨u, e2, r2⟩ := rvs_lookup rv e1
      exact ⟨_, _, _, _, u, rfl, g1, g2, by rw [hK]; exact k1, by rw [hK]; exact k2, e2, z2 u r2⟩
  · simp only [if_neg hf] at z1
    exact z1.elim
end
end DI

set_option Elab.async false
set_option linter.all false
set_option maxRecDepth 100000
set_option maxHeartbeats 4000000
/-! a lambda that its maker hands to a def: made, with or without a default, and called there -/
namespace DI
open PySem PySem.Spec PyProof.Rows L2 GxR RZ
/-- the lambda's names: captured ones, globals, parameters that the maker does not know -/
structure LamT (N : List Str) (sc scope : Scope) : Prop where
  kind : scope.kind = .function
  co : scope.isCoroutine = false
  gen : scope.isGenerator = false
  cell : ∀ y ∈ scope.names, y.2 ≠ .cell
  own : ∀ y ∈ scope.names, y.2 = .local → y.1 ∉ N
  free : ∀ y ∈ scope.names, y.2 = .free → sc.names.lookup y.1 = some .cell ∨ sc.names.lookup y.1 = some .free
def lamTB (N : List Str) (sc scope : Scope) : Bool :=
  decide (scope.kind = .function) && !scope.isCoroutine && !scope.isGenerator && scope.names.all fun y => !decide (y.2 = .cell) && (!decide (y.2 = .local) || !N.contains y.1) && (!decide (y.2 = .free) || decide (sc.names.lookup y.1 = some .cell) || decide (sc.names.lookup y.1 = some .free))
theorem lamT_by {N : List Str} {sc scope : Scope} (h : lamTB N sc scope = true) : LamT N sc scope := by
  unfold lamTB at h
  simp only [Bool.and_eq_true, Bool.or_eq_true, Bool.not_eq_true', decide_eq_true_eq, decide_eq_false_iff_not, List.all_eq_true, List.contains_eq_mem] at h
  obtain ⟨⟨⟨h1, h2⟩, h3⟩, h4⟩ := h
  refine ⟨h1, h2, h3, fun y hy => (h4 y hy).1.1, fun y hy e => ?_, fun y hy e => ?_⟩
  · rcases (h4 y hy).1.2 with z | z
    · exact absurd e z
    · exact z
  · rcases (h4 y hy).2 with (z | z) | z
    · exact absurd e z
    · exact .inl z
    · exact .inr z
theorem LamT.has {X : Cx} {scope : Scope} (L : LamT X.N X.env.scope scope) (ok : X.Ok) : ∀ y ∈ scope.names, y.2 = .free → ∃ c, X.env.cells.lookup y.1 = some c := fun y hy e => by
  rcases L.free y hy e with k | k
  · exact ok.has _ (.inl k)
  · exact ok.has _ (.inr k)
section
variable {X : Cx} {pins : List (Addr × Obj)} {σ : L2.St} {H : Hp} {s : Shared}
abbrev lamO (q : Str) (params : Arguments) (body : Expr) (scope : Scope) (cl : List (Str × Addr)) (dV doc pm : Value) (c' : Addr) (ctv : Value) : Obj := PySem.W.kdv_obj "<lambda>" q params (.expr body) scope cl dV doc pm c' ctv
/-- the lambda's object, its code new or found in the table -/
theorem lam_tail {c P : Addr} {params : Arguments} {body : Expr} {scope : Scope} {pos : Pos} {ln : Nat} {dV : Value} {E Q : Value → Shared → Prop} (I : Inv X pins σ H s) (TB : GxR.TabB X.base X.mg c P) (hcode : X.env.code = .ref c)
    (hT : LamX.TabS H P (X.env.qual ++ "<lambda>")) (L : LamT X.N X.env.scope scope)
    (h : ∀ (f c' : Addr) (doc pm ctv : Value) (H1 : Hp) (s' : Shared), Inv X pins σ H1 s' → (∀ b o, H b = some o → b ≠ P → H1 b = some o) → (∀ b, H1 b = none → H b = none) → LamX.TabS H1 P (X.env.qual ++ "<lambda>") →
      (∀ b o, b ≠ P → s.heap.get? b = some o → s'.heap.get? b = some o) → s'.heap.get? f = some (lamO (X.env.qual ++ "<lambda>") params body scope (cloFrom X.env.cells scope.names []) dV doc pm c' ctv) →
      H1 f = none → f ∉ frs X.stack → H1 c' = some (LamX.CodeO c' (X.env.qual ++ "<lambda>")) → (∀ b, H b = none → b < s.heap.objs.size → H1 b = none) → Q (.ref f) s') :
    wpAny (model X.prog X.w) X.A (makeTail "<lambda>" (X.env.qual ++ "<lambda>") params (.expr body) scope X.env dV .none none pos ln) Q E s := by
  obtain ⟨ps, hP, ht, ha⟩ := hT
  have bP : s.heap.BuiltinsAt X.mg P := TB.bm.keeps I.bk
  have hP' : s.heap.get? P = some { cls := .none, data := .fields ps } := I.hok P _ hP
  have nofr : ∀ f, s.heap.objs.size ≤ f → f ∉ frs X.stack := fun f hf z => by
    rcases List.mem_cons.mp (I.stkSub _ z) with e | e
    · have h1 := I.lt
      rw [← e] at h1; exact absurd h1 (Nat.not_lt.mpr hf)
    · exact I.nofs hf e
  have hfree := L.has I.ok
  cases hc : codeAmong pos ps.toList with
  | none =>
    refine PySem.W.kdv_makeTail (mg := X.mg) (c := c) (P := P) (ps := ps) (closure_ok hfree) I.ok.glob (I.mod.glob.keeps I.bk) hcode (TB.code.keeps I.bk) hP' ht hc TB.gP bP fun c' ctv doc h' tk hx hge hlt hrec htb => ?_
    obtain ⟨c2, oc, vs, t, e2, hoc, hd, hv⟩ := hrec
    cases e2
    have hsz : s.heap.objs.size ≤ h'.objs.size := Nat.le_trans hge (Nat.le_of_lt hlt)
    have nC : H c' = none := I.hok.fresh hge
    obtain ⟨ob, hob⟩ : ∃ ob, ob = lamO (X.env.qual ++ "<lambda>") params body scope (cloFrom X.env.cells scope.names []) dV doc ((X.mg "__name__").getD .none) c' ctv := ⟨_, rfl⟩
    have nfd : ob.isFreed = false := by rw [hob] <;> rfl
    show Q _ { s with heap := h'.push (lamO (X.env.qual ++ "<lambda>") params body scope (cloFrom X.env.cells scope.names []) dV doc ((X.mg "__name__").getD .none) c' ctv), toks := tk }
    rw [← hob]
    have kp : ∀ b o, h'.get? b = some o → (h'.push ob).get? b = some o := fun b o e => Heap.get?_push_of_some _ e
    have I1 := LamX.inv_table (t' := tk) (more := #[rawInt pos.line, rawInt pos.col, .ref c']) (h' := h'.push ob) I hP (fun b o hb e => kp b o (hx b o hb e)) (kp _ _ htb) hge ⟨oc, vs, t, kp _ _ hoc, hd, hv⟩
    have atN : ∀ b, b ≠ P → b ≠ c' → upd (upd H P (.tbl (ps ++ #[rawInt pos.line, rawInt pos.col, .ref c']))) c' (LamX.CodeO c' (X.env.qual ++ "<lambda>")) b = H b := fun b h1 h2 => by rw [upd_ne h2, upd_ne h1]
    have eL : (ps ++ #[rawInt pos.line, rawInt pos.col, .ref c']).toList = ps.toList ++ [rawInt pos.line, rawInt pos.col, .ref c'] := by simp
    have keepH : ∀ b o, H b = some o → b ≠ P → upd (upd H P (.tbl (ps ++ #[rawInt pos.line, rawInt pos.col, .ref c']))) c' (LamX.CodeO c' (X.env.qual ++ "<lambda>")) b = some o := fun b o e n => by rw [atN b n (ne_of_none e nC)]; exact e
    refine h h'.objs.size c' doc ((X.mg "__name__").getD .none) ctv _ _ I1 keepH (fun b e => ?_) ⟨_, by rw [upd_ne (ne_of_none hP nC), upd_same], by rw [eL]; exact PySem.TriplesOk_snoc _ _ _ _ ht, fun p' cv hcv => ?_⟩ (fun b o hb e => kp b o (hx b o hb e)) (by rw [← hob]; exact Heap.get?_push_size _ nfd) ?_ (nofr _ hsz) upd_same fun b e hb => ?_
    · by_cases h1 : b = c'
      · rw [h1]; exact nC
      · by_cases h2 : b = P
        · rw [h2, upd_ne (ne_of_none hP nC), upd_same] at e; cases e
        · rw [atN b h2 h1] at e; exact e
    · rw [eL] at hcv
      rcases LamX.among_app _ ht hcv with z | z
      · obtain ⟨c0, e1, e2⟩ := ha p' cv z
        exact ⟨c0, e1, keepH _ _ e2 (fun z => by rw [z, hP] at e2; exact LamX.codeO_ne ps (Option.some.inj e2).symm)⟩
      · exact ⟨c', z, upd_same⟩
    · have n1 : h'.objs.size ≠ c' := Nat.ne_of_gt hlt
      have n2 : h'.objs.size ≠ P := Nat.ne_of_gt (Nat.lt_of_lt_of_le (Heap.lt_size hP') hsz)
      rw [atN _ n2 n1]; exact I.hok.fresh hsz
    · rw [atN b (fun z => by rw [z, hP] at e; cases e) (Nat.ne_of_lt (Nat.lt_of_lt_of_le hb hge))]; exact e
  | some cv =>
    obtain ⟨c', e, hco⟩ := ha pos cv hc
    subst e
    refine PySem.W.kdv_makeTailHit (mg := X.mg) (c := c) (P := P) (ps := ps) (closure_ok hfree) I.ok.glob (I.mod.glob.keeps I.bk) hcode (TB.code.keeps I.bk) hP' ht hc bP fun ctv doc h' tk hx hsz => ?_
    obtain ⟨ob, hob⟩ : ∃ ob, ob = lamO (X.env.qual ++ "<lambda>") params body scope (cloFrom X.env.cells scope.names []) dV doc ((X.mg "__name__").getD .none) c' ctv := ⟨_, rfl⟩
    have nfd : ob.isFreed = false := by rw [hob] <;> rfl
    show Q _ { s with heap := h'.push (lamO (X.env.qual ++ "<lambda>") params body scope (cloFrom X.env.cells scope.names []) dV doc ((X.mg "__name__").getD .none) c' ctv), toks := tk }
    rw [← hob]
    have I1 : Inv X pins σ H { s with heap := h'.push ob, toks := tk } := I.kept fun b o e => Heap.get?_push_of_some _ (hx b o e)
    exact h h'.objs.size c' doc ((X.mg "__name__").getD .none) ctv H _ I1 (fun b o e _ => e) (fun b e => e) ⟨ps, hP, ht, ha⟩ (fun b o _ e => Heap.get?_push_of_some _ (hx b o e)) (by rw [← hob]; exact Heap.get?_push_size _ nfd) (I.hok.fresh hsz) (nofr _ hsz) hco fun b e _ => e
/-- how a call without arguments binds: the defaults stand in a tuple, perhaps -/
structure LBind (q : Str) (params : Arguments) (body : Expr) (scope : Scope) (ds : List Int) (ns : List Str) : Prop where
  kw : params.kw_defaults = []
  len : ns.length = ds.length
  loc : ∀ y ∈ ns, scope.names.lookup y = some .local
  none : ds = [] → params.defaults = [] ∧ ∀ (cl : List (Str × Addr)) (doc pm cdv ctv : Value), bindArgs (PySem.W.kdv_fn "<lambda>" q params (.expr body) scope cl .none doc pm cdv ctv) ⟨[], []⟩ = pure []
  some : ds ≠ [] → (∃ i j p n, params.defaults = [.Constant (.int i) j p] ∧ ds = [i] ∧ ns = [n] ∧ ∀ (cl : List (Str × Addr)) (T : Addr) (doc pm cdv ctv v : Value), ∃ k : Option (Array Value) → Sem (List (Str × Value)),
    bindArgs (PySem.W.kdv_fn "<lambda>" q params (.expr body) scope cl (.ref T) doc pm cdv ctv) ⟨[], []⟩ = seqItems? (.ref T) >>= k ∧ k (some #[v]) = pure [(n, v)])
theorem lbind0 {q : Str} {params : Arguments} {body : Expr} {scope : Scope} (kw : params.kw_defaults = []) (d : params.defaults = []) (b : ∀ (cl : List (Str × Addr)) (doc pm cdv ctv : Value), bindArgs (PySem.W.kdv_fn "<lambda>" q params (.expr body) scope cl .none doc pm cdv ctv) ⟨[], []⟩ = pure []) :
    LBind q params body scope [] [] := ⟨kw, rfl, fun _ h => (nomatch h), fun _ => ⟨d, b⟩, fun h => absurd rfl h⟩
theorem lbind1 {q : Str} {params : Arguments} {body : Expr} {scope : Scope} {i : Int} {j : Nat} {p : Pos} {n : Str} (kw : params.kw_defaults = []) (d : params.defaults = [.Constant (.int i) j p]) (hl : scope.names.lookup n = some .local)
    (b : ∀ (cl : List (Str × Addr)) (T : Addr) (doc pm cdv ctv v : Value), ∃ k : Option (Array Value) → Sem (List (Str × Value)), bindArgs (PySem.W.kdv_fn "<lambda>" q params (.expr body) scope cl (.ref T) doc pm cdv ctv) ⟨[], []⟩ = seqItems? (.ref T) >>= k ∧ k (some #[v]) = pure [(n, v)]) :
    LBind q params body scope [i] [n] := ⟨kw, rfl, fun y h => by cases List.mem_singleton.mp h; exact hl, fun h => (nomatch h), fun _ => ⟨i, j, p, n, d, rfl, rfl, b⟩⟩
/-- the lambda is made -/
theorem lam_make3 {c P : Addr} {params : Arguments} {body : Expr} {scope : Scope} {pos : Pos} {ds : List Int} {ns : List Str} {E Q : Value → Shared → Prop} (I : Inv X pins σ H s) (TB : GxR.TabB X.base X.mg c P) (hcode : X.env.code = .ref c)
    (hT : LamX.TabS H P (X.env.qual ++ "<lambda>")) (L : LamT X.N X.env.scope scope) (B : LBind (X.env.qual ++ "<lambda>") params body scope ds ns)
    (h : ∀ (f c' : Addr) (dV doc pm ctv : Value) (H1 : Hp) (s' : Shared), Inv X pins σ H1 s' → (∀ b o, H b = some o → b ≠ P → H1 b = some o) → LamX.TabS H1 P (X.env.qual ++ "<lambda>") →
      s'.heap.get? f = some (lamO (X.env.qual ++ "<lambda>") params body scope (cloFrom X.env.cells scope.names []) dV doc pm c' ctv) → H1 f = none → f ∉ frs X.stack → H1 c' = some (LamX.CodeO c' (X.env.qual ++ "<lambda>")) →
      (∀ s1 : Shared, (∀ b o, s'.heap.get? b = some o → H1 b = none → b ∉ frs X.stack → s1.heap.get? b = some o) → ∃ bs : List (Str × Value), bs.map (·.1) = ns ∧ BindsTo s1 (PySem.W.kdv_fn "<lambda>" (X.env.qual ++ "<lambda>") params (.expr body) scope (cloFrom X.env.cells scope.names []) dV doc pm (.ref c') ctv) ⟨[], []⟩ bs) → Q (.ref f) s') :
    wpAny (model X.prog X.w) X.A (eval (.Lambda params body scope pos) X.env) Q E s := by
  rw [PySem.arm_eval_Lambda, defaultsOf_eq, B.kw]
  show wpAny _ _ (do let dv ← evalAll (evalEach params.defaults X.env); let kdv ← holding dv (evalAllOpt []); makeFunction "<lambda>" (X.env.qual ++ "<lambda>") params (.expr body) scope X.env dv kdv [] pos pos.line) Q E s
  by_cases hd : ds = []
  · obtain ⟨e1, e2⟩ := B.none hd
    rw [e1]
    refine wpAny_bind (PySem.W.kdv_all0 (wpAny_bind (wpAny_holding (wpAny_pure ?_))))
    rw [makeFunction_eq]; simp only [List.zip_nil_right, List.filterMap_nil, List.isEmpty_nil, if_true, pure_bind]
    refine lam_tail I TB hcode hT L fun f c' doc pm ctv H1 s' I1 k _ T1 _ hf hn hfr hc _ => h f c' _ doc pm ctv H1 s' I1 k T1 hf hn hfr hc fun s1 _ => ⟨[], ?_, BindsTo.of_eq (e2 _ _ _ _ _)⟩
    have := B.len; rw [hd] at this
    exact (List.length_eq_zero_iff.mp this).symm
  · obtain ⟨i, j, p, n, e1, e2, e3, e4⟩ := B.some hd
    rw [e1]
    refine wpAny_bind (PySem.W.kdv_all1 (wpAny_Constant_int (PySem.W.kdv_all0 (wpAny_bind (wpAny_holding (wpAny_pure ?_))))))
    rw [makeFunction_eq]; simp only [List.zip_nil_right, List.filterMap_nil, List.isEmpty_nil, if_true, pure_bind, List.isEmpty_cons, Bool.false_eq_true, if_false]
    refine wpAny_bind (wpAny_newTextTuple ?_)
    generalize hv : (Value.int i s.toks) = v
    have I0 : Inv X pins σ H { s with heap := s.heap.push { cls := .type "tuple", data := .seq [v].toArray }, toks := s.toks + 1 } := I.kept (t' := s.toks + 1) fun b o e => Heap.get?_push_of_some _ e
    have hTp : (s.heap.push ({ cls := .type "tuple", data := .seq [v].toArray } : Obj)).get? s.heap.objs.size = some { cls := .type "tuple", data := .seq [v].toArray } := Heap.get?_push_size _ rfl
    have nT : H s.heap.objs.size = none := I.hok.fresh (Nat.le_refl _)
    obtain ⟨ps, hP, _, _⟩ := id hT
    have nP : s.heap.objs.size ≠ P := fun z => by rw [← z, nT] at hP; cases hP
    refine lam_tail I0 TB hcode hT L fun f c' doc pm ctv H1 s' I1 k _ T1 ks hf hn hfr hc kn => h f c' _ doc pm ctv H1 s' I1 k T1 hf hn hfr hc fun s1 k1 => ?_
    obtain ⟨kk, b1, b2⟩ := e4 (cloFrom X.env.cells scope.names []) s.heap.objs.size doc pm (.ref c') ctv v
    refine ⟨[(n, v)], by rw [e3]; rfl, BindsTo.of_defaults (T := s.heap.objs.size) (items := #[v]) (n := 0) rfl (k1 _ _ (ks _ _ nP hTp) (kn _ nT (by show _ < (s.heap.push _).objs.size; rw [Heap.size_push]; omega)) ?_) rfl b1 b2⟩
    intro z
    rcases List.mem_cons.mp (I.stkSub _ z) with e | e
    · have h1 := I.lt
      rw [← e] at h1; exact absurd h1 (Nat.lt_irrefl _)
    · exact I.nofs (Nat.le_refl _) e
end
end DI

set_option Elab.async false
set_option linter.all false
set_option maxRecDepth 100000
set_option maxHeartbeats 4000000
/-! the call of a lambda in the def that got it; told(lambda: ..) as a whole -/
namespace DI
open PySem PySem.Spec PyProof.Rows L2 GxR RZ
theorem ro_ntb {F : Fx} {m : List Addr} {H : Hp} {o : AO} {u : HO} (r : RO F m H o u) : ∀ ps, u ≠ .tbl ps := by
  cases r <;> exact fun _ z => by cases z
section
variable {X : Cx} {pins : List (Addr × Obj)} {σ : L2.St} {H HZ : Hp} {s s1 : Shared}
theorem lam_start3 {A : Around} {outer : List Env} {E : XK} {scope : Scope} {f c' : Addr} {h₁ : Heap} {tk : Nat} {bs : List (Str × Value)} (I : Inv X pins σ H s) (L : LamT X.N X.env.scope scope) (e0 : Env0 X.prog X.w X.K X.mg X.base A outer s1 HZ) (hd : A.handled = none)
    (un : Un (frs X.stack) [] H HZ s.heap s1.heap) (hns : h₁.Ns s1.heap.objs.size fun y => bs.reverse.lookup y) (kp : ∀ b o, s1.heap.get? b = some o → h₁.get? b = some o) :
    Inv (LamX.lamCx X A outer s1 HZ E scope f c') [] σ HZ { s1 with heap := h₁, toks := tk } := by
  have hfree := L.has I.ok
  have cm : ∀ {y c}, (cloFrom X.env.cells scope.names []).lookup y = some c → X.env.cells.lookup y = some c := fun {y c} e => by
    rcases cloFrom_mem (PySem.mem_of_lookup e) with hm | ⟨h1, h2⟩
    · cases hm
    · obtain ⟨c1, hc⟩ := hfree _ h1 rfl; have hc : X.env.cells.lookup y = some c1 := hc
      have e2 : c = c1 := by rw [h2, hc] <;> rfl
      rw [e2]; exact hc
  have look : ∀ {y}, scope.names.lookup y = some .free → ∃ c, (cloFrom X.env.cells scope.names []).lookup y = some c := fun {y} hl => by
    have hy : (y, NameKind.free) ∈ scope.names := PySem.mem_of_lookup hl
    exact mem_lookup (cloFrom_has (cells := X.env.cells) (acc := []) hy)
  have cellK : ∀ {c : Addr} {v : Option Value}, H c = none → s.heap.IsCell c v → h₁.IsCell c v := fun {c v} n ⟨o, ho, hd⟩ => by
    obtain ⟨sl, q⟩ := un.any ho n (by simp); exact ⟨_, kp _ _ q, hd⟩
  have noA : ∀ b : Addr, b ∉ (LamX.lamCx X A outer s1 HZ E scope f c').ex := fun b z => absurd (show b ∈ ([] : List Addr) from z) (by simp)
  refine ⟨⟨e0.mod, L.kind, rfl, rfl, Nat.le_refl _, fun y z c e1 e2 => I.ok.inj y z c (cm e1) (cm e2), fun y hy => ?_, fun y c z _ => ?_, fun _ => hd, Around.frames_deeper e0.frames, .inr ⟨rfl, rfl⟩, fun b z => absurd z (noA b), e0.bs, e0.bsz, fun b _ _ => noA b, fun b z => absurd z (noA b), e0.funs, e0.frf⟩,
    rfl, e0.bare, Un.kept kp, ⟨_, hns, fun i y v e1 e2 e3 => ?_⟩, fun y c e => ?_, e0.hok.fresh (Nat.le_refl _), fun y c e => ?_, fun q hq => absurd (show q ∈ ([] : List (Addr × Obj)) ++ [] from hq) (by simp), e0.hok.kept kp, I.len⟩
  · have hy : scope.names.lookup y = some .cell ∨ scope.names.lookup y = some .free := hy
    rcases hy with hy | hy
    · exact absurd rfl (L.cell _ (PySem.mem_of_lookup hy))
    · exact look hy
  · have z : false = true := z; cases z
  · have e3 : Vis scope y := e3
    rcases e3 with k | k | k
    · exact absurd (List.mem_of_getElem? e1) (L.own _ (PySem.mem_of_lookup k) rfl)
    · exact absurd rfl (L.cell _ (PySem.mem_of_lookup k))
    · obtain ⟨m, hn, hl⟩ := I.loc
      have hvis : Vis X.env.scope y := (L.free _ (PySem.mem_of_lookup k) rfl).elim (fun k => .inr (.inl k)) (fun k => .inr (.inr k))
      obtain ⟨w', r, q⟩ := hl i y v e1 e2 hvis
      obtain ⟨c2, h2⟩ := look k
      refine ⟨w', r, .inr ⟨.inr k, c2, h2, ?_⟩⟩
      have c1 := cm h2
      rcases q with ⟨k', _⟩ | ⟨_, c3, e', z⟩
      · have k' : X.env.scope.names.lookup y = some .local := k'
        rcases L.free _ (PySem.mem_of_lookup k) rfl with k2 | k2 <;> rw [show X.env.scope.names.lookup y = _ from k2] at k' <;> cases k'
      · rw [c1] at e'; cases e'
        exact cellK (I.freeC y _ c1) z
  · obtain ⟨w', z⟩ := I.cell y c (cm e)
    exact ⟨w', cellK (I.freeC y c (cm e)) z⟩
  · obtain ⟨v, o, ho, hd⟩ := I.cell y c (cm e)
    exact un.free c o ho (I.freeC y c (cm e)) (by simp)
/-- x(), in the def that got the lambda -/
theorem pe_act3 {Ng : List Str} {qg : Str} {sg : Scope} {g f c' : Addr} {cdg dV doc pm ctv : Value} {params : Arguments} {body : Expr} {scope : Scope} {ns : List Str} {k i : Nat} {a : Str} {Eg : XK} {pn : List (Addr × Obj)} {xe : Value → Shared → Prop} {W : L2.WX} {tb : XK → TE} {p1 p2 : Pos}
    (I : Inv X pins σ H s) (L : LamT X.N X.env.scope scope) (hf : s.heap.get? f = some (lamO (X.env.qual ++ "<lambda>") params body scope (cloFrom X.env.cells scope.names []) dV doc pm c' ctv)) (hfn : H f = none) (hfr : f ∉ frs X.stack)
    (hbind : ∀ s1 : Shared, (∀ b o, s.heap.get? b = some o → H b = none → b ∉ frs X.stack → s1.heap.get? b = some o) → ∃ bs : List (Str × Value), bs.map (·.1) = ns ∧ BindsTo s1 (PySem.W.kdv_fn "<lambda>" (X.env.qual ++ "<lambda>") params (.expr body) scope (cloFrom X.env.cells scope.names []) dV doc pm (.ref c') ctv) ⟨[], []⟩ bs)
    (hloc : ∀ y ∈ ns, scope.names.lookup y = some .local)
    (tk : L2.Takes ((cxOf (L2.CX X.prog X.w) X.prog X.w X.K X.mg X.base Ng qg sg g cdg X.A X.stack s H Eg).tr pn xe) W) (hr : Room (k + 1) (X.A.deeper (envOfC qg sg s.heap.objs.size g cdg)))
    (hbody : ∀ (A : Around) (outer : List Env) (s : Shared) (H : Hp) (E : XK), Room k (A.deeper (LamX.lamEnv X scope s.heap.objs.size f c')) → PE (LamX.lamCx X A outer s H E scope f c') body (tb E))
    (hN : Ng[i]? = some a) (hv : Vis sg a) (hd : (a == ("__debug__" : Str)) = false := by decide) (hcd : (a == ("__classdict__" : Str)) = false := by decide) :
    PE ((cxOf (L2.CX X.prog X.w) X.prog X.w X.K X.mg X.base Ng qg sg g cdg X.A X.stack s H Eg).tr pn xe) (.Call (.Name a p1) [] [] p2)
      (fun σZ HZ Q => σZ[i]? = some (some (.ref f)) ∧ HZ c' = some (LamX.CodeO c' (X.env.qual ++ "<lambda>")) ∧ tb (fun cls d H' => W cls d σZ H') σ HZ Q) := by
  refine ⟨fun pinsZ sZ σZ HZ Q IZ h => ?_⟩
  obtain ⟨hs, hc, ht⟩ := h
  refine wpAny_Call_Name_kw (thn ((pe_var (pos := p1) (i := i) hN hv hd hcd).run pinsZ sZ σZ HZ (fun v H1 => v = .ref f ∧ H1 = HZ) IZ ⟨.ref f, hs, rfl, rfl⟩) fun u s1 ⟨v, H1, I1, r1, q1⟩ => ?_)
  obtain ⟨rfl, rfl⟩ := q1
  obtain rfl : u = Value.ref f := r1
  have kept : ∀ b o, s.heap.get? b = some o → H b = none → b ∉ frs X.stack → s1.heap.get? b = some o := fun b o e n nf => I1.base.keep b o e n nf (fun z => nomatch (show b ∈ ([] : List Addr) from z))
  have of1 := kept f _ hf hfn hfr
  refine PySem.W.callWith_F0 ⟨_, _, _, _, of1⟩ ?_
  have un : Un (frs X.stack) [] H H1 s.heap s1.heap := I1.base
  obtain ⟨⟨oc, vs, t, hoc, hdc, hvc⟩, _, _⟩ := I1.hok c' _ hc
  obtain ⟨bs, hbn, hbt⟩ := hbind s1 kept
  have rc : codeAny (model X.prog X.w) (X.A.deeper (envOfC qg sg s.heap.objs.size g cdg)) (.call (.ref f) ⟨[], []⟩) (CR (L2.CX X.prog X.w) (envOfC qg sg s.heap.objs.size g cdg :: X.stack) X.prog X.w H1 s1 Q (fun cls d H' => W cls d σZ H')) s1 := by
    refine PySem.W.kla_callFunE hr.depth of1 rfl L.co L.gen rfl ⟨c', oc, vs, t, rfl, hoc, hdc, hvc⟩ (hbt _ _ _ _ ?_)
    refine wpAny_newFunctionEnv (fun y hy => L.cell y hy) (fun y hy => hloc _ (by rw [← hbn]; exact List.mem_map_of_mem hy)) (fun h₁ hns hsb => ⟨I1.nolimit.fresh _ hsb, ?_⟩) L.kind
    show codeAny _ _ (.expr body (LamX.lamEnv X scope s1.heap.objs.size f c')) _ _
    have kp : ∀ b o, s1.heap.get? b = some o → h₁.get? b = some o := fun b o e => hsb.extBut b o (Nat.ne_of_lt (Heap.lt_size e)) (Heap.get?_push_of_some _ e)
    have J : Inv (LamX.lamCx X (X.A.deeper (envOfC qg sg s.heap.objs.size g cdg)) (envOfC qg sg s.heap.objs.size g cdg :: X.stack) s1 H1 (fun cls d H' => W cls d σZ H') scope f c') [] σ H1 { s1 with heap := h₁, toks := s1.toks + bs.length } :=
      lam_start3 I L I1.env0 hr.hd un hns kp
    refine PySem.W.kla_codeExpr (wpAny_mono ((hbody _ _ s1 H1 _ (hr.deeper _)).run [] _ _ H1 Q J ht) (fun v s' hq => ?_) fun e s' hq => hq)
    obtain ⟨w', H', J', rv, q⟩ := hq
    exact ⟨w', H', J'.os, J'.bare, J'.base, J'.hok, rv, q⟩
  refine wpAny_call (codeAny_mono rc fun r s' hq => ?_)
  cases r with
  | error e => exact passAt tk σZ pinsZ H1 s1 e s' I1 hq
  | ok fl =>
    cases fl with
    | ret u => exact I1.after hq
    | next => exact False.elim hq
    | brk => exact False.elim hq
    | cont => exact False.elim hq
end
/-! ### told(lambda: ..) -/
def endX (o : So) : Out AV := match o with
  | .nx _ h => .ok .non h
  | .rt v h => .ok v h
  | _ => .bad
theorem endX_ok {F : Fx} {m : List Addr} {H : Hp} {o : So} {Q : VK} {E : XK} {W : WX'} (q : OkG F m H (endX o) (PV F Q) E) : OkS F W m H o { nx := fun _ H' => Q .non H', rt := Q } := by
  cases o with
  | nx ρ h' => exact fun m' H' σ' r M s => q m' H' r M .non .non
  | bk ρ h' => exact q.elim
  | ct ρ h' => exact q.elim
  | rt v h' => exact fun m' H' u r M ru => q m' H' r M u ru
  | exc c fs ρ h' => exact q.elim
  | bad => exact q.elim
def heardF (n jf jc je : Nat) (sub : Str → Option Bool) (fr : EvS) (θ : Hh → Out AV) (h : Hh) : Out AV :=
  endX (bindS (tryO sub jc je (bindE (θ h) (((List.replicate n none).set jf (some .non)).set jc (some .non)) fun v h1 => .nx ((((List.replicate n none).set jf (some .non)).set jc (some .non)).set jf (some v)) h1)) fr)
section
variable {X : Cx} {F : Fx} {W : WX'}
theorem rs_none {m : List Addr} {H : Hp} {N : List Str} {n : Nat} {vs : List V} (hn : N.length = n) (hv : vs.length ≤ n) : RS F m H (List.replicate n none) (L2.start N vs) := by
  refine ⟨by unfold L2.start; simp [hn]; omega, fun i v e => ?_⟩
  have := List.eq_of_mem_replicate (List.mem_of_getElem? e)
  cases this
/-- RH, Mono over the making of a lambda -/
theorem lam_kept {P : Addr} {q : Str} {m : List Addr} {h : Hh} {H H1 : Hp} (rh : RH F m h H) (hP : (P, q) ∈ F.L) (k : ∀ b o, H b = some o → b ≠ P → H1 b = some o) (T1 : LamX.TabS H1 P q) : RH F m h H1 ∧ Mono F m H m H1 := by
  obtain ⟨ps, eP, _, _⟩ := id (rh.lam _ hP)
  have eP : H P = some (.tbl ps) := eP
  have nP : ∀ b u, H b = some u → (∀ qs, u ≠ .tbl qs) → b ≠ P := fun b u e n z => by rw [z, eP] at e; exact n ps (Option.some.inj e).symm
  have im : ∀ b u, Imm u → H b = some u → H1 b = some u := fun b u i e => k b u e (nP b u e (fun qs z => by rw [z] at i; exact i))
  have tb : ∀ P' ∈ F.T, GxR.TabG H P' → GxR.TabG H1 P' := fun P' hP' ⟨qs, e, t⟩ => ⟨qs, k P' _ e (fun z => rh.dis _ hP (by show P ∈ F.T; rw [← z]; exact hP')), t⟩
  have lm : LamX.Tabs F.L H1 := fun p hp => by
    by_cases e : p.1 = P
    · have := rh.one p hp _ hP e
      rw [e, this]; exact T1
    · obtain ⟨qs, e1, e2, e3⟩ := rh.lam p hp
      refine ⟨qs, k _ _ e1 e, e2, fun pos cv hc => ?_⟩
      obtain ⟨c0, e4, e5⟩ := e3 pos cv hc
      exact ⟨c0, e4, im _ _ trivial e5⟩
  have M : Mono F m H m H1 := ⟨List.prefix_refl _, im, tb, fun _ => lm⟩
  refine ⟨⟨rh.len, rh.nd, rh.big, fun i a e => ?_, fun P' hP' => tb P' hP' (rh.tab P' hP'), lm, rh.dis, rh.one⟩, M⟩
  obtain ⟨o, u, e1, e2, e3⟩ := rh.at_ i a e
  exact ⟨o, u, e1, k _ _ e2 (nP _ _ e2 (ro_ntb e3)), e3.mono M⟩
theorem ce_heard {x a xf xc er y : Str} {N : List Str} {st : Stmt} {n jf jc je k : Nat} {c P : Addr} {params : Arguments} {body : Expr} {scope : Scope} {ds : List Int} {ns : List Str} {rest : List Stmt} {fr : EvS} {fθ : EvF} {sub : Str → Option Bool}
    {p lpos pos p1 p2 p3 p4 p5 p6 p7 p8 p9 p10 p11 p12 p13 p14 p15 p16 p17 : Pos} {k1 k2 k3 k4 : Nat}
    (hK : X.K = F.K) (hat : At F X.mg x st [a]) (S : FnScope N [a] (defScope st)) (hlen : N.length = n) (h0 : N[0]? = some a) (hjf : N[jf]? = some xf) (hjc : N[jc]? = some xc) (hje : N[je]? = some er) (n1 : jf ≠ 0) (n2 : jc ≠ 0) (n3 : jf ≠ jc) (n4 : je ≠ jc)
    (va : Vis (defScope st) a) (lf : (defScope st).names.lookup xf = some .local) (lc : (defScope st).names.lookup xc = some .local) (le : (defScope st).names.lookup er = some .local) (gy : (defScope st).names.lookup y = some .globalImplicit) (hsub : Xsub F X.mg y sub)
    (hbody : defBody st = .Assign [.Tuple [.Name xf p1, .Name xc p2] k1 p3] (.Tuple [.Constant .none k2 p4, .Constant .none k3 p5] k4 p6) p7 ::
      .Try [.Assign [.Name xf p8] (.Call (.Name a p9) [] [] p10) p11] [.ExceptHandler (some (.Name y p12)) (some er) [.Assign [.Name xc p13] (.Name er p14) p15] p16] [] [] p17 :: rest)
    (hw : ∀ (L f : Addr) (cdv : Value), swappedStores [.Tuple [.Name xf p1, .Name xc p2] k1 p3] (.Tuple [.Constant .none k2 p4, .Constant .none k3 p5] k4 p6) (envOfC x (defScope st) L f cdv) = pure none)
    (hs1 : ∀ (L f : Addr) (cdv : Value), swapsWithSole [.Tuple [.Name xf p1, .Name xc p2] k1 p3] (.Tuple [.Constant .none k2 p4, .Constant .none k3 p5] k4 p6) p7.line (envOfC x (defScope st) L f cdv) = pure false)
    (hs2 : ∀ (L f : Addr) (cdv : Value), swapsWith (.Call (.Name a p9) [] [] p10) (some (.Name xf p8)) p11.line (envOfC x (defScope st) L f cdv) = pure false)
    (hs3 : ∀ (L f : Addr) (cdv : Value), swapsWith (.Name er p14) (some (.Name xc p13)) p15.line (envOfC x (defScope st) L f cdv) = pure false)
    (hrest : ∀ (g : Addr) (cdv : Value) (A : Around) (outer : List Env) (s : Shared) (H : Hp), Room (k + 1) (A.deeper (envOfC x (defScope st) s.heap.objs.size g cdv)) →
      CSs (cxOf (L2.CX X.prog X.w) X.prog X.w X.K X.mg X.base N x (defScope st) g cdv A outer s H (fun _ _ _ => False)) F (fun _ _ _ _ => False) rest fr)
    (hcode : X.env.code = .ref c) (TB : GxR.TabB X.base X.mg c P) (hP : (P, X.env.qual ++ "<lambda>") ∈ F.L) (L : LamT X.N X.env.scope scope) (B : LBind (X.env.qual ++ "<lambda>") params body scope ds ns) (hr : Room (k + 2) X.A)
    (hθ : ∀ (A : Around) (outer : List Env) (s : Shared) (H : Hp) (E : XK) (f c' : Addr), Room k (A.deeper (LamX.lamEnv X scope s.heap.objs.size f c')) → CE (LamX.lamCx X A outer s H E scope f c') F (fun c d _ H => E c d H) body fθ) (gx : Gl X x)
    (hdx : (x == ("__debug__" : Str)) = false := by decide) (hda : (a == ("__debug__" : Str)) = false := by decide) (hca : (a == ("__classdict__" : Str)) = false := by decide) (hdy : (y == ("__debug__" : Str)) = false := by decide) (hde : (er == ("__debug__" : Str)) = false := by decide) (hce : (er == ("__classdict__" : Str)) = false := by decide) :
    CE X F W (.Call (.Name x p) [.Lambda params body scope lpos] [] pos) (fun ρ h => heardF n jf jc je sub fr (fθ ρ) h) := by
  refine ⟨fun pins s σ H Q I ⟨m, h, ρ, rh, rs, q⟩ => ?_⟩
  obtain ⟨g, fd, hm, hkp, h3, hb⟩ := hat.ex
  obtain ⟨oc, od, kV, doc, pm, an, cdv, ct, osl, rfl, lk, hcd⟩ := h3.ex
  obtain ⟨Cy, hmy, hex⟩ := hsub.ex
  refine wpAny_Call_Name_kw (ld_glob I gx hm ?_ hdx)
  refine PySem.W.callWith_K (h₀ := X.base) I.ok.mod.kin (by rw [hK]; exact hkp) ?_ (by rfl) (by rfl)
  show wpAny _ _ (spliced ((false, eval (.Lambda params body scope lpos) X.env) :: backTo pos (starEach [] X.env))) _ _ s
  refine Calls.spliced_cons (lam_make3 I TB hcode (rh.lam _ hP) L B fun f c' dV doc' pm' ctv H1 s' I1 kH T1 hf hfn hfr hco hbd => ?_)
  refine Calls.spliced_nil ⟨I1.kIn, ?_⟩
  obtain ⟨rh1, M1⟩ := lam_kept rh hP kH T1
  have rs1 := rs.mono M1
  have q1 := okg_mono q M1
  have rc : codeAny (model X.prog X.w) X.A (.call (.ref g) ⟨[.ref f], []⟩) (CR (L2.CX X.prog X.w) X.stack X.prog X.w H1 s' Q (fun _ _ _ => False)) s' := by
    have hbs := hb s' [.ref f] (by rw [← hK]; exact I1.kIn) rfl
    rw [List.append_nil] at hbs
    refine LamX.run_ofS (N := N) (ps := [a]) (us := [.ref f]) (vs := [.ref f]) (by rw [hK]; exact lk) (by rw [hK]; exact hcd) S hr I1.env0 hbs (.cons rfl .nil) rfl fun hr' => ?_
    have a1 : ∀ (W : L2.WX) (pn : List (Addr × Obj)) (xe : Value → Shared → Prop), L2.Takes ((cxOf (L2.CX X.prog X.w) X.prog X.w X.K X.mg X.base N x (defScope st) g cdv X.A X.stack s' H1 (fun _ _ _ => False)).tr pn xe) W → PE ((cxOf (L2.CX X.prog X.w) X.prog X.w X.K X.mg X.base N x (defScope st) g cdv X.A X.stack s' H1 (fun _ _ _ => False)).tr pn xe) (.Call (.Name a p9) [] [] p10)
        (fun σZ HZ Q => σZ[0]? = some (some (.ref f)) ∧ HZ c' = some (LamX.CodeO c' (X.env.qual ++ "<lambda>")) ∧ rdE F (fun c d _ H => W c d σZ H) fθ σ HZ Q) := fun W pn xe tk =>
      pe_act3 (tb := fun E => rdE F (fun c d _ H => E c d H) fθ) (i := 0) I1 L hf hfn hfr hbd B.loc tk hr' (fun A outer s H E hr2 => hθ A outer s H E f c' hr2) h0 va hda hca
    refine ⟨tSeq (tAsg (tTup (tCons (tC .non) (tCons (tC .non) tNil))) (gTup X.K 2 (gCons (gName jf) (gCons (gName jc) gNil)))) (tSeq (fun D σ1 H => (tAsg (fun σZ HZ Q => σZ[0]? = some (some (.ref f)) ∧ HZ c' = some (LamX.CodeO c' (X.env.qual ++ "<lambda>")) ∧ rdE F (fun c d _ H => (wKeep F.K (.ref Cy) je (fun _ _ _ => tAsg (tVar je) (gName jc)) (fun _ _ _ _ => False) D) c d σZ H) fθ σ HZ Q) (gName jf)) D σ1 H) (rdS F (fun _ _ _ _ => False) fr)), ?_, ?_⟩
    · rw [hbody]
      refine pss_cons (ps_asg (pe_tup (pa_cons pe_non (pa_cons pe_non pa_nil))) (pg_tup rfl (pgs_cons (pg_name (i := jf) S.nd hjf (.inl lf) (.inr lf)) (pgs_cons (pg_name (i := jc) S.nd hjc (.inl lc) (.inr lc)) pgs_nil))) (hs1 _ _ _) (hw _ _ _)) (pss_cons ?_ (hrest g cdv X.A X.stack s' H1 hr'))
      have z := ps_try_keep (X := cxOf (L2.CX X.prog X.w) X.prog X.w X.K X.mg X.base N x (defScope st) g cdv X.A X.stack s' H1 (fun _ _ _ => False)) (n := er) (x := y) (c := .ref Cy) (i := je) (np := p12) (pos := p17) (pos' := p16)
        (tb := fun W => tAsg (fun σZ HZ Q => σZ[0]? = some (some (.ref f)) ∧ HZ c' = some (LamX.CodeO c' (X.env.qual ++ "<lambda>")) ∧ rdE F (fun c d _ H => W c d σZ H) fθ σ HZ Q) (gName jf)) (Wout := fun _ _ _ _ => False)
        rfl rfl rfl S.nd hje le ⟨gy, hdy, .inl hmy⟩ LamX.takes0 (fun W pn xe tk _ => pss_one (ps_set (i := jf) S.nd hjf (.inl lf) (a1 W pn xe tk) (hs2 _ _ _) (.inr lf)))
        (fun a' oe cls d pn _ _ => pss_one (ps_set (i := jc) S.nd hjc (.inl lc) (pe_var hje (.inl le) hde hce) (hs3 _ _ _) (.inr lc)))
      have e : (cxOf (L2.CX X.prog X.w) X.prog X.w X.K X.mg X.base N x (defScope st) g cdv X.A X.stack s' H1 (fun _ _ _ => False)).K = F.K := hK
      rw [e] at z
      exact z
    · refine ⟨by rw [sizeLine_eq]; show 2 ≤ _; omega, fun tp ntp => ?_⟩
      refine ⟨tp, [.non, .non], rfl, .inl (.inl upd_same), rfl, .non, [.non], rfl, .non, [], rfl, rfl, ?_⟩
      have rh2 := rh1.laid (o := .tup [.non, .non]) ntp
      have M2 : Mono F m H1 m (upd H1 tp (.tup [.non, .non])) := Mono.laid ntp
      have q1 := okg_mono q1 M2
      have rs1 := rs1.mono M2
      have hco : (upd H1 tp (.tup [.non, .non])) c' = some (LamX.CodeO c' (X.env.qual ++ "<lambda>")) := by rw [upd_ne (ne_of_none hco ntp)]; exact hco
      have rs0 : RS F m (upd H1 tp (.tup [.non, .non])) (((List.replicate n none).set jf (some .non)).set jc (some .non)) (((L2.start N [.ref f]).set jf (some .non)).set jc (some .non)) := ((rs_none hlen (by
          have : 0 < N.length := by
            rcases List.getElem?_eq_some_iff.mp h0 with ⟨z, _⟩; exact z
          simp; omega)).set .non).set .non
      refine ⟨?_, hco, m, h, ρ, rh2, rs1, ?_⟩
      · rw [List.getElem?_set_ne n2, List.getElem?_set_ne n1]; rfl
      · have q2 : OkS F (fun _ _ _ _ => False) m (upd H1 tp (.tup [.non, .non])) (bindS (tryO sub jc je (bindE (fθ ρ h) (((List.replicate n none).set jf (some .non)).set jc (some .non)) fun v h1 => .nx ((((List.replicate n none).set jf (some .non)).set jc (some .non)).set jf (some v)) h1)) fr) { nx := fun _ H' => Q .non H', rt := Q } := endX_ok q1
        have q3 := try_ok n4 hex (oks_bind (N := fun σ' H' => rdS F (fun _ _ _ _ => False) fr { nx := fun _ H' => Q .non H', rt := Q } σ' H') q2 fun m1 H1 h1 ρ1 σ1 r1 s1 q => ⟨m1, h1, ρ1, r1, s1, q⟩)
        exact okg_imp (okg_stmt rs0 q3) fun v h1 m2 H2 r2 M2 q4 u ru => oks_nx r2 ((rs0.mono M2).set ru) q4
  refine wpAny_call (codeAny_mono rc fun r s2 hq => ?_)
  cases r with
  | error e => obtain ⟨_, _, _, _, _, _, _, _, _, _, _, _, z⟩ := hq; exact z.elim
  | ok fl =>
    cases fl with
    | ret u => exact I1.after hq
    | next => exact False.elim hq
    | brk => exact False.elim hq
    | cont => exact False.elim hq
end
end DI

set_option Elab.async false
set_option linter.all false
set_option maxRecDepth 100000
set_option maxHeartbeats 4000000
/-! any, all with two for, in the small machine; what is not served; calls without arguments -/
namespace DI
open PySem PySem.Spec PyProof.Rows L2 GxR RZ
def gx2L (go : Bool) (it : AIt) (g : EvG) (ft : EvT) (fi1 : Sl → Hh → Out AIt) (g1 : EvG) (ft1 : EvT) (fe : EvF) (vs vs1 : List Nat) (ρ : Sl) : Nat → Nat → Option (AIt × Sl × Nat) → Hh → Out AV
  | 0, _, _, _ => .bad
  | n + 1, k, none, h => match stepA it k h with
    | none => .bad
    | some none => .ok (.bl go) h
    | some (some x) => match g (wipeS ρ vs) x with
      | none => .bad
      | some ρ1 => bindO (noX (ft ρ1 h)) fun b h1 => if b = true then bindO (noX (fi1 ρ1 h1)) fun it1 h2 => gx2L go it g ft fi1 g1 ft1 fe vs vs1 ρ n k (some (it1, ρ1, 0)) h2
        else gx2L go it g ft fi1 g1 ft1 fe vs vs1 ρ n (k + 1) none h1
  | n + 1, k, some (it1, ρ1, j), h => match stepA it1 j h with
    | none => .bad
    | some none => gx2L go it g ft fi1 g1 ft1 fe vs vs1 ρ n (k + 1) none h
    | some (some x) => match g1 (wipeS ρ1 vs1) x with
      | none => .bad
      | some ρ2 => bindO (noX (ft1 ρ2 h)) fun b h1 => if b = true then bindO (noX (fe ρ2 h1)) fun y h2 => match asBl y with
          | some c => if c = go then gx2L go it g ft fi1 g1 ft1 fe vs vs1 ρ n k (some (it1, ρ1, j + 1)) h2 else .ok (.bl (!go)) h2
          | none => .bad
        else gx2L go it g ft fi1 g1 ft1 fe vs vs1 ρ n k (some (it1, ρ1, j + 1)) h1
def xGx2 (go : Bool) (fi : Sl → Hh → Out AIt) (g : EvG) (ft : EvT) (fi1 : Sl → Hh → Out AIt) (g1 : EvG) (ft1 : EvT) (fe : EvF) (vs vs1 : List Nat) : EvF := fun ρ h => bindO (fi ρ h) fun it h1 => gx2L go it g ft fi1 g1 ft1 fe vs vs1 ρ 100000 0 none h1
section
variable {F : Fx} {W : WX'}
theorem x_gx2 {P : Addr} {go : Bool} {wi wi1 : TI} {fi fi1 : Sl → Hh → Out AIt} {g g1 : TG} {gf gf1 : EvG} {is is1 vs vs1 : List Nat} {tt tt1 : TT} {ft ft1 : EvT} {te : TE} {fe : EvF} (hP : P ∈ F.T) (hi : Pit F W wi fi) (hg : Ptq F g gf is) (hv : ∀ i ∈ is, i ∈ vs) (ht : Ptt F Wno tt ft)
    (hi1 : Pit F Wno wi1 fi1) (hg1 : Ptq F g1 gf1 is1) (hv1 : ∀ i ∈ is1, i ∈ vs1) (ht1 : Ptt F Wno tt1 ft1) (he : Pe F Wno te fe) :
    Pe F W (GX.tGx2 P go wi g tt wi1 g1 tt1 te vs vs1) (xGx2 go fi gf ft fi1 gf1 ft1 fe vs vs1) := by
  intro m H h σ ρ Q rh rs q
  refine hi m H h σ ρ _ rh rs (okg_imp (okg_bind q) fun it h1 m1 H1 r1 M1 q1 J ij => ⟨r1.tab P hP, fun H2 tb => ?_⟩)
  have M2 : Mono F m1 H1 m1 H2 := Mono.tabbed (r1.nL hP) (r1.tab P hP) tb
  have r2 := r1.tabbed hP (r1.tab P hP) tb
  refine ⟨fun i n H' => ∃ m' h', RH F m' h' H' ∧ Mono F m1 H2 m' H' ∧ OkG F m' H' (gx2L go it gf ft fi1 gf1 ft1 fe vs vs1 ρ n i none h') (PV F Q) (fun c d H' => W c d σ H'), ⟨100000, _, _, r2, Mono.refl _ _, okg_mono q1 M2⟩, fun i n H2 ⟨m2, h2, r3, M3, q2⟩ => ?_⟩
  cases n with
  | zero => exact q2.elim
  | succ n =>
    unfold gx2L at q2
    have Mall := M2.trans M3
    obtain ⟨st, yl⟩ := ij m2 h2 H2 i r3 Mall
    cases z : stepA it i h2 with
    | none => simp only [z] at q2; exact q2.elim
    | some o =>
      cases o with
      | none => simp only [z] at q2; exact .inl ⟨st z, okg_ok r3 q2 _ (.bl go)⟩
      | some x =>
        simp only [z] at q2
        obtain ⟨go', yl⟩ := yl x z
        refine .inr ⟨go', fun v H3 y => ?_⟩
        obtain ⟨r4, M4, rx⟩ := yl v H3 y
        cases zg : gf (wipeS ρ vs) x with
        | none => simp only [zg] at q2; exact q2.elim
        | some ρ3 =>
          simp only [zg] at q2
          have s3 : RS F m2 H3 (wipeS ρ vs) (L2.wipe σ vs) := ((rs.mono (M1.trans Mall)).mono M4).wipe vs
          refine hg m2 H3 _ _ x v _ s3 rx ⟨ρ3, zg, fun σ3 s3 w3 => ⟨by rw [w3 vs hv, wipe_twice fun _ h => h], ?_⟩⟩
          refine ht m2 H3 h2 σ3 ρ3 _ r4 s3 (okg_imp (okg_nox (okg_bind (okg_mono q2 M4))) fun b h4 m4 H4 r5 M5 q4 => ?_)
          cases b with
          | false => exact ⟨n, Nat.lt_succ_self n, m4, h4, r5, M3.trans (M4.trans M5), q4⟩
          | true =>
            have s5 := s3.mono M5
            refine hi1 m4 H4 h4 σ3 ρ3 _ r5 s5 (okg_imp (okg_nox (okg_bind q4)) fun it1 h5 m5 H5 r6 M6 q5 J1 ij1 => ?_)
            have M7 := M3.trans (M4.trans (M5.trans M6))
            refine ⟨fun j k H' => ∃ m' h', RH F m' h' H' ∧ Mono F m5 H5 m' H' ∧ k ≤ n ∧ OkG F m' H' (gx2L go it gf ft fi1 gf1 ft1 fe vs vs1 ρ k i (some (it1, ρ3, j)) h') (PV F Q) (fun c d H' => W c d σ H'), ⟨n, Nat.lt_succ_self n, _, _, r6, Mono.refl _ _, Nat.le_refl _, q5⟩, fun j k H6 ⟨m6, h6, r7, M8, hk, q6⟩ => ?_⟩
            cases k with
            | zero => exact q6.elim
            | succ k =>
              unfold gx2L at q6
              obtain ⟨st1, yl1⟩ := ij1 m6 h6 H6 j r7 M8
              cases z1 : stepA it1 j h6 with
              | none => simp only [z1] at q6; exact q6.elim
              | some o1 =>
                cases o1 with
                | none => simp only [z1] at q6; exact .inl ⟨st1 z1, k, Nat.lt_succ_self k, by omega, m6, h6, r7, M7.trans M8, q6⟩
                | some x1 =>
                  simp only [z1] at q6
                  obtain ⟨go1, yl1⟩ := yl1 x1 z1
                  refine .inr ⟨go1, fun v1 H7 y1 => ?_⟩
                  obtain ⟨r8, M9, rx1⟩ := yl1 v1 H7 y1
                  cases zg1 : gf1 (wipeS ρ3 vs1) x1 with
                  | none => simp only [zg1] at q6; exact q6.elim
                  | some ρ4 =>
                    simp only [zg1] at q6
                    have s6 : RS F m6 H7 (wipeS ρ3 vs1) (L2.wipe σ3 vs1) := (s5.mono (M6.trans (M8.trans M9))).wipe vs1
                    refine hg1 m6 H7 _ _ x1 v1 _ s6 rx1 ⟨ρ4, zg1, fun σ4 s7 w4 => ⟨by rw [w4 vs1 hv1, wipe_twice fun _ h => h], ?_⟩⟩
                    refine ht1 m6 H7 h6 σ4 ρ4 _ r8 s7 (okg_imp (okg_nox (okg_bind (okg_mono q6 M9))) fun b1 h8 m8 H8 r9 M10 q8 => ?_)
                    have M11 := M8.trans (M9.trans M10)
                    cases b1 with
                    | false => exact ⟨k, Nat.lt_succ_self k, m8, h8, r9, M11, by omega, q8⟩
                    | true =>
                      refine he m8 H8 h8 σ4 ρ4 _ r9 (s7.mono M10) (okg_imp (okg_nox (okg_bind q8)) fun y2 h9 m9 H9 r10 M12 q9 u ru => ?_)
                      cases zl : asBl y2 with
                      | none => simp only [zl] at q9; exact q9.elim
                      | some c =>
                        simp only [zl] at q9
                        have := asBl_some zl
                        subst this
                        cases ru
                        refine ⟨c, rfl, ?_⟩
                        by_cases hc : c = go
                        · rw [if_pos hc] at q9 ⊢
                          exact ⟨k, Nat.lt_succ_self k, m9, h9, r10, M11.trans M12, by omega, q9⟩
                        · rw [if_neg hc] at q9 ⊢
                          exact okg_ok r10 q9 _ (.bl _)
end
section
variable {X : Cx} {F : Fx} {W : WX'}
/-- what an inner iterable reads, in the generator's frame -/
theorem ce_any2 {c P : Addr} {elt tg iter tg1 iter1 : Expr} {ifs ifs1 : List Expr} {p pos gpos : Pos} {scope : Scope} {own : List (Str × Nat)} {vs1 : List Nat} {k : Nat} {fi fi1 : Sl → Hh → Out AIt} {g g1 : EvG} {is is1 : List Nat} {ft ft1 : EvT} {fe : EvF}
    (hP : P ∈ F.T) (hr : Room (k + 1) X.A) (hgl : Gl X "any") (hm : X.mg "any" = none) (G : GX.GenOk X c P scope own iter) (hi : CI X F W tg iter fi) (hg : CGx X F k scope tg g is) (hv : ∀ i ∈ is, i ∈ own.map (·.2))
    (ht : ∀ s H C code fp B, Room k B → CTs (GX.gcx X s H scope (GX.gen0 X scope C code) fp B) F Wno ifs ft) (hi1 : ∀ s H C code fp B, Room k B → CI (GX.gcx X s H scope (GX.gen0 X scope C code) fp B) F Wno tg1 iter1 fi1) (hg1 : CGx X F k scope tg1 g1 is1)
    (hvv : ∀ i ∈ vs1, i ∈ own.map (·.2)) (hv1 : ∀ i ∈ is1, i ∈ vs1) (ht1 : ∀ s H C code fp B, Room k B → CTs (GX.gcx X s H scope (GX.gen0 X scope C code) fp B) F Wno ifs1 ft1)
    (he : ∀ s H C code fp B, Room k B → CE (GX.gcx X s H scope (GX.gen0 X scope C code) fp B) F Wno elt fe) (fold1 : ∀ (C : Addr) (code : Value) (x : Value), foldedSetIterable iter1 (GX.gen0 X scope C code) x = pure x := by intro _ _ _; rfl)
    (hse : starEach [GX.ge2 elt tg iter tg1 iter1 ifs ifs1 scope gpos] X.env = (false, eval (GX.ge2 elt tg iter tg1 iter1 ifs ifs1 scope gpos) X.env) :: starEach [] X.env := by rfl) :
    CE X F W (.Call (.Name "any" p) [.GeneratorExp elt [⟨tg, iter, ifs, 0⟩, ⟨tg1, iter1, ifs1, 0⟩] scope gpos] [] pos) (xGx2 false fi g ft fi1 g1 ft1 fe (own.map (·.2)) vs1) := by
  obtain ⟨t, a1, a2⟩ := hg
  obtain ⟨t1, b1, b2⟩ := hg1
  exact ce (GX.pe_anyG2 hr hgl hm G hi hvv fold1 hi1 b1 ht1 a1 ht he hse) (x_gx2 hP (rdI_ok fi) a2 hv (rdT_ok ft) (rdI_ok fi1) b2 hv1 (rdT_ok ft1) (rdE_ok fe))
theorem ce_all2 {c P : Addr} {elt tg iter tg1 iter1 : Expr} {ifs ifs1 : List Expr} {p pos gpos : Pos} {scope : Scope} {own : List (Str × Nat)} {vs1 : List Nat} {k : Nat} {fi fi1 : Sl → Hh → Out AIt} {g g1 : EvG} {is is1 : List Nat} {ft ft1 : EvT} {fe : EvF}
    (hP : P ∈ F.T) (hr : Room (k + 1) X.A) (hgl : Gl X "all") (hm : X.mg "all" = none) (G : GX.GenOk X c P scope own iter) (hi : CI X F W tg iter fi) (hg : CGx X F k scope tg g is) (hv : ∀ i ∈ is, i ∈ own.map (·.2))
    (ht : ∀ s H C code fp B, Room k B → CTs (GX.gcx X s H scope (GX.gen0 X scope C code) fp B) F Wno ifs ft) (hi1 : ∀ s H C code fp B, Room k B → CI (GX.gcx X s H scope (GX.gen0 X scope C code) fp B) F Wno tg1 iter1 fi1) (hg1 : CGx X F k scope tg1 g1 is1)
    (hvv : ∀ i ∈ vs1, i ∈ own.map (·.2)) (hv1 : ∀ i ∈ is1, i ∈ vs1) (ht1 : ∀ s H C code fp B, Room k B → CTs (GX.gcx X s H scope (GX.gen0 X scope C code) fp B) F Wno ifs1 ft1)
    (he : ∀ s H C code fp B, Room k B → CE (GX.gcx X s H scope (GX.gen0 X scope C code) fp B) F Wno elt fe) (fold1 : ∀ (C : Addr) (code : Value) (x : Value), foldedSetIterable iter1 (GX.gen0 X scope C code) x = pure x := by intro _ _ _; rfl)
    (hse : starEach [GX.ge2 elt tg iter tg1 iter1 ifs ifs1 scope gpos] X.env = (false, eval (GX.ge2 elt tg iter tg1 iter1 ifs ifs1 scope gpos) X.env) :: starEach [] X.env := by rfl) :
    CE X F W (.Call (.Name "all" p) [.GeneratorExp elt [⟨tg, iter, ifs, 0⟩, ⟨tg1, iter1, ifs1, 0⟩] scope gpos] [] pos) (xGx2 true fi g ft fi1 g1 ft1 fe (own.map (·.2)) vs1) := by
  obtain ⟨t, a1, a2⟩ := hg
  obtain ⟨t1, b1, b2⟩ := hg1
  exact ce (GX.pe_allG2 hr hgl hm G hi hvv fold1 hi1 b1 ht1 a1 ht he hse) (x_gx2 hP (rdI_ok fi) a2 hv (rdT_ok ft) (rdI_ok fi1) b2 hv1 (rdT_ok ft1) (rdE_ok fe))
/-! ### what is not served: nothing is promised -/
def xBad {α : Type} : Sl → Hh → Out α := fun _ _ => .bad
def sBad : EvS := fun _ _ => .bad
theorem ce_bad {e : Expr} : CE X F W e xBad := ⟨fun _ _ _ _ _ _ ⟨_, _, _, _, _, q⟩ => q.elim⟩
theorem ct_bad {e : Expr} : CT X F W e xBad := ⟨fun _ _ _ _ _ _ ⟨_, _, _, _, _, q⟩ => q.elim⟩
theorem cs_bad {s : Stmt} : CS X F W s sBad := ⟨fun _ _ _ _ _ _ ⟨_, _, _, _, _, q⟩ => q.elim⟩
theorem ci_bad {tg e : Expr} : CI X F W tg e xBad := ⟨fun _ _ _ _ _ _ ⟨_, _, _, _, _, q⟩ => q.elim⟩
/-! ### f() -/
def xA0 (g : List AV → Hh → Out AV) : EvF := fun _ h => g [] h
theorem ce_call0 {k j : Nat} {x : Str} {fn : List AV → Hh → Out AV} {p pos : Pos} (d : Dn X.prog X.w F X.mg X.base k x 0 fn) (hK : X.K = F.K) (hj : k ≤ j) (hr : Room j X.A) (tk : L2.Takes X W) (hg : Gl X x) (hdb : (x == ("__debug__" : Str)) = false := by decide) :
    CE X F W (.Call (.Name x p) [] [] pos) (xA0 fn) := by
  obtain ⟨f, fd, ps, h1, h2, h3, h4⟩ := d.ex
  refine ⟨fun pins s σ H Q I ⟨m, h, ρ, rh, rs, q⟩ => ?_⟩
  refine wpAny_Call_Name_kw (ld_glob I hg h1 ?_ hdb)
  have sp : spD F 0 fn [] H Q (WE W σ) := ⟨m, h, [], rh, .nil, rfl, q⟩
  exact PySem.W.callWith_K0 I.kIn (by rw [hK]; exact h2) (run_fnS (us := []) (E := fun σ => WE W σ) (k := k) (sp := spD F 0 fn) (CX := L2.CX X.prog X.w) (by rw [hK]; exact h3) (hr.mono hj) (by rw [hK]; exact h4) (passAt tk σ) I .nil sp)
theorem ce_call0G {k j : Nat} {x : Str} {fn : List AV → Hh → Out AV} {p pos : Pos} (d : DnG X.prog X.w F X.mg X.base k x 0 fn) (hK : X.K = F.K) (hG : X.A.guards = some []) (hj : k ≤ j) (hr : Room j X.A) (tk : L2.Takes X W) (hg : Gl X x) (hdb : (x == ("__debug__" : Str)) = false := by decide) :
    CE X F W (.Call (.Name x p) [] [] pos) (xA0 fn) := by
  obtain ⟨f, fd, ps, h1, h2, h3, h4⟩ := d.ex
  refine ⟨fun pins s σ H Q I ⟨m, h, ρ, rh, rs, q⟩ => ?_⟩
  refine wpAny_Call_Name_kw (ld_glob I hg h1 ?_ hdb)
  have sp : spD F 0 fn [] H Q (WE W σ) := ⟨m, h, [], rh, .nil, rfl, q⟩
  refine PySem.W.callWith_K0 I.kIn (by rw [hK]; exact h2) ?_
  have hl : ([] : List Value).length = ps.length := h3.len _ _ _ _ sp
  have b := h4 s [] (by rw [← hK]; exact I.kIn) (by rw [List.append_nil]; exact hl)
  rw [List.append_nil] at b
  refine wpAny_call (codeAny_mono (h3.run X.A X.stack s H ⟨[], []⟩ [] [] Q _ (hr.mono hj) hG (by rw [← hK]; exact I.env0) b .nil sp) fun r s' hq => ?_)
  cases r with
  | error e => exact passAt tk σ pins H s e s' I hq
  | ok fl =>
    cases fl with
    | ret u => exact I.after hq
    | next => exact False.elim hq
    | brk => exact False.elim hq
    | cont => exact False.elim hq
end
end DI

set_option Elab.async false
set_option linter.all false
set_option maxRecDepth 100000
set_option maxHeartbeats 4000000
/-! a def out of a table, called by a local name; defs that make lambdas -/
namespace DI
open PySem PySem.Spec PyProof.Rows L2 GxR RZ
section
variable {X : Cx} {F : Fx} {W : WX'}
def xCallV (i n : Nat) (tab : List (Str × (List AV → Hh → Out AV))) (fa : EvA) : EvF := fun ρ h => match ρ[i]? with
  | some (some (.gl x)) => match tab.lookup x with
    | some fn => bindO (fa ρ h) (onN n fn)
    | none => .bad
  | _ => .bad
theorem mem_of_look {β : Type} {x : Str} {b : β} : ∀ {l : List (Str × β)}, l.lookup x = some b → (x, b) ∈ l
  | [], e => by cases e
  | (y, c) :: l, e => by
    rw [List.lookup_cons] at e
    cases z : x == y with
    | true =>
      simp only [z] at e
      cases e
      rw [eq_of_beq z]; exact List.mem_cons_self
    | false => simp only [z] at e; exact List.mem_cons_of_mem _ (mem_of_look e)
theorem ce_callV {i n j : Nat} {x : Str} {tab : List (Str × (List AV → Hh → Out AV))} {p pos : Pos} {e : Expr} {es : List Expr} {fa : EvA} (hK : X.K = F.K) (hFG : ∀ y a, F.G y = some a → X.mg y = some (.ref a)) (hN : X.N[i]? = some x) (hv : Vis X.env.scope x)
    (ht : ∀ q ∈ tab, ∃ k, k ≤ j ∧ Dn X.prog X.w F X.mg X.base k q.1 n q.2) (hr : Room j X.A) (tk : L2.Takes X W) (ha : CA X F W (e :: es) fa)
    (hd : (x == ("__debug__" : Str)) = false := by decide) (hcd : (x == ("__classdict__" : Str)) = false := by decide) (he : starEach (e :: es) X.env = (false, eval e X.env) :: starEach es X.env := by rfl) (hpl : (backTo pos (starEach es X.env)).any (·.1) = false := by rfl) :
    CE X F W (.Call (.Name x p) (e :: es) [] pos) (xCallV i n tab fa) := by
  refine ⟨fun pins s σ H Q I ⟨m, h, ρ, rh, rs, q⟩ => ?_⟩
  unfold xCallV at q
  split at q
  · rename_i y ey
    split at q
    · rename_i fn ef
      obtain ⟨u0, e1, e2⟩ := rs.2 i _ ey
      cases e2 with
      | gl gy =>
        rename_i a
        obtain ⟨k, hk, d⟩ := ht _ (mem_of_look ef)
        obtain ⟨f, fd, ps, h1, h2, h3, h4⟩ := d.ex
        have ea : f = a := by
          have z := hFG _ _ gy
          rw [show X.mg y = some (.ref f) from h1] at z
          cases z; rfl
        subst ea
        refine wpAny_Call_Name_kw (thn ((pe_var (pos := p) (i := i) hN hv hd hcd).run pins s σ H (fun v H1 => v = .ref f ∧ H1 = H) I ⟨.ref f, e1, rfl, rfl⟩) fun u s1 ⟨v, H1, I1, r1, q1⟩ => ?_)
        obtain ⟨rfl, rfl⟩ := q1
        obtain rfl : u = Value.ref f := r1
        refine PySem.W.callWith_K (h₀ := X.base) I1.ok.mod.kin (by rw [hK]; exact h2) (thn (ha.run pos pins s1 σ H1 (fun us H' => spD F n fn us H' Q (WE W σ)) I1 ?_) fun us s2 ⟨vs, H2, I2, r, q2⟩ => ⟨I2.kIn, ?_⟩) he hpl
        · exact ⟨m, h, ρ, rh, rs, okg_imp (okg_bind q) fun xs h' m' H' r' M' q' us ru => p_spD r' ru q'⟩
        · exact run_fnS (E := fun σ => WE W σ) (k := k) (sp := spD F n fn) (CX := L2.CX X.prog X.w) (by rw [hK]; exact h3) (hr.mono hk) (by rw [hK]; exact h4) (passAt tk σ) I2 r q2
    · exact q.elim
  · exact q.elim
end
/-! ### a def that makes lambdas -/
section
variable {P : Program} {w : World} {F : Fx} {mg : Str → Option Value} {base : Heap}
structure AtL (F : Fx) (mg : Str → Option Value) (base : Heap) (x : Str) (st : Stmt) (ps : List Str) : Prop where
  ex : ∃ (f : Addr) (oc kV doc pm ct : Value) (an od : Option Addr) (c p : Addr) (osl : Array (Option Value)), mg x = some (.ref f) ∧ PySem.W.keepIn F.K (.ref f) = true ∧
    F.K.lookup f = some ⟨oc, od, .func (PySem.W.fnOf x x (defArgs st) (defBody st) (defScope st) .none kV doc pm an (.ref c) ct), osl⟩ ∧ PySem.W.codeIn F.K (.ref c) x = true ∧
    Binds F.K (PySem.W.fnOf x x (defArgs st) (defBody st) (defScope st) .none kV doc pm an (.ref c) ct) ps [] ∧ GxR.TabB base mg c p ∧ (p, x ++ ".<locals>." ++ "<lambda>") ∈ F.L
theorem dn_atL {x : Str} {st : Stmt} {N ps : List Str} {k : Nat} {fs : EvS} (h : AtL F mg base x st ps) (S : FnScope N ps (defScope st))
    (hbody : ∀ (E : XK) (f c p : Addr) (A : Around) (outer : List Env) (s : Shared) (H : Hp), Room k (A.deeper (envOfC x (defScope st) s.heap.objs.size f (.ref c))) → L2.Takes (cxOf (L2.CX P w) P w F.K mg base N x (defScope st) f (.ref c) A outer s H E) (fun c d _ H => E c d H) →
      PassesOwn (model P w) (cxOf (L2.CX P w) P w F.K mg base N x (defScope st) f (.ref c) A outer s H E).A (cxOf (L2.CX P w) P w F.K mg base N x (defScope st) f (.ref c) A outer s H E).env (cxOf (L2.CX P w) P w F.K mg base N x (defScope st) f (.ref c) A outer s H E).xe →
      GxR.TabB base mg c p → (p, x ++ ".<locals>." ++ "<lambda>") ∈ F.L →
      CSs (cxOf (L2.CX P w) P w F.K mg base N x (defScope st) f (.ref c) A outer s H E) F (fun c d _ H => E c d H) (defBody st) fs) :
    Dn P w F mg base (k + 1) x ps.length (defO N.length fs) := by
  obtain ⟨f, oc, kV, doc, pm, ct, an, od, c, p, osl, h1, h2, lk, hcd, h4, tb, hp⟩ := h.ex
  refine ⟨f, _, ps, h1, h2, ?_, h4⟩
  refine L2.fn_of lk hcd S (fun vs H Q E h => spD_len h) fun A outer s H vs Q E hr h => ?_
  exact ⟨rdS F (fun c d _ H => E c d H) fs, hbody E f c p A outer s H hr (takes_of rfl rfl rfl rfl) (passes_of rfl) tb hp, body_ok (rdS_ok fs) h⟩
theorem dn_atLG {x : Str} {st : Stmt} {N ps : List Str} {k : Nat} {fs : EvS} (h : AtL F mg base x st ps) (S : FnScope N ps (defScope st))
    (hbody : ∀ (E : XK) (f c p : Addr) (A : Around) (outer : List Env) (s : Shared) (H : Hp), Room k (A.deeper (envOfC x (defScope st) s.heap.objs.size f (.ref c))) → (A.deeper (envOfC x (defScope st) s.heap.objs.size f (.ref c))).guards = some [] →
      L2.Takes (cxOf (L2.CX P w) P w F.K mg base N x (defScope st) f (.ref c) A outer s H E) (fun c d _ H => E c d H) →
      PassesOwn (model P w) (cxOf (L2.CX P w) P w F.K mg base N x (defScope st) f (.ref c) A outer s H E).A (cxOf (L2.CX P w) P w F.K mg base N x (defScope st) f (.ref c) A outer s H E).env (cxOf (L2.CX P w) P w F.K mg base N x (defScope st) f (.ref c) A outer s H E).xe →
      GxR.TabB base mg c p → (p, x ++ ".<locals>." ++ "<lambda>") ∈ F.L →
      CSs (cxOf (L2.CX P w) P w F.K mg base N x (defScope st) f (.ref c) A outer s H E) F (fun c d _ H => E c d H) (defBody st) fs) :
    DnG P w F mg base (k + 1) x ps.length (defO N.length fs) := by
  obtain ⟨f, oc, kV, doc, pm, ct, an, od, c, p, osl, h1, h2, lk, hcd, h4, tb, hp⟩ := h.ex
  refine ⟨f, _, ps, h1, h2, ⟨fun vs H Q E s => spD_len s, fun A outer s H args us vs Q E hr hg e0 hb r hsp => ?_⟩, h4⟩
  refine LamX.run_ofS lk hcd S hr e0 hb r (spD_len hsp) fun hr' => ?_
  exact ⟨rdS F (fun c d _ H => E c d H) fs, hbody E f c p A outer s H hr' hg (takes_of rfl rfl rfl rfl) (passes_of rfl) tb hp, body_ok (rdS_ok fs) hsp⟩
end
end DI

set_option Elab.async false
set_option linter.all false
set_option maxRecDepth 100000
set_option maxHeartbeats 4000000
/-! xs * n -/
namespace DI
open PySem PySem.Spec PyProof.Rows L2 GxR RZ
section
variable {X : Cx} {F : Fx} {W : WX'}
def repA (k : Nat) (xs : List AV) : List AV := (List.replicate k xs).flatten
theorem rvs_rep {m : List Addr} {H : Hp} {xs : List AV} {us : List V} (r : RVs F m H xs us) : ∀ k, RVs F m H (repA k xs) (List.replicate k us).flatten
  | 0 => .nil
  | k + 1 => by
    unfold repA
    rw [List.replicate_succ, List.replicate_succ, List.flatten_cons, List.flatten_cons]
    exact rvs_app r (rvs_rep r k)
def gRepL : AV → AV → Hh → Out AV := fun x y h => match lstA x h, y with
  | some xs, .int k => if xs.length * k.toNat ≤ most ∧ -(2 ^ 63) ≤ k ∧ k < 2 ^ 63 then mkO (.lst (repA k.toNat xs)) h else .bad
  | _, _ => .bad
theorem p_repL : P2 F rRep gRepL := by
  intro m H h x y u v Q E rh rx ry q
  unfold gRepL at q
  split at q
  · rename_i xs k e1
    obtain ⟨i, a, us, rfl, _, ei, rfl, e2, ra⟩ := lstA_ok rh rx e1
    cases ry
    split at q
    · rename_i hz
      refine ⟨a, k, us, rfl, rfl, e2, hz.2.1, hz.2.2, by rw [rvs_len ra]; exact most_ok hz.1, mkO_ok rh (.lst (rvs_rep ra _)) q⟩
    · exact q.elim
  · exact q.elim
def gRepT : AV → AV → Hh → Out AV := fun x y h => match tupA x, y with
  | some xs, .int k => if xs ≠ [] ∧ 2 ≤ k ∧ k ≤ 1000 ∧ xs.length ≤ 1000 then .ok (.tup (repA k.toNat xs)) h else .bad
  | _, _ => .bad
theorem p_repT : P2 F (rRepT F.K) gRepT := by
  intro m H h x y u v Q E rh rx ry q
  unfold gRepT at q
  split at q
  · rename_i xs k e1
    obtain ⟨a, us, rfl, ha, ra⟩ := tupA_ok rx e1
    cases ry
    split at q
    · rename_i hz
      refine ⟨a, k, us, rfl, rfl, ha, fun e => hz.1 ((rvs_nil ra).mp e), hz.2.1, hz.2.2.1, by rw [rvs_len ra]; exact hz.2.2.2, fun p n => ?_⟩
      have M : Mono F m H m (upd H p (.tup (List.replicate k.toNat us).flatten)) := Mono.laid n
      exact okg_at q (rh.laid n) M _ (.tup upd_same ((rvs_rep ra _).mono M))
    · exact q.elim
  · exact q.elim
def gMulU := gOr gMul (gOr gRepL gRepT)
theorem opr_mulU : OpR X (binaryOp .Mult) (rOr (rI CMul fun i j => .int (i * j)) (rOr rRep (rRepT X.K))) := opr_or op_mul (opr_or op_rep op_repT)
theorem p_mulU (hK : X.K = F.K) : P2 F (rOr (rI CMul fun i j => .int (i * j)) (rOr rRep (rRepT X.K))) gMulU := by rw [hK]; exact p_or p_mul (p_or p_repL p_repT)
end
end DI

set_option Elab.async false
set_option linter.all false
set_option maxRecDepth 100000
set_option maxHeartbeats 4000000
/-! sorted(a tuple of ints), list(range(..)) -/
namespace DI
open PySem PySem.Spec PyProof.Rows L2 GxR RZ
section
variable {prog : Program} {w : World} {A : Around} {E : Value → Shared → Prop} {s : Shared}
theorem collect_tup {l : Addr} {vs : List Value} {Q : List Value → Shared → Prop} (hl : IsTup s.heap l vs.toArray) (hsz : vs.length ≤ sizeLine)
    (h : Q vs { s with heap := (s.heap.push (seqObj "list" #[] 0)).update s.heap.objs.size (Obj.mapSeq (· ++ vs.toArray)) }) : wpAny (model prog w) A (collect (.ref l)) Q E s := by
  obtain ⟨o, ho, hc, n, hd⟩ := id hl
  unfold collect; refine wpAny_bind (wpAny_runValue (codeAny_builtin entry_proto_collect' ?_))
  show wpAny _ _ (do again (.builtin "list.__iadd__" ⟨[← newList [], .ref l], []⟩)) _ _ s
  refine wpAny_bind (wpAny_newList (wpAny_pure ⟨Code.quiet_builtin _ (by decide +kernel), codeAny_builtin entry_list_iadd' ?_⟩))
  show wpAny _ _ (Builtin.List.listExtendWith (.ref s.heap.objs.size) (.ref l) (.ref s.heap.objs.size)) _ _ { s with heap := s.heap.push (seqObj "list" #[] 0) }
  unfold Builtin.List.listExtendWith
  have hol : (s.heap.push (seqObj "list" #[] 0)).get? l = some o := Heap.get?_push_of_some _ ho
  refine wpAny_bind (wpAny_typeOf (T := "tuple") ⟨o, hol, hc⟩ ?_)
  rw [if_pos (by rw [show (Value.type "tuple" == Value.type "tuple") = true from rfl]; simp)]
  refine wpAny_bind (listItems_at hol hd (wpAny_bind (listItems_at (xs := #[]) (n := 0) (Heap.get?_push_size _ rfl) rfl ?_)))
  rw [if_neg (by simp)]
  refine wpAny_bind (listUpdate_at (xs := #[]) (n := 0) (Heap.get?_push_size _ rfl) rfl (wpAny_pure ?_) (Nat.zero_le _) (by show (#[] ++ vs.toArray).size ≤ sizeLine + 1; simp only [Array.size_append, List.size_toArray, List.length_nil]; omega))
  show wpAny (model prog w) A (do let o ← load s.heap.objs.size
                                  match o.data with | .seq xs _ => pure xs.toList | _ => unsupported "internal:collect") Q E { s with heap := (s.heap.push (seqObj "list" #[] 0)).update s.heap.objs.size (Obj.mapSeq (· ++ vs.toArray)) }
  refine wpAny_bind (wpAny_load (get?_update_seq (Heap.get?_push_size _ rfl) _) ?_); show wpAny _ _ (pure ((#[] : Array Value) ++ vs.toArray).toList) Q E _
  rw [show ((#[] : Array Value) ++ vs.toArray).toList = vs by simp]
  exact wpAny_pure h
open SrtO in
theorem sorted_tupO {l : Addr} {vs : List Value} {lt : Value → Value → Bool} {Q : Value → Shared → Prop} (O : Swo lt) (hl : IsTup s.heap l vs.toArray) (hz : vs.length ≤ sizeLine)
    (hS : 2 ≤ vs.length → ∀ (g : Heap) (a : Addr), g.get? a = some (seqObj "list" vs.toArray 0) → (∀ b o, s.heap.get? b = some o → b ≠ a ∧ g.get? b = some o) → SortableO prog w A.in1.in1 { s with heap := g } a vs lt)
    (h : ∀ out : List Value, Srtd lt out → Stb lt out vs → Q (.ref (s.heap.objs.size + 1)) { s with heap := sortedAll s.heap vs out.toArray }) : wpAny (model prog w) A (call (.builtin "sorted") [.ref l]) Q E s := by
  refine Calls.call_function_entry kind_sorted plain_sorted entry_sorted (args_sorted1 _) ?_; unfold Builtin.«sorted»
  refine wpAny_bind (m := checkCount "sorted" 1 1 _) (wpAny_pure (wpAny_bind (collect_tup hl hz (wpAny_bind (wpAny_newList ?_ hz)))))
  have sz : ((s.heap.push (seqObj "list" #[] 0)).update s.heap.objs.size (Obj.mapSeq (· ++ vs.toArray))).objs.size = s.heap.objs.size + 1 := by rw [Heap.size_update, size_push']
  have at1 : (((s.heap.push (seqObj "list" #[] 0)).update s.heap.objs.size (Obj.mapSeq (· ++ vs.toArray))).push (seqObj "list" vs.toArray 0)).get? (s.heap.objs.size + 1) = some (seqObj "list" vs.toArray 0) := by rw [← sz]; exact Heap.get?_push_size _ rfl
  have kp : ∀ b o, s.heap.get? b = some o → b ≠ s.heap.objs.size + 1 ∧ (((s.heap.push (seqObj "list" #[] 0)).update s.heap.objs.size (Obj.mapSeq (· ++ vs.toArray))).push (seqObj "list" vs.toArray 0)).get? b = some o := fun b o q => by
    have lt1 : b < s.heap.objs.size := Heap.lt_size q
    exact ⟨Nat.ne_of_lt (Nat.lt_succ_of_lt lt1), Heap.get?_push_of_some _ (by rw [Heap.get?_update_ne _ _ _ _ (Nat.ne_of_lt lt1)]; exact Heap.get?_push_of_some _ q)⟩
  show wpAny _ _ _ _ _ { s with heap := ((s.heap.push (seqObj "list" #[] 0)).update s.heap.objs.size (Obj.mapSeq (· ++ vs.toArray))).push (seqObj "list" vs.toArray 0) }
  rw [sz]
  refine wpAny_bind (wpAny_holding (wpAny_call_entry slot_list_sort ⟨_, at1, rfl⟩ entry_list_sort (list_sort_ord O at1 hz (fun h2 => hS h2 _ _ at1 kp) fun out hs hb => ⟨_, rfl, ?_⟩) (args_list_sort _)))
  exact wpAny_pure ⟨_, rfl, h out hs hb⟩
end
section
variable {X : Cx} {F : Fx} {W : WX'}
def rSortTI (K : PySem.W.Frag) : List V → Hp → VK → Prop := fun vs H Q => ∃ (a : Addr) (ns : List Int), vs = [V.ref a] ∧ SqT K H a (ns.map V.int) ∧ ∀ (out : List Int) (p : Addr), out.Perm ns → out.Pairwise (· ≤ ·) → H p = none → Q (.ref p) (upd H p (.lst (out.map V.int)))
theorem cr_sortTI : CallR X (.builtin "sorted") (rSortTI X.K) := by
  intro pins s σ H vs us Q I r h
  obtain ⟨a, ns, rfl, hs, q⟩ := h
  obtain ⟨its, rv, hl, hz⟩ := I.tuple hs
  rw [Vals.ref1 r]
  have hi := rv.ints
  refine sorted_tupO SrtO.swo_int hl (by rw [← rv.length]; exact hz) (fun h2 g a' _ _ => SrtO.ints_sortable hi h2) fun out h1 h2 => ?_
  obtain ⟨k1, k2, k3⟩ := SrtO.ints_out hi h1 h2
  obtain ⟨ep, he'⟩ := PyProof.Rows.sortedAll_at s.heap its out.toArray
  have ln : ((out.map SrtO.iv).map V.int).length ≤ sizeLine := by
    rw [List.length_map, k2.length_eq]; rw [List.length_map] at hz; exact hz
  exact ⟨.ref _, upd H (s.heap.objs.size + 1) (.lst ((out.map SrtO.iv).map V.int)), I.laid (t' := s.toks) (fun _ _ => PyProof.Rows.sortedAll_old) (Nat.le_succ _) ⟨ln, out, ep, vals_of_ints k1, he'⟩, rfl, q _ _ k2 k3 (I.hok.fresh (Nat.le_succ _))⟩
def gSortT : AV → Hh → Out AV := fun x h => match tupA x with
  | some xs => match mapO asInt xs with
    | some ns => mkO (.lst ((sortA ns).map .int)) h
    | none => .bad
  | none => .bad
theorem p_sortT : PLs F (rSortTI F.K) (g1 gSortT) := by
  intro m H h xs us Q E rh r q0
  obtain ⟨x, u, rfl, rfl, rx, q⟩ := one_ok r q0
  clear q0
  unfold gSortT at q
  split at q
  · split at q
    · rename_i ys e _ ns e2
      obtain ⟨a, vs, rfl, ha, ra⟩ := tupA_ok rx e
      refine ⟨a, ns, rfl, by rw [← ints_ok ra e2]; exact ha, fun ns' p pm pw np => ?_⟩
      rw [← sort_one' pm pw] at q
      exact mkO_ok rh (.lst (rv_ints ns')) q p np
    · exact q.elim
  · exact q.elim
def gSortU2 := gOrL gSortU (g1 gSortT)
theorem ce_sorted2 {p pos : Pos} {e : Expr} {fa : EvA} (hK : X.K = F.K) (hc : X.calm = true) (hg : Gl X "sorted") (hm : X.mg "sorted" = none) (ha : CA X F W [e] fa)
    (he : starEach (e :: []) X.env = (false, eval e X.env) :: starEach [] X.env := by rfl) (hpl : (backTo pos (starEach [] X.env)).any (·.1) = false := by rfl) : CE X F W (.Call (.Name "sorted" p) [e] [] pos) (xA gSortU2 fa) :=
  ce_callB (cr_or (cr_or cr_sortedI (call_sortedDI hc)) cr_sortTI) (p_orL (p_orL (by rw [hK]; exact p_sorted) p_sortD) (by rw [hK]; exact p_sortT)) hg hm (by decide +kernel) ha (by decide) (by decide) he hpl
/-! ### list(a range) -/
def rgA (lo hi : Int) : List AV := (List.range (hi - lo).toNat).map fun i => .int (lo + (i : Nat))
def rLstRg : List V → Hp → VK → Prop := fun xs H Q => ∃ (a : Addr) (lo hi : Int), xs = [.ref a] ∧ H a = some (.rng lo hi) ∧ RgOk lo hi ∧ ∀ p, H p = none → Q (.ref p) (upd H p (.lst (rgV lo hi)))
theorem call_listRgV (hc : X.calm = true) : CallR X (.type "list") rLstRg := by
  intro pins s σ H vs us Q I r h
  obtain ⟨a, lo, hi, rfl, e, ⟨b1, b2, b3, b4, b5⟩, q⟩ := h
  cases r with
  | cons r1 rr =>
    cases rr; cases r1
    obtain ⟨t, u, v, hget⟩ := I.hok a _ e
    refine call_list_range (n := (hi - lo).toNat) (I.ok.hd hc) hget (small_one b1 b2 b3 b4) (rangeSize_nat lo hi) b5 fun h' tk acc c' hk e' hi' => ?_
    refine ⟨.ref s.heap.objs.size, upd H s.heap.objs.size (.lst (rgV lo hi)), I.laid hk (Nat.le_refl _) (show ObjOk X.prog X.w _ _ _ (.lst (rgV lo hi)) from ⟨?_, acc.toList, c', vals_rg hi', ?_⟩), rfl, q _ (I.hok.fresh (Nat.le_refl _))⟩
    · rw [rgV_length, sizeLine_eq]; omega
    · rw [Array.toArray_toList]; exact e'
def gLstRg : AV → Hh → Out AV := fun x h => match x with
  | .rg lo hi => if -(2 ^ 62) ≤ lo ∧ lo < 2 ^ 62 ∧ -(2 ^ 62) ≤ hi ∧ hi < 2 ^ 62 ∧ (hi - lo).toNat ≤ 2 ^ 20 then mkO (.lst (rgA lo hi)) h else .bad
  | _ => .bad
theorem rvs_map {α : Type} {m : List Addr} {H : Hp} {f : α → AV} {g : α → V} (r : ∀ a, RV F m H (f a) (g a)) : ∀ l : List α, RVs F m H (l.map f) (l.map g)
  | [] => .nil
  | a :: l => .cons (r a) (rvs_map r l)
theorem p_lstRg : PLs F rLstRg (g1 gLstRg) := by
  intro m H h xs us Q E rh r q0
  obtain ⟨x, u, rfl, rfl, rx, q⟩ := one_ok r q0
  clear q0
  unfold gLstRg at q
  split at q
  · rename_i lo hi
    cases rx with
    | rg e =>
      split at q
      · rename_i hz
        exact ⟨_, lo, hi, rfl, e, ⟨hz.1, hz.2.1, hz.2.2.1, hz.2.2.2.1, by have := hz.2.2.2.2; omega⟩, mkO_ok rh (.lst (rvs_map (fun i => .int _) _)) q⟩
      · exact q.elim
  · exact q.elim
def gListU2 := gOrL gListU (g1 gLstRg)
theorem ce_list2 {p pos : Pos} {e : Expr} {fa : EvA} (hK : X.K = F.K) (hc : X.calm = true) (hg : Gl X "list") (hm : X.mg "list" = none) (ha : CA X F W [e] fa)
    (he : starEach (e :: []) X.env = (false, eval e X.env) :: starEach [] X.env := by rfl) (hpl : (backTo pos (starEach [] X.env)).any (·.1) = false := by rfl) : CE X F W (.Call (.Name "list" p) [e] [] pos) (xA gListU2 fa) :=
  ce_callTy (cr_or (cr_or call_list_of (call_listD hc)) (call_listRgV hc)) (p_orL (p_orL (by rw [hK]; exact p_list) p_listD) p_lstRg) hg hm (by decide +kernel) ha (by decide) (by decide) he hpl
end
end DI

set_option Elab.async false
set_option linter.all false
set_option maxRecDepth 100000
set_option maxHeartbeats 4000000
/-! tuple(d) of a dict -/
namespace DI
open PySem PySem.Spec PyProof.Rows L2
section
variable {prog : Program} {w : World} {A : Around} {E : Value → Shared → Prop} {s : Shared} {d : Addr} {kvs : List (Key × Value)} {ep : Nat}
theorem tuple_new_dict {Q₁ : Value → Shared → Prop} (hh : A.handled = none) (lo : (d == sysModules) = false) (hd : s.heap.DictAt (mixKind prog w) d kvs ep) (hn : kvs.length ≤ sizeLine)
    (q : ∀ (h' : Heap) (tk : Nat) (acc : Array Value), (∀ b o, s.heap.get? b = some o → h'.get? b = some o) → ItemsOf (fun i v => ∃ k x, kvs[i]? = some (k, x) ∧ (mixKind prog w).is k v = true) acc kvs.length →
      Q₁ (.ref h'.objs.size) { s with heap := h'.push { cls := .type "tuple", data := .seq acc }, toks := tk }) :
    codeAny (model prog w) A (.call (.builtin "tuple.__new__") ⟨[.type "tuple", .ref d], []⟩) (wants Q₁ E) s := by
  have src := PySem.W.kdl_dict (prog := prog) (w := w) (knd := mixKind prog w) (kvs := kvs) (ep := ep) (d := d) lo
  refine codeAny_of_tree ?_
  show wpAny _ A.in1 (checkBuiltinCall "tuple.__new__" ⟨[.type "tuple", .ref d], []⟩ >>= fun _ => again (.builtin "tuple.__new__" ⟨[.type "tuple", .ref d], []⟩)) _ _ s
  refine wpAny_bind (wpAny_of_eq (F.newCall_tuple_1 _) (wpAny_pure ⟨plainId_quiet F.plain_tuple_new _, codeAny_builtin F.entry_tuple_new ?_⟩))
  rw [Around.under_plainId F.plain_tuple_new _]
  have hsub := sub_tuple_self
  have hinit := init_tuple_lookup
  have hmh := madeHere_tuple
  have hTI : s.TypeIs (.ref d) "dict" := src.type s hd
  have h1 : A.in1.handled = none := hh
  wp_walk using wpAny_typeOf hTI, PySem.W.kdu_collect (A := A.in1) src h1 hd hn
  intro h' tk acc hk hacc
  have hz : acc.toList.toArray.size ≤ sizeLine := by
    rw [Array.toArray_toList, hacc.1]; exact hn
  have he : acc.toList.toArray = acc := Array.toArray_toList
  show wpAny _ _ (Builtin.Tuple.tupleExact acc.toList.toArray >>= fun v => ret v) _ _ _
  unfold Builtin.Tuple.tupleExact
  refine wpAny_bind (wpAny_newObj_type ?_ hz)
  rw [he]
  exact wpAny_pure (q h' tk acc hk hacc)
theorem call_tuple_dict {Q : Value → Shared → Prop} (hh : A.handled = none) (lo : (d == sysModules) = false) (hd : s.heap.DictAt (mixKind prog w) d kvs ep) (hn : kvs.length ≤ sizeLine)
    (q : ∀ (h' : Heap) (tk : Nat) (acc : Array Value), (∀ b o, s.heap.get? b = some o → h'.get? b = some o) → ItemsOf (fun i v => ∃ k x, kvs[i]? = some (k, x) ∧ (mixKind prog w).is k v = true) acc kvs.length →
      Q (.ref h'.objs.size) { s with heap := h'.push { cls := .type "tuple", data := .seq acc }, toks := tk }) :
    wpAny (model prog w) A (call (.type "tuple") [.ref d]) Q E s := by
  refine callType_codes (Q₁ := fun obj s₁ => s₁.TypeIs obj "tuple" ∧ Q obj s₁) F.called_tuple (F.typeCall_tuple_1 _) F.entry_object_init
    (tuple_new_dict (A := A.in1) hh lo hd hn fun h' tk acc hk hacc => ⟨⟨_, Heap.get?_push_size _ rfl, rfl⟩, q h' tk acc hk hacc⟩) fun obj s₁ z => ?_
  exact ⟨z.1, F.args_object_init_2 obj _, object_init_meets F.called_tuple.init.lookup F.called_tuple.made (by decide) prog w A.in1 _ s₁ ⟨z.1, rfl, z.2⟩⟩
end
/-- tuple(d): the keys -/
def rTupD : List V → Hp → VK → Prop := fun xs H Q => ∃ p kvs, xs = [.ref p] ∧ H p = some (.dK kvs) ∧ ∀ q, H q = none → Q (.ref q) (upd H q (.tup (kvs.map fun kv => kV kv.1)))
theorem call_tupD {X : Cx} (hc : X.calm = true) : CallR X (.type "tuple") rTupD := by
  intro pins s σ H xs us Q I r z
  obtain ⟨p, kvs, rfl, hk, q⟩ := z
  obtain ⟨u, rfl, rx⟩ := vals1 r
  obtain rfl : u = Value.ref p := rx
  obtain ⟨zl, lo, vs, rk, hd⟩ := (show ObjOk X.prog X.w H s.heap p (.dK kvs) from I.hok p _ hk)
  obtain ⟨ep, hat⟩ := hd.dictAt
  have hl : kvs.length = vs.length := Paired.length rk
  refine call_tuple_dict (I.ok.hd hc) lo hat (by rw [← hl]; exact zl) fun h' tk acc hk' hi => ?_
  have I2 : Inv X pins σ H { s with heap := h', toks := tk } := I.kept hk'
  have el : acc.toList.length = acc.size := Array.length_toList
  refine ⟨.ref h'.objs.size, upd H h'.objs.size (.tup (kvs.map fun kv => kV kv.1)), I2.laid (t' := tk) (fun c o e => Heap.get?_push_of_some _ e) (Nat.le_refl _) (show ObjOk X.prog X.w _ _ _ (.tup (kvs.map fun kv => kV kv.1)) from ⟨?_, acc.toList, ?_, ?_⟩), rfl, q _ (I2.hok.fresh (Nat.le_refl _))⟩
  · rw [List.length_map]; exact zl
  · refine vals_of_at (by rw [List.length_map, el, hi.1, hl]) fun j x w e1 e2 => ?_
    obtain ⟨k, y, a1, a2⟩ := hi.2 j w (by rw [← Array.getElem?_toList]; exact e2)
    have b1 : (kvs.map (·.1))[j]? = some k := by rw [KV.keys rk, List.getElem?_map, a1]; rfl
    have b2 : (kvs.map fun kv => kV kv.1) = (kvs.map (·.1)).map kV := by rw [List.map_map]; rfl
    rw [b2, List.getElem?_map, b1] at e1
    cases e1
    exact keyIs_rel a2
  · rw [Array.toArray_toList]; exact IsTup.new _ _
section
variable {X : Cx} {F : Fx} {W : WX'}
def gTupD : AV → Hh → Out AV := fun x h => match dkA x h with
  | some kvs => .ok (.tup (kvs.map fun kv => kA kv.1)) h
  | none => .bad
theorem p_tupD : PLs F rTupD (g1 gTupD) := by
  intro m H h xs us Q E rh r q0
  obtain ⟨x, u, rfl, rfl, rx, q⟩ := one_ok r q0
  clear q0
  unfold gTupD at q
  split at q
  · rename_i kvs e
    obtain ⟨a, us, rfl, ha, ra⟩ := dkA_ok rh rx e
    refine ⟨a, us, rfl, ha, fun p n => ?_⟩
    have M : Mono F m H m (upd H p (.tup (us.map fun kv => kV kv.1))) := Mono.laid n
    exact okg_at q (rh.laid n) M (.ref p) (.tup upd_same ((rv_keys ra).mono M))
  · exact q.elim
def gTupU := gOrL (g1 gTuple) (g1 gTupD)
theorem ce_tupleU {p pos : Pos} {e : Expr} {fa : EvA} (hK : X.K = F.K) (hc : X.calm = true) (hg : Gl X "tuple") (hm : X.mg "tuple" = none) (ha : CA X F W [e] fa)
    (he : starEach (e :: []) X.env = (false, eval e X.env) :: starEach [] X.env := by rfl) (hpl : (backTo pos (starEach [] X.env)).any (·.1) = false := by rfl) : CE X F W (.Call (.Name "tuple" p) [e] [] pos) (xA gTupU fa) :=
  ce_callTy (cr_or call_tuple_of (call_tupD hc)) (p_orL (by rw [hK]; exact p_tuple) p_tupD) hg hm (by decide +kernel) ha (by decide) (by decide) he hpl
end
end DI

set_option Elab.async false
set_option linter.all false
set_option maxRecDepth 100000
set_option maxHeartbeats 4000000
/-! x op= e, xs[i] op= e -/
namespace DI
open PySem PySem.Spec PyProof.Rows L2 GxR RZ
section
variable {X : Cx} {F : Fx} {W : WX'}
/-- an item of a list, by a place from 0 on -/
def rGetL (K : PySem.W.Frag) : R2 := fun x y H Q => ∃ p xs i z, x = .ref p ∧ y = .int i ∧ SqL K H p xs ∧ 0 ≤ i ∧ atI xs i = some z ∧ Q z H
theorem get_list : PGet X (rGetL X.K) := by
  intro pins s σ H x y v u Q I rx ry q
  obtain ⟨p, xs, i, z, rfl, rfl, hq, h0, he, q⟩ := q
  cases rx
  obtain ⟨t, rfl⟩ := ry
  obtain ⟨its, r, pl, hz⟩ := I.list hq
  obtain ⟨j, g1, g2, g3, g4, g5⟩ := atI_get he
  obtain ⟨w, ew, rw'⟩ := r.get g2
  have hl := r.length
  have hn := line63
  have hj : i.toNat = j := by
    rw [seqIndex_of h0 g5] at g1
    exact Option.some.inj g1
  exact wpAny_getItem_list pl.isList h0 (by omega) (by rw [hj]; simpa using ew) ⟨z, H, I, rw', q⟩
def gGetL : AV → AV → Hh → Out AV := fun x y h => match y with
  | .int i => if 0 ≤ i then gIxL x (.int i) h else .bad
  | _ => .bad
theorem p_getL : P2 F (rGetL F.K) gGetL := by
  intro m H h x y u v Q E rh ru rv q
  unfold gGetL at q
  split at q
  · rename_i i
    split at q
    · rename_i h0
      obtain ⟨p, xs, k, z, e1, e2, e3, e4, e5⟩ := p_ixL m H h x (.int i) u v Q E rh ru rv q
      cases rv
      cases e2
      exact ⟨p, xs, i, z, e1, rfl, e3, h0, e4, e5⟩
    · exact q.elim
  · exact q.elim
def sAugS (g : AV → AV → Hh → Out AV) (fo fi fe : EvF) : EvS := fun ρ h => bindE (fo ρ h) ρ fun o h1 => bindE (fi ρ h1) ρ fun i h2 => bindE (gGetL o i h2) ρ fun x h3 => bindE (fe ρ h3) ρ fun y h4 => bindE (g x y h4) ρ fun z h5 => match storeL o i z h5 with
  | some h6 => .nx ρ h6
  | none => .bad
def sAugN (j : Nat) (g : AV → AV → Hh → Out AV) (fe : EvF) : EvS := fun ρ h => match ρ[j]? with
  | some (some x) => bindE (fe ρ h) ρ fun y h1 => bindE (g x y h1) ρ fun z h2 => .nx (ρ.set j (some z)) h2
  | _ => .bad
theorem s_augN {j : Nat} {r : R2} {g : AV → AV → Hh → Out AV} {te : TE} {fe : EvF} (hr : P2 F r g) (he : Pe F W te fe) : Pst F W (tAug j te r) (sAugN j g fe) := by
  intro m H h σ ρ D rh rs q
  unfold sAugN at q
  split at q
  · rename_i x ex
    obtain ⟨u, e1, ru⟩ := rs.2 j x ex
    refine ⟨u, e1, he m H h σ ρ _ rh rs (okg_imp (okg_stmt rs q) fun y h1 m1 H1 r1 M1 q1 v rv => ?_)⟩
    refine hr m1 H1 h1 x y u v _ _ r1 (ru.mono M1) rv (okg_imp (okg_stmt (rs.mono M1) q1) fun z h2 m2 H2 r2 M2 q2 c rc => ?_)
    exact oks_nx r2 (((rs.mono M1).mono M2).set rc) q2
  · exact q.elim
theorem cs_augN {j : Nat} {x : Str} {e : Expr} {op : Operator} {r : R2} {g : AV → AV → Hh → Out AV} {fe : EvF} {p pos : Pos} (hN : X.N.Nodup) (hi : X.N[j]? = some x) (hx : Loc X.env.scope x) (ho : PIp X op r) (hr : P2 F r g) (he : CE X F W e fe)
    (hf : X.fn x = true ∨ X.env.scope.names.lookup x = some .local := by first | exact .inl rfl | exact .inr rfl | assumption) : CS X F W (.AugAssign (.Name x p) op e pos) (sAugN j g fe) :=
  cs (ps_aug hN hi hx he ho hf) (s_augN hr (rdE_ok fe))
theorem s_augS {r : R2} {g : AV → AV → Hh → Out AV} {to ti te : TE} {fo fi fe : EvF} (hr : P2 F r g) (ho : Pe F W to fo) (hi : Pe F W ti fi) (he : Pe F W te fe) : Pst F W (tAugS to ti te (rGetL F.K) r rSetL) (sAugS g fo fi fe) := by
  intro m H h σ ρ D rh rs q
  refine ho m H h σ ρ _ rh rs (okg_imp (okg_stmt rs q) fun o h1 m1 H1 r1 M1 q1 a ra => ?_)
  have s1 := rs.mono M1
  refine hi m1 H1 h1 σ ρ _ r1 s1 (okg_imp (okg_stmt s1 q1) fun i h2 m2 H2 r2 M2 q2 b rb => ?_)
  have s2 := s1.mono M2
  refine p_getL m2 H2 h2 o i a b _ _ r2 (ra.mono M2) rb (okg_imp (okg_stmt s2 q2) fun x h3 m3 H3 r3 M3 q3 c rc => ?_)
  have s3 := s2.mono M3
  refine he m3 H3 h3 σ ρ _ r3 s3 (okg_imp (okg_stmt s3 q3) fun y h4 m4 H4 r4 M4 q4 d rd => ?_)
  have s4 := s3.mono M4
  refine hr m4 H4 h4 x y c d _ _ r4 (rc.mono M4) rd (okg_imp (okg_stmt s4 q4) fun z h5 m5 H5 r5 M5 q5 e re => ?_)
  have s5 := s4.mono M5
  have Mo := M2.trans (M3.trans (M4.trans M5))
  have Mi := M3.trans (M4.trans M5)
  cases w : storeL o i z h5 with
  | none => simp only [w] at q5; exact q5.elim
  | some h6 =>
    simp only [w] at q5
    unfold storeL at w
    split at w
    · rename_i n k
      split at w
      · rename_i xs e1
        split at w
        · rename_i j e2
          cases w
          have rb := rb.mono Mi
          cases rb
          have ra := ra.mono Mo
          cases ra with
          | @ref _ p e3 =>
            obtain ⟨us, e4, e5⟩ := lstAt_ok r5 e3 e1
            have ro : RO F m5 H5 (.lst xs) (.lst us) := .lst e5
            have M6 : Mono F m5 H5 m5 (upd H5 p (.lst (us.set j e))) := Mono.write e4 ro.mut
            refine ⟨p, us, k, j, rfl, rfl, e4, by rw [rvs_len e5]; exact e2, ?_⟩
            exact oks_nx (r5.write (lstAt_get e1) e3 e4 ro (.lst (rvs_set re j e5))) (s5.mono M6) (oks_mono q5 M6)
        · cases w
      · cases w
    · cases w
theorem cs_augS {o i e : Expr} {op : Operator} {r : R2} {g : AV → AV → Hh → Out AV} {fo fi fe : EvF} {tpos pos : Pos} (hK : X.K = F.K) (hop : PIp X op r) (hr : P2 F r g) (ho : CE X F W o fo) (hi : CE X F W i fi) (he : CE X F W e fe)
    (ha : ∀ ov iv new, augStore i ov iv new = (do holding [new, ov, iv] (setItem ov iv new); release [new, ov, iv] []; pure .next) := by intros; rfl) : CS X F W (.AugAssign (.Subscript o i tpos) op e pos) (sAugS g fo fi fe) := by
  refine cs (ps_augS ho hi get_list he hop set_list ha) ?_
  rw [hK]
  exact s_augS hr (rdE_ok fo) (rdE_ok fi) (rdE_ok fe)
end
end DI

set_option Elab.async false
set_option linter.all false
set_option maxRecDepth 100000
set_option maxHeartbeats 4000000
/-! defs that call themselves: one level a depth -/
namespace DI
open PySem PySem.Spec PyProof.Rows L2 GxR RZ
section
variable {P : Program} {w : World} {F : Fx} {mg : Str → Option Value} {base : Heap}
def fBad : List AV → Hh → Out AV := fun _ _ => .bad
/-- at depth 0 nothing is promised -/
theorem dn_zero {x : Str} {st : Stmt} {N ps : List Str} {k : Nat} (h : At F mg x st ps) (S : FnScope N ps (defScope st)) : Dn P w F mg base k x ps.length fBad := by
  obtain ⟨f, fd, h1, h2, h3, h4⟩ := h.ex
  refine ⟨f, fd, ps, h1, h2, ⟨fun vs H Q E s => spD_len s, fun A outer s H args us vs Q E hr e0 hb r q => ?_⟩, h4⟩
  obtain ⟨_, _, _, _, _, _, z⟩ := q
  exact z.elim
end
end DI

set_option Elab.async false
set_option linter.all false
set_option maxRecDepth 100000
set_option maxHeartbeats 4000000
/-! comprehensions of dicts -/
namespace DI
open PySem PySem.Spec PyProof.Rows L2 GxR RZ
section
variable {F : Fx} {W : WX'} {m : List Addr} {H : Hp}
theorem key_rel {x : AV} {u : V} {k : Key} (r : RV F m H x u) (e : keyA x = some k) : u = kV k := by
  cases r <;> first | (cases e; rfl) | cases e
def dcL (it : AIt) (g : EvG) (ft : EvT) (fk fe : EvF) (vs : List Nat) (d : Nat) (ρ : Sl) : Nat → Nat → Hh → Out AV
  | 0, _, _ => .bad
  | n + 1, k, h => match stepA it k h with
    | none => .bad
    | some none => .ok (.ref d) h
    | some (some x) => match g (wipeS ρ vs) x with
      | none => .bad
      | some ρ1 => bindO (noX (ft ρ1 h)) fun b h1 => if b = true then bindO (noX (fk ρ1 h1)) fun ky h2 => bindO (noX (fe ρ1 h2)) fun y h3 => match h3.get d, keyA ky with
          | some (.dk acc), some kk => if acc.length < most then dcL it g ft fk fe vs d ρ n (k + 1) (h3.put d (.dk (putA kk y acc))) else .bad
          | _, _ => .bad
        else dcL it g ft fk fe vs d ρ n (k + 1) h1
def xDc (fi : Sl → Hh → Out AIt) (g : EvG) (ft : EvT) (fk fe : EvF) (vs : List Nat) : EvF := fun ρ h => bindO (fi ρ h) fun it h1 => if h1.n < big then dcL it g ft fk fe vs h1.n ρ 100000 0 (h1.new (.dk [])) else .bad
theorem x_dc {wi : TI} {fi : Sl → Hh → Out AIt} {g : TG} {gf : EvG} {is vs : List Nat} {tt : TT} {ft : EvT} {tk te : TE} {fk fe : EvF} (hi : Pit F W wi fi) (hg : Ptq F g gf is) (hv : ∀ i ∈ is, i ∈ vs) (ht : Ptt F Wno tt ft) (hk : Pe F Wno tk fk) (he : Pe F Wno te fe) :
    Pe F W (tDc wi g tt tk te vs) (xDc fi gf ft fk fe vs) := by
  intro m H h σ ρ Q rh rs q
  refine hi m H h σ ρ _ rh rs (okg_imp (okg_bind q) fun it h1 m1 H1 r1 M1 q1 J ij D nD => ?_)
  by_cases hb : h1.n < big
  · rw [if_pos hb] at q1
    have M2 : Mono F m1 H1 (m1 ++ [D]) (upd H1 D (.dK [])) := Mono.new nD
    have r2 : RH F (m1 ++ [D]) (h1.new (.dk [])) (upd H1 D (.dK [])) := r1.new nD hb (.dk .nil)
    have eD : (m1 ++ [D])[h1.n]? = some D := by rw [← r1.len, List.getElem?_append_right (Nat.le_refl _)]; simp
    refine ⟨fun i n H' => ∃ m' h', RH F m' h' H' ∧ Mono F (m1 ++ [D]) (upd H1 D (.dK [])) m' H' ∧ OkG F m' H' (dcL it gf ft fk fe vs h1.n ρ n i h') (PV F Q) (fun c d H' => W c d σ H'), ⟨100000, _, _, r2, Mono.refl _ _, okg_mono q1 M2⟩, fun i n H2 ⟨m2, h2, r3, M3, q2⟩ => ?_⟩
    cases n with
    | zero => exact q2.elim
    | succ n =>
      unfold dcL at q2
      have Mall := M2.trans M3
      obtain ⟨st, yl⟩ := ij m2 h2 H2 i r3 Mall
      cases z : stepA it i h2 with
      | none => simp only [z] at q2; exact q2.elim
      | some o =>
        cases o with
        | none => simp only [z] at q2; exact .inl ⟨st z, okg_ok r3 q2 _ (.ref (pre_get M3.pre eD))⟩
        | some x =>
          simp only [z] at q2
          obtain ⟨go, yl⟩ := yl x z
          refine .inr ⟨go, fun H' => ∃ m' h', RH F m' h' H' ∧ Mono F (m1 ++ [D]) (upd H1 D (.dK [])) m' H' ∧ OkG F m' H' (dcL it gf ft fk fe vs h1.n ρ n (i + 1) h') (PV F Q) (fun c d H' => W c d σ H'), fun H' w => ⟨n, Nat.lt_succ_self n, w⟩, fun v H3 y => ?_⟩
          obtain ⟨r4, M4, rx⟩ := yl v H3 y
          cases zg : gf (wipeS ρ vs) x with
          | none => simp only [zg] at q2; exact q2.elim
          | some ρ3 =>
            simp only [zg] at q2
            have s3 : RS F m2 H3 (wipeS ρ vs) (L2.wipe σ vs) := ((rs.mono (M1.trans Mall)).mono M4).wipe vs
            refine hg m2 H3 _ _ x v _ s3 rx ⟨ρ3, zg, fun σ3 s3 w3 => ⟨?_, ?_⟩⟩
            · rw [w3 vs hv, wipe_twice fun _ h => h]
            · refine ht m2 H3 h2 σ3 ρ3 _ r4 s3 (okg_imp (okg_nox (okg_bind (okg_mono q2 M4))) fun b h4 m4 H4 r5 M5 q4 => ?_)
              cases b with
              | false => exact ⟨m4, h4, r5, M3.trans (M4.trans M5), q4⟩
              | true =>
                refine hk m4 H4 h4 σ3 ρ3 _ r5 (s3.mono M5) (okg_imp (okg_nox (okg_bind q4)) fun ky h5 m5 H5 r6 M6 q5 uk ruk => ?_)
                refine he m5 H5 h5 σ3 ρ3 _ r6 ((s3.mono M5).mono M6) (okg_imp (okg_nox (okg_bind q5)) fun y h6 m6 H6 r7 M7 q6 u ru => ?_)
                have M8 := M3.trans (M4.trans (M5.trans (M6.trans M7)))
                cases zl : h6.get h1.n with
                | none => simp only [zl] at q6; exact q6.elim
                | some o =>
                  cases o with
                  | lst _ => simp only [zl] at q6; exact q6.elim
                  | dt _ => simp only [zl] at q6; exact q6.elim
                  | fk _ => simp only [zl] at q6; exact q6.elim
                  | dk acc =>
                    cases zk : keyA ky with
                    | none => simp only [zl, zk] at q6; exact q6.elim
                    | some kk =>
                      simp only [zl, zk] at q6
                      obtain ⟨a, w, e1, e2, e3⟩ := r7.of zl
                      rw [pre_get M8.pre eD] at e1; cases e1
                      cases e3 with
                      | @dk _ us ra =>
                        split at q6
                        · rename_i hz
                          have ro : RO F m6 H6 (.dk acc) (.dK us) := .dk ra
                          have M9 : Mono F m6 H6 m6 (upd H6 D (.dK (putK us kk u))) := Mono.write e2 ro.mut
                          refine ⟨us, kk, key_rel ruk zk, e2, by rw [rkv_len ra]; unfold most at hz; rw [sizeLine_eq]; omega, m6, h6.put h1.n (.dk (putA kk y acc)), ?_, M8.trans M9, okg_mono q6 M9⟩
                          exact r7.write zl (pre_get M8.pre eD) e2 ro (.dk (putA_ok ru ra))
                        · exact q6.elim
  · rw [if_neg hb] at q1; exact q1.elim
end
section
variable {X : Cx} {F : Fx} {W : WX'}
theorem ce_dc {kx vx tg iter : Expr} {ifs : List Expr} {scope : Scope} {own : List (Str × Nat)} {pos : Pos} {fi : Sl → Hh → Out AIt} {g : EvG} {is : List Nat} {ft : EvT} {fk fe : EvF} (hc : X.calm = true) (hN : X.N.Nodup) (hi : CI X F W tg iter fi) (ok : BlkOk X.N X.env.scope scope own)
    (hg : CGb X F scope tg g is) (hv : ∀ i ∈ is, i ∈ own.map (·.2))
    (ht : ∀ (s : Shared) (H : Hp) (C : Addr) (cl : List (Str × Addr)) (fp : List Addr), CTs (X.blk s H scope (compEnvC scope cl C X.env) fp) F Wno ifs ft)
    (hk : ∀ (s : Shared) (H : Hp) (C : Addr) (cl : List (Str × Addr)) (fp : List Addr), CE (X.blk s H scope (compEnvC scope cl C X.env) fp) F Wno kx fk)
    (he : ∀ (s : Shared) (H : Hp) (C : Addr) (cl : List (Str × Addr)) (fp : List Addr), CE (X.blk s H scope (compEnvC scope cl C X.env) fp) F Wno vx fe) (hs : ∀ x, foldedSetIterable iter X.env x = pure x := by intro _; rfl) :
    CE X F W (.DictComp kx vx [⟨tg, iter, ifs, 0⟩] scope pos) (xDc fi g ft fk fe (own.map (·.2))) := by
  obtain ⟨t, a1, a2⟩ := hg
  exact ce (pe_dc hc hN hi ok a1 ht hk he hs) (x_dc (rdI_ok fi) a2 hv (rdT_ok ft) (rdE_ok fk) (rdE_ok fe))
end
end DI

set_option Elab.async false
set_option linter.all false
set_option maxRecDepth 100000
set_option maxHeartbeats 4000000
/-! repr of data in which empty dicts stand -/
namespace DI
open PySem PySem.Spec PyProof.Rows L2 GxR RZ
/-- the part of the heap that is fixed holds the dict of modules -/
structure SysD (K : PySem.W.Frag) : Prop where
  ex : ∃ o es n, K.lookup sysModules = some o ∧ o.data = .dict es n
mutual
inductive Dq (K : PySem.W.Frag) (H : Hp) : V → PyData → Prop
  | non : Dq K H .non .none
  | bl (b : Bool) : Dq K H (.bl b) (.bool b)
  | int (i : Int) : Dq K H (.int i) (.int i)
  | str (x : Str) : Dq K H (.str x) (.str x)
  | lst {a : Addr} {xs : List V} {ds : List PyData} : SqL K H a xs → DqAll K H xs ds → Dq K H (.ref a) (.list ds)
  | tup {a : Addr} {xs : List V} {ds : List PyData} : SqT K H a xs → DqAll K H xs ds → Dq K H (.ref a) (.tuple ds)
  | edk {a : Addr} : H a = some (.dK []) → Dq K H (.ref a) (.dict [])
inductive DqAll (K : PySem.W.Frag) (H : Hp) : List V → List PyData → Prop
  | nil : DqAll K H [] []
  | cons {v : V} {vs : List V} {d : PyData} {ds : List PyData} : Dq K H v d → DqAll K H vs ds → DqAll K H (v :: vs) (d :: ds)
end
section
variable {X : Cx} {pins : List (Addr × Obj)} {σ : L2.St} {H : Hp} {s : Shared}
theorem not_sys (I : Inv X pins σ H s) (sd : SysD X.K) {a : Addr} {o : Obj} (e : s.heap.get? a = some o) (hd : ∀ es n, o.data ≠ .dict es n) : sysModules ≠ a := fun z => by
  obtain ⟨o', es, n, h1, h2⟩ := sd.ex
  have g := I.kIn sysModules o' h1
  rw [z, e] at g
  cases g
  exact hd _ _ h2
mutual
theorem Dq.reads (I : Inv X pins σ H s) (sd : SysD X.K) : ∀ (d : PyData) (v : V) (u : Value), Dq X.K H v d → RelV v u → ∃ as, Reads s.heap u d as ∧ sysModules ∉ as
  | .none, v, u, h, r => by cases h; cases r; exact ⟨_, .none, by simp⟩
  | .bool b, v, u, h, r => by cases h; cases r; exact ⟨_, .bool b, by simp⟩
  | .int i, v, u, h, r => by cases h; obtain ⟨t, rfl⟩ := r; exact ⟨_, .int i t, by simp⟩
  | .str x, v, u, h, r => by cases h; obtain ⟨t, rfl⟩ := r; exact ⟨_, .str x t, by simp⟩
  | .list ds, v, u, h, r => by
    cases h with
    | lst hs ha =>
      cases r
      obtain ⟨its, rv, ⟨o, n, ho, hc, _, hd⟩, _⟩ := I.list hs
      obtain ⟨as, g1, g2⟩ := DqAll.reads I sd ds _ its ha rv
      refine ⟨_, .list ho hc hd g1, fun z => ?_⟩
      rcases List.mem_cons.mp z with z | z
      · exact not_sys I sd ho (fun es n z => by rw [hd] at z; cases z) z
      · exact g2 z
  | .tuple ds, v, u, h, r => by
    cases h with
    | tup hs ha =>
      cases r
      obtain ⟨its, rv, ⟨o, ho, hc, n, hd⟩, _⟩ := I.tuple hs
      obtain ⟨as, g1, g2⟩ := DqAll.reads I sd ds _ its ha rv
      exact ⟨_, .tuple ho hc hd g1, g2⟩
  | .dict kvs, v, u, h, r => by
    cases h with
    | @edk a ha =>
      cases r
      obtain ⟨z, lo, vs, rk, hd⟩ := (show ObjOk X.prog X.w H s.heap a (.dK []) from I.hok a _ ha)
      cases rk
      obtain ⟨o, es, ep, ho, hx, hdt, hk, hp, _⟩ := hd
      have e : es.toList = [] := by
        cases q : es.toList with
        | nil => rfl
        | cons x r => rw [q] at hp; cases hp
      refine ⟨_, .dict (n := ep) ho hx.1 hdt (by rw [e]; exact .nil) (by rw [e]; exact .nil), fun z => ?_⟩
      have z : sysModules = a := by simpa using z
      rw [← z] at lo
      simp at lo
theorem DqAll.reads (I : Inv X pins σ H s) (sd : SysD X.K) : ∀ (ds : List PyData) (vs : List V) (us : List Value), DqAll X.K H vs ds → Vals vs us → ∃ as, ReadsAll s.heap us ds as ∧ sysModules ∉ as
  | [], _, _, h, r => by cases h; cases r; exact ⟨_, .nil, by simp⟩
  | d :: ds, _, _, h, r => by
    cases h with
    | cons h1 h2 =>
      cases r with
      | cons r1 r2 =>
        obtain ⟨as, g1, g2⟩ := Dq.reads I sd d _ _ h1 r1
        obtain ⟨bs, g3, g4⟩ := DqAll.reads I sd ds _ _ h2 r2
        refine ⟨_, .cons g1 g3, fun z => ?_⟩
        rcases List.mem_append.mp z with z | z
        · exact g2 z
        · exact g4 z
end
end
section
variable {X : Cx} {F : Fx} {W : WX'}
def rReprE (K : PySem.W.Frag) : List V → Hp → VK → Prop := fun xs H Q => ∃ (a : Addr) (d : PyData), xs = [.ref a] ∧ Dq K H (.ref a) d ∧ d.showable = true ∧ d.depth ≤ 64 ∧ d.shown.length ≤ sizeLine ∧ Q (.str d.shown) H
theorem cr_reprE {k : Nat} (sd : SysD X.K) (hg : X.A.guards = some []) (hr : Room k X.A) : CallR X (.builtin "repr") (rReprE X.K) := by
  intro pins s σ H xs us Q I r h
  obtain ⟨a, d, rfl, hd, h1, h3, h4, q⟩ := h
  obtain ⟨u, rfl, rx⟩ := L2.vals1 r
  obtain ⟨as, g1, g2⟩ := Dq.reads I sd d _ u hd rx
  obtain rfl : u = Value.ref a := rx
  exact PySem.repr_of_reads' g1 h1 (fun _ => g2) hg (by have := hr.un; omega) (fun _ _ e => e) (fun h' u' tk hk => ⟨.str d.shown, H, I.kept (t' := tk) hk, ⟨u', rfl⟩, q⟩) h4
def toE : Nat → Hh → AV → Option D
  | 0, _, _ => none
  | k + 1, h, v => match v with
    | .non => some .none
    | .bl b => some (.bool b)
    | .int i => some (.int i)
    | .str x => some (.str x)
    | .tup xs => match mapO (toE k h) xs with
      | some ds => some (.tuple ds)
      | none => none
    | .kt xs => match mapO (toE k h) xs with
      | some ds => some (.tuple ds)
      | none => none
    | .sl xs => match mapO (toE k h) xs with
      | some ds => some (.list ds)
      | none => none
    | .ref i => match h.get i with
      | some (.lst xs) => match mapO (toE k h) xs with
        | some ds => some (.list ds)
        | none => none
      | some (.dk []) => some (.dict [])
      | _ => none
    | _ => none
variable {m : List Addr} {H : Hp} {h : Hh}
theorem toEs_ok {f : AV → Option D} (ih : ∀ v u d, RV F m H v u → f v = some d → Dq F.K H u d) : ∀ {xs : List AV} {us : List V} {ds : List D}, RVs F m H xs us → mapO f xs = some ds → DqAll F.K H us ds
  | _, _, _, .nil, e => by cases e; exact .nil
  | x :: r, _, ds, .cons rx rr, e => by
    unfold mapO at e
    cases e1 : f x with
    | none => simp only [e1] at e; cases e
    | some y =>
      cases e2 : mapO f r with
      | none => simp only [e1, e2] at e; cases e
      | some ys =>
        simp only [e1, e2] at e
        cases e
        exact .cons (ih _ _ _ rx e1) (toEs_ok ih rr e2)
theorem toE_ok (rh : RH F m h H) : ∀ (k : Nat) (v : AV) (u : V) (d : D), RV F m H v u → toE k h v = some d → Dq F.K H u d
  | 0, _, _, _, _, e => by cases e
  | k + 1, v, u, d, r, e => by
    unfold toE at e
    cases v with
    | non => cases e; cases r; exact .non
    | bl b => cases e; cases r; exact .bl b
    | int i => cases e; cases r; exact .int i
    | str x => cases e; cases r; exact .str x
    | tup xs =>
      cases z : mapO (toE k h) xs with
      | none => simp only [z] at e; cases e
      | some ds =>
        simp only [z] at e; cases e
        cases r with
        | tup h1 h2 => exact .tup (.inl (.inl h1)) (toEs_ok (fun v u d => toE_ok rh k v u d) h2 z)
    | kt xs =>
      cases z : mapO (toE k h) xs with
      | none => simp only [z] at e; cases e
      | some ds =>
        simp only [z] at e; cases e
        cases r with
        | kt h1 h2 => exact .tup (kt_at h1) (toEs_ok (fun v u d => toE_ok rh k v u d) h2 z)
    | sl xs =>
      cases z : mapO (toE k h) xs with
      | none => simp only [z] at e; cases e
      | some ds =>
        simp only [z] at e; cases e
        cases r with
        | sl h1 h2 => exact .lst h1.sql (toEs_ok (fun v u d => toE_ok rh k v u d) h2 z)
    | ref i =>
      cases r with
      | @ref _ a ra =>
        cases zg : h.get i with
        | none => simp only [zg] at e; cases e
        | some o =>
          obtain ⟨a', w, e1, e2, e3⟩ := rh.of zg
          rw [ra] at e1; cases e1
          cases o with
          | lst xs =>
            simp only [zg] at e
            cases z : mapO (toE k h) xs with
            | none => simp only [z] at e; cases e
            | some ds =>
              simp only [z] at e; cases e
              cases e3 with
              | lst e4 => exact .lst (.inl (.inl e2)) (toEs_ok (fun v u d => toE_ok rh k v u d) e4 z)
          | dk kvs =>
            cases kvs with
            | nil =>
              simp only [zg] at e; cases e
              cases e3 with
              | dk e4 => cases e4; exact .edk e2
            | cons _ _ => simp only [zg] at e; cases e
          | dt _ => simp only [zg] at e; cases e
          | fk _ => simp only [zg] at e; cases e
    | _ => cases e
def gReprE : AV → Hh → Out AV := fun x h => match toE 20 h x with
  | some d => match x with
    | .tup _ | .kt _ | .sl _ | .ref _ => if (d.showable && decide (d.depth ≤ 64) && decide (d.shown.length ≤ most)) = true then .ok (.str d.shown) h else .bad
    | _ => .bad
  | none => .bad
theorem p_reprE : PLs F (rReprE F.K) (g1 gReprE) := by
  intro m H h xs us Q E rh r q0
  obtain ⟨x, u, rfl, rfl, rx, q⟩ := one_ok r q0
  clear q0
  unfold gReprE at q
  cases e : toE 20 h x with
  | none => simp only [e] at q; exact q.elim
  | some d =>
    simp only [e] at q
    have dq := toE_ok rh 20 x u d rx e
    have fin : ∀ {a : Addr}, u = .ref a → OkG F m H (if (d.showable && decide (d.depth ≤ 64) && decide (d.shown.length ≤ most)) = true then Out.ok (AV.str d.shown) h else .bad) (PV F Q) E → rReprE F.K [u] H Q := fun {a} ea q => by
      subst ea
      split at q
      · rename_i hz
        simp only [Bool.and_eq_true, decide_eq_true_eq] at hz
        obtain ⟨⟨z1, z3⟩, z4⟩ := hz
        exact ⟨a, d, rfl, dq, z1, z3, most_ok z4, okg_ok rh q _ (.str _)⟩
      · exact q.elim
    cases rx <;> first | exact q.elim | exact fin rfl q
def gReprU := gOrL (g1 gRepr) (g1 gReprE)
theorem ce_reprE {k : Nat} {p pos : Pos} {e : Expr} {fa : EvA} (sd : SysD F.K) (hK : X.K = F.K) (hG : X.A.guards = some []) (hr : Room k X.A) (hg : Gl X "repr") (hm : X.mg "repr" = none) (ha : CA X F W [e] fa)
    (he : starEach (e :: []) X.env = (false, eval e X.env) :: starEach [] X.env := by rfl) (hpl : (backTo pos (starEach [] X.env)).any (·.1) = false := by rfl) : CE X F W (.Call (.Name "repr" p) [e] [] pos) (xA gReprU fa) :=
  ce_callB (cr_or (cr_reprD hG hr) (cr_reprE (by rw [hK]; exact sd) hG hr)) (p_orL (by rw [hK]; exact p_repr) (by rw [hK]; exact p_reprE)) hg hm (by decide +kernel) ha (by decide) (by decide) he hpl
end
end DI

set_option Elab.async false
set_option linter.all false
set_option maxRecDepth 100000
set_option maxHeartbeats 4000000
/-! d.get(k), d.get(k, x), None in d, len(d) -/
namespace DI
open PySem PySem.Spec PyProof.Rows L2 GxR RZ
section
variable {X : Cx} {F : Fx} {W : WX'}
/-! ### None in d -/
def rNoD (neg : Bool) : R2 := fun y x H Q => ∃ a kvs, y = .non ∧ x = .ref a ∧ H a = some (.dK kvs) ∧ Q (.bl neg) H
def gNoD (neg : Bool) : AV → AV → Hh → Out AV := fun y x h => match y, dkA x h with
  | .non, some _ => .ok (.bl neg) h
  | _, _ => .bad
theorem p_noD (neg : Bool) : P2 F (rNoD neg) (gNoD neg) := by
  intro m H h y x v u Q E rh rv ru q
  unfold gNoD at q
  split at q
  · rename_i kvs e
    obtain ⟨a, us, rfl, ha, _⟩ := dkA_ok rh ru e
    cases rv
    exact ⟨a, us, rfl, rfl, ha, okg_ok rh q _ (.bl neg)⟩
  · exact q.elim
theorem opr_noD : OpR X (compareOp .In) (rNoD false) := by
  intro pins s σ H y x v u Q I ry rx ⟨a, kvs, e1, e2, ha, q⟩
  subst e1 e2
  obtain rfl : v = Value.none := ry
  obtain rfl : u = Value.ref a := rx
  exact d_inNone I (.inl ha) fun s3 I3 => ⟨.bl false, H, I3, rfl, q⟩
theorem opr_nnoD : OpR X (compareOp .NotIn) (rNoD true) := by
  intro pins s σ H y x v u Q I ry rx ⟨a, kvs, e1, e2, ha, q⟩
  subst e1 e2
  obtain rfl : v = Value.none := ry
  obtain rfl : u = Value.ref a := rx
  exact d_notInNone I (.inl ha) fun s3 I3 => ⟨.bl true, H, I3, rfl, q⟩
def gInU (neg : Bool) := gOr (gIn neg) (gNoD neg)
theorem opr_inU {k : Nat} (hr : Room k X.A) : OpR X (compareOp .In) (rOr (rOr (rIn X.K false) (rDIn false)) (rNoD false)) := opr_or (opr_in hr) opr_noD
theorem opr_ninU {k : Nat} (hr : Room k X.A) : OpR X (compareOp .NotIn) (rOr (rOr (rIn X.K true) (rDIn true)) (rNoD true)) := opr_or (opr_nin hr) opr_nnoD
theorem p_inU (hK : X.K = F.K) (neg : Bool) : P2 F (rOr (rOr (rIn X.K neg) (rDIn neg)) (rNoD neg)) (gInU neg) := p_or (p_in hK neg) (p_noD neg)
/-! ### len(d) -/
def gLenD : AV → Hh → Out AV := fun x h => match dkA x h with
  | some kvs => .ok (.int kvs.length) h
  | none => .bad
theorem p_lenD : PLs F (fun xs H Q => ∃ a kvs, xs = [V.ref a] ∧ H a = some (.dK kvs) ∧ Q (.int kvs.length) H) (g1 gLenD) := by
  intro m H h xs us Q E rh r q0
  obtain ⟨x, u, rfl, rfl, rx, q⟩ := one_ok r q0
  clear q0
  unfold gLenD at q
  split at q
  · rename_i kvs e
    obtain ⟨a, us, rfl, ha, ra⟩ := dkA_ok rh rx e
    refine ⟨a, us, rfl, ha, ?_⟩
    rw [rkv_len ra]
    exact okg_ok rh q _ (.int _)
  · exact q.elim
def gLenU := gOrL (g1 gLen) (g1 gLenD)
theorem ce_lenU {p pos : Pos} {e : Expr} {fa : EvA} (hK : X.K = F.K) (hg : Gl X "len") (hm : X.mg "len" = none) (ha : CA X F W [e] fa)
    (he : starEach (e :: []) X.env = (false, eval e X.env) :: starEach [] X.env := by rfl) (hpl : (backTo pos (starEach [] X.env)).any (·.1) = false := by rfl) : CE X F W (.Call (.Name "len" p) [e] [] pos) (xA gLenU fa) :=
  ce_callB (cr_or call_len_seq call_lenD) (p_orL (by rw [hK]; exact p_len) p_lenD) hg hm (by decide +kernel) ha (by decide) (by decide) he hpl
/-! ### d.get -/
def answerO (o : Option AV) (z : AV) : AV := match o with
  | some v => v
  | none => z
def isDict (x : AV) (h : Hh) : Bool := match x with
  | .ref i => match h.get i with
    | some (.dk _) => true
    | some (.dt _) => true
    | some (.fk _) => true
    | _ => false
  | _ => false
theorem isDict_ok {m : List Addr} {H : Hp} {h : Hh} {x : AV} {u : V} (rh : RH F m h H) (r : RV F m H x u) (e : isDict x h = true) : ∃ a, u = .ref a ∧ IsD H a := by
  unfold isDict at e
  split at e
  · rename_i i
    cases r with
    | @ref _ a ra =>
      refine ⟨a, rfl, ?_⟩
      cases z : h.get i with
      | none => simp only [z] at e; cases e
      | some o =>
        obtain ⟨a', w, e1, e2, e3⟩ := rh.of z
        rw [ra] at e1; cases e1
        cases e3 with
        | lst _ => simp only [z] at e; cases e
        | dk _ => exact .inl ⟨_, .inl e2⟩
        | dt _ => exact .inr ⟨_, .inl e2⟩
        | fk _ => exact .inl ⟨_, .inr ⟨_, e2⟩⟩
  · cases e
def xGet1 (fd fk : EvF) : EvF := fun ρ h => bindO (fd ρ h) fun x h1 => if isDict x h1 = true then bindO (fk ρ h1) fun y h2 => match askA x y h2 with
  | some o => .ok (answerO o .non) h2
  | none => .bad
  else .bad
theorem x_get1 {td ty : TE} {fd fk : EvF} (hd : Pe F W td fd) (hk : Pe F W ty fk) : Pe F W (tDGet1 td ty) (xGet1 fd fk) := by
  intro m H h σ ρ Q rh rs q
  refine hd m H h σ ρ _ rh rs (okg_imp (okg_bind q) fun x h1 m1 H1 r1 M1 q1 u ru => ?_)
  split at q1
  · rename_i hi
    obtain ⟨a, rfl, d⟩ := isDict_ok r1 ru hi
    refine ⟨a, rfl, d, hk m1 H1 h1 σ ρ _ r1 (rs.mono M1) (okg_imp (okg_bind q1) fun y h2 m2 H2 r2 M2 q2 v rv => ?_)⟩
    cases e : askA x y h2 with
    | none => simp only [e] at q2; exact q2.elim
    | some o =>
      simp only [e] at q2
      obtain ⟨a', w, e1, g, c⟩ := askA_ok r2 (ru.mono M2) rv e
      cases e1
      refine ⟨w, g, ?_⟩
      rcases c with ⟨rfl, rfl⟩ | ⟨b, c, rfl, rfl, rb⟩
      · exact okg_ok r2 q2 _ .non
      · exact okg_ok r2 q2 _ rb
  · exact q1.elim
theorem ce_get1 {o e : Expr} {apos cpos : Pos} {k : Nat} {fo fe : EvF} (hr : Room k X.A) (ho : CE X F W o fo) (he : CE X F W e fe) (m : M1 X o "get" apos e cpos) : CE X F W (.Call (.Attribute o "get" apos) [e] [] cpos) (xGet1 fo fe) :=
  ce (pe_dget1 (by have := hr.un; omega) ho he m) (x_get1 (rdE_ok fo) (rdE_ok fe))
def xGet2 (fd fk fz : EvF) : EvF := fun ρ h => bindO (fd ρ h) fun x h1 => if isDict x h1 = true then bindO (fk ρ h1) fun y h2 => bindO (fz ρ h2) fun z h3 => match askA x y h3 with
  | some o => .ok (answerO o z) h3
  | none => .bad
  else .bad
theorem x_get2 {td ty tz : TE} {fd fk fz : EvF} (hd : Pe F W td fd) (hk : Pe F W ty fk) (hz : Pe F W tz fz) : Pe F W (tDGet2 td ty tz) (xGet2 fd fk fz) := by
  intro m H h σ ρ Q rh rs q
  refine hd m H h σ ρ _ rh rs (okg_imp (okg_bind q) fun x h1 m1 H1 r1 M1 q1 u ru => ?_)
  split at q1
  · rename_i hi
    obtain ⟨a, rfl, d⟩ := isDict_ok r1 ru hi
    refine ⟨a, rfl, d, hk m1 H1 h1 σ ρ _ r1 (rs.mono M1) (okg_imp (okg_bind q1) fun y h2 m2 H2 r2 M2 q2 v rv => ?_)⟩
    refine hz m2 H2 h2 σ ρ _ r2 ((rs.mono M1).mono M2) (okg_imp (okg_bind q2) fun z h3 m3 H3 r3 M3 q3 c rc => ?_)
    cases e : askA x y h3 with
    | none => simp only [e] at q3; exact q3.elim
    | some o =>
      simp only [e] at q3
      obtain ⟨a', w, e1, g, cc⟩ := askA_ok r3 (ru.mono (M2.trans M3)) (rv.mono M3) e
      cases e1
      refine ⟨w, g, ?_⟩
      rcases cc with ⟨rfl, rfl⟩ | ⟨b, c', rfl, rfl, rb⟩
      · exact okg_ok r3 q3 _ rc
      · exact okg_ok r3 q3 _ rb
  · exact q1.elim
theorem ce_get2 {o e f : Expr} {apos cpos : Pos} {k : Nat} {fo fe fz : EvF} (hr : Room k X.A) (ho : CE X F W o fo) (he : CE X F W e fe) (hz : CE X F W f fz) (m : M2 X o "get" apos e f cpos) : CE X F W (.Call (.Attribute o "get" apos) [e, f] [] cpos) (xGet2 fo fe fz) :=
  ce (pe_dget2 (by have := hr.un; omega) ho he hz m) (x_get2 (rdE_ok fo) (rdE_ok fe) (rdE_ok fz))
end
end DI

set_option Elab.async false
set_option linter.all false
set_option maxRecDepth 100000
set_option maxHeartbeats 4000000
/-! for over a dict, its values, its items: the dict is walked, and not written meanwhile -/
namespace DI
open PySem PySem.Spec PyProof.Rows L2 GxR RZ
section
variable {F : Fx} {W : WX'}
/-! ### the walked dict is let go -/
section
variable {m : List Addr} {H : Hp} {d : Addr} {od : Obj} {us : List (Key × V)}
theorem ne_of_frz {a : Addr} {u : HO} (hd : H d = some (.frz od (.dK us))) (e : H a = some u) (n : u ≠ .frz od (.dK us)) : a ≠ d := fun z => by
  rw [z, hd] at e
  exact n (Option.some.inj e).symm
mutual
theorem RV.letgo (hd : H d = some (.frz od (.dK us))) : ∀ {x : AV} {u : V}, RV F m H x u → RV F m (upd H d (.dK us)) x u
  | _, _, .non => .non
  | _, _, .bl b => .bl b
  | _, _, .int i => .int i
  | _, _, .str x => .str x
  | _, _, .ty n => .ty n
  | _, _, .gl e => .gl e
  | _, _, .ref e => .ref e
  | _, _, .tup h a => .tup (by rw [upd_ne (ne_of_frz hd h (fun z => by cases z))]; exact h) (RVs.letgo hd a)
  | _, _, .rg h => .rg (by rw [upd_ne (ne_of_frz hd h (fun z => by cases z))]; exact h)
  | _, _, .sl h a => .sl (h.imp (fun ⟨o, h⟩ => ⟨o, by rw [upd_ne (ne_of_frz hd h (fun z => by cases z))]; exact h⟩) fun h => h) (RVs.letgo hd a)
  | _, _, .kt h a => .kt h (RVs.letgo hd a)
  | _, _, .ex g h1 h2 a => .ex g (by rw [upd_ne (ne_of_frz hd h1 (fun z => by cases z))]; exact h1) (by rw [upd_ne (ne_of_frz hd h2 (fun z => by cases z))]; exact h2) (RVs.letgo hd a)
theorem RVs.letgo (hd : H d = some (.frz od (.dK us))) : ∀ {x : List AV} {u : List V}, RVs F m H x u → RVs F m (upd H d (.dK us)) x u
  | _, _, .nil => .nil
  | _, _, .cons h t => .cons (RV.letgo hd h) (RVs.letgo hd t)
end
theorem RKV.letgo {κ : Type} (hd : H d = some (.frz od (.dK us))) : ∀ {xs : List (κ × AV)} {vs : List (κ × V)}, RKV (F := F) m H xs vs → RKV (F := F) m (upd H d (.dK us)) xs vs
  | _, _, .nil => .nil
  | _, _, .cons h t => .cons (h.letgo hd) (RKV.letgo hd t)
theorem RO.letgo (hd : H d = some (.frz od (.dK us))) {o : AO} {u : HO} (r : RO F m H o u) : RO F m (upd H d (.dK us)) o u := by
  cases r with
  | lst h => exact .lst (h.letgo hd)
  | dk h => exact .dk (h.letgo hd)
  | dt h => exact .dt (h.letgo hd)
  | fk h => exact .fk (h.letgo hd)
theorem RS.letgo (hd : H d = some (.frz od (.dK us))) {ρ : Sl} {σ : L2.St} (r : RS F m H ρ σ) : RS F m (upd H d (.dK us)) ρ σ := ⟨r.1, fun i v e => let ⟨u, e1, e2⟩ := r.2 i v e; ⟨u, e1, e2.letgo hd⟩⟩
theorem tab_letgo (hd : H d = some (.frz od (.dK us))) {P : Addr} (t : GxR.TabG H P) : GxR.TabG (upd H d (.dK us)) P := by
  obtain ⟨ps, e, t⟩ := t
  exact ⟨ps, by rw [upd_ne (ne_of_frz hd e (fun z => by cases z))]; exact e, t⟩
theorem lam_letgo (hd : H d = some (.frz od (.dK us))) {L : List (Addr × Str)} (t : LamX.Tabs L H) : LamX.Tabs L (upd H d (.dK us)) := fun p hp => by
  obtain ⟨ps, e, t1, t2⟩ := t p hp
  refine ⟨ps, by rw [upd_ne (ne_of_frz hd e (fun z => by cases z))]; exact e, t1, fun pos cv hc => ?_⟩
  obtain ⟨c, e1, e2⟩ := t2 pos cv hc
  exact ⟨c, e1, by rw [upd_ne (ne_of_frz hd e2 (fun z => by unfold LamX.CodeO at z; cases z))]; exact e2⟩
theorem RH.letgo {h : Hh} {i : Nat} {kvs : List (Key × AV)} (r : RH F m h H) (hd : H d = some (.frz od (.dK us))) (ei : m[i]? = some d) (eh : h.get i = some (.fk kvs)) : RH F m (h.put i (.dk kvs)) (upd H d (.dK us)) := by
  refine ⟨r.len, r.nd, r.big, fun j b ej => ?_, fun P hP => tab_letgo hd (r.tab P hP), lam_letgo hd r.lam, r.dis, r.one⟩
  rw [Hh.get_put r.big (Hh.get_lt eh)]
  by_cases hj : j = i
  · subst hj
    rw [ei] at ej; cases ej
    rw [if_pos rfl]
    obtain ⟨o2, u2, e1, e2, e3⟩ := r.at_ j d ei
    rw [eh] at e1; cases e1
    rw [hd] at e2; cases e2
    cases e3 with
    | fk rk => exact ⟨_, _, rfl, upd_same, .dk (rk.letgo hd)⟩
  · rw [if_neg hj]
    obtain ⟨o2, u2, e1, e2, e3⟩ := r.at_ j b ej
    have hne : b ≠ d := fun z => by
      subst z
      obtain ⟨h1, q1⟩ := List.getElem?_eq_some_iff.mp ej
      obtain ⟨h2, q2⟩ := List.getElem?_eq_some_iff.mp ei
      exact hj ((List.getElem_inj r.nd).mp (q1.trans q2.symm))
    exact ⟨o2, u2, e1, by rw [upd_ne hne]; exact e2, e3.letgo hd⟩
end
def relS (i : Nat) (h : Hh) (k : Hh → So) : So := match h.get i with
  | some (.fk kvs) => k (h.put i (.dk kvs))
  | _ => .bad
def relO (i : Nat) (o : So) : So := match o with
  | .nx ρ h => relS i h fun h' => .nx ρ h'
  | .bk ρ h => relS i h fun h' => .bk ρ h'
  | .ct ρ h => relS i h fun h' => .ct ρ h'
  | .rt v h => relS i h fun h' => .rt v h'
  | _ => .bad
/-- the statement s while the dict of the slot j is walked -/
def sLock (j : Nat) (s : EvS) : EvS := fun ρ h => match ρ[j]? with
  | some (some (.ref i)) => match h.get i with
    | some (.dk kvs) => relO i (s ρ (h.put i (.fk kvs)))
    | _ => .bad
  | _ => .bad
theorem s_lock {j : Nat} {t : TS} {f : EvS} (ht : Pst F W t f) : Pst F W (tLock t) (sLock j f) := by
  intro m H h σ ρ D rh rs q
  unfold sLock at q
  split at q
  · rename_i i ei
    split at q
    · rename_i kvs eh
      obtain ⟨u, _, ru⟩ := rs.2 j _ ei
      cases ru with
      | @ref _ d ed =>
        obtain ⟨o2, u2, e1, e2, e3⟩ := rh.at_ i d ed
        rw [eh] at e1; cases e1
        cases e3 with
        | @dk _ us rk =>
          refine ⟨d, .dK us, e2, trivial, fun od => ?_⟩
          have ro : RO F m H (.dk kvs) (.dK us) := .dk rk
          have M1 : Mono F m H m (upd H d (.frz od (.dK us))) := Mono.write e2 (RO.mut ro)
          have r1 : RH F m (h.put i (.fk kvs)) (upd H d (.frz od (.dK us))) := rh.write eh ed e2 ro (.fk rk)
          refine ht m _ _ σ ρ _ r1 (rs.mono M1) ?_
          have back : ∀ {m' : List Addr} {H' : Hp}, Mono F m (upd H d (.frz od (.dK us))) m' H' → H' d = some (.frz od (.dK us)) ∧ Mono F m H m' (upd H' d (.dK us)) ∧ m'[i]? = some d := fun {m' H'} M' => by
            have hd := M'.imm d (.frz od (.dK us)) trivial upd_same
            refine ⟨hd, ⟨M'.pre, fun a u im e => ?_, fun P hP t => tab_letgo hd (M'.tab P hP (M1.tab P hP t)), fun t => lam_letgo hd (M'.lam (M1.lam t))⟩, pre_get M'.pre ed⟩
            have hne : a ≠ d := fun z => by rw [z, e2] at e; cases e; exact im
            rw [upd_ne hne]
            exact M'.imm a u im (by rw [upd_ne hne]; exact e)
          have turn : ∀ {h' : Hh} {k : Hh → So} {P : List Addr → Hp → Prop}, OkS F W m H (relS i h' k) D → (∀ kvs', h'.get i = some (.fk kvs') → OkS F W m H (k (h'.put i (.dk kvs'))) D → ∀ m' H', RH F m' h' H' → Mono F m (upd H d (.frz od (.dK us))) m' H' → P m' H') → ∀ m' H', RH F m' h' H' → Mono F m (upd H d (.frz od (.dK us))) m' H' → P m' H' := fun {h' k P} z y => by
            unfold relS at z
            split at z
            · rename_i kvs' e; exact y kvs' e z
            · exact z.elim
          cases z : f ρ (h.put i (.fk kvs)) with
          | nx ρ' h' =>
            rw [z] at q
            intro m' H' σ' r' M' s'
            exact turn (P := fun m' H' => RS F m' H' ρ' σ' → H' d = some (.frz od (.dK us)) ∧ D.nx σ' (upd H' d (.dK us))) q (fun kvs' e zz m' H' r' M' s' => ⟨(back M').1, zz m' _ σ' (r'.letgo (back M').1 (back M').2.2 e) (back M').2.1 (s'.letgo (back M').1)⟩) m' H' r' M' s'
          | bk ρ' h' =>
            rw [z] at q
            intro m' H' σ' r' M' s'
            exact turn (P := fun m' H' => RS F m' H' ρ' σ' → H' d = some (.frz od (.dK us)) ∧ D.bk σ' (upd H' d (.dK us))) q (fun kvs' e zz m' H' r' M' s' => ⟨(back M').1, zz m' _ σ' (r'.letgo (back M').1 (back M').2.2 e) (back M').2.1 (s'.letgo (back M').1)⟩) m' H' r' M' s'
          | ct ρ' h' =>
            rw [z] at q
            intro m' H' σ' r' M' s'
            exact turn (P := fun m' H' => RS F m' H' ρ' σ' → H' d = some (.frz od (.dK us)) ∧ D.ct σ' (upd H' d (.dK us))) q (fun kvs' e zz m' H' r' M' s' => ⟨(back M').1, zz m' _ σ' (r'.letgo (back M').1 (back M').2.2 e) (back M').2.1 (s'.letgo (back M').1)⟩) m' H' r' M' s'
          | rt v h' =>
            rw [z] at q
            intro m' H' u r' M' ru
            exact turn (P := fun m' H' => RV F m' H' v u → H' d = some (.frz od (.dK us)) ∧ D.rt u (upd H' d (.dK us))) q (fun kvs' e zz m' H' r' M' ru => ⟨(back M').1, zz m' _ u (r'.letgo (back M').1 (back M').2.2 e) (back M').2.1 (ru.letgo (back M').1)⟩) m' H' r' M' ru
          | exc c fs ρ' h' => rw [z] at q; exact q.elim
          | bad => rw [z] at q; exact q.elim
    · exact q.elim
  · exact q.elim
/-! ### the turns -/
def fkA (x : AV) (h : Hh) : Option (List (Key × AV)) := match x with
  | .ref i => match h.get i with
    | some (.fk kvs) => some kvs
    | _ => none
  | _ => none
theorem fkA_ok {m : List Addr} {H : Hp} {h : Hh} {x : AV} {u : V} {kvs : List (Key × AV)} (rh : RH F m h H) (r : RV F m H x u) (e : fkA x h = some kvs) : ∃ (a : Addr) (o : Obj) (us : List (Key × V)), u = .ref a ∧ H a = some (.frz o (.dK us)) ∧ RKV (F := F) m H kvs us := by
  unfold fkA at e
  split at e
  · rename_i i
    split at e
    · rename_i kvs' eh
      cases e
      cases r with
      | @ref _ d ed =>
        obtain ⟨o2, u2, e1, e2, e3⟩ := rh.at_ i d ed
        rw [eh] at e1; cases e1
        cases e3 with
        | fk rk => exact ⟨d, _, _, rfl, e2, rk⟩
    · cases e
  · cases e
theorem rkv_get {m : List Addr} {H : Hp} : ∀ {xs : List (Key × AV)} {us : List (Key × V)}, RKV (F := F) m H xs us → ∀ (k : Nat) (p : Key × AV), xs[k]? = some p → ∃ v, us[k]? = some (p.1, v) ∧ RV F m H p.2 v
  | _, _, .nil, k, p, e => by simp at e
  | _, _, .cons h t, 0, p, e => by cases e; exact ⟨_, rfl, h⟩
  | _, _, .cons h t, k + 1, p, e => rkv_get t k p e
theorem rv_key {m : List Addr} {H : Hp} : ∀ k : Key, RV F m H (kA k) (kV k)
  | .inl i => .int i
  | .inr x => .str x
section
variable {m : List Addr} {H : Hp} {d : Addr} {o : Obj} {kvs : List (Key × AV)} {us : List (Key × V)}
theorem it_keys (hd : H d = some (.frz o (.dK us))) (rk : RKV (F := F) m H kvs us) : IOk F m H (Itk d o us) (.tup (kvs.map fun kv => kA kv.1)) := by
  intro m' h' H' k r M
  have hd' := M.imm d (.frz o (.dK us)) trivial hd
  refine ⟨fun e => ⟨hd', ?_⟩, fun x e => ?_⟩
  · have e : (kvs.map fun kv => kA kv.1)[k]? = none := Option.some.inj e
    have := List.getElem?_eq_none_iff.mp e
    rw [List.length_map] at this
    rw [rkv_len rk]; exact this
  · have e : (kvs.map fun kv => kA kv.1)[k]? = some x := Option.some.inj e
    rw [List.getElem?_map] at e
    obtain ⟨p, e1, rfl⟩ := Option.map_eq_some_iff.mp e
    obtain ⟨v, g1, g2⟩ := rkv_get rk k p e1
    refine ⟨⟨hd', (List.getElem?_eq_some_iff.mp g1).1⟩, fun v' H2 ⟨y1, k', v2, y2, y3⟩ => ?_⟩
    subst y1
    rw [g1] at y2; cases y2
    subst y3
    exact ⟨r, Mono.refl _ _, rv_key _⟩
theorem it_vals (hd : H d = some (.frz o (.dK us))) (rk : RKV (F := F) m H kvs us) : IOk F m H (Itd d o us) (.tup (kvs.map fun kv => kv.2)) := by
  intro m' h' H' k r M
  have hd' := M.imm d (.frz o (.dK us)) trivial hd
  refine ⟨fun e => ⟨hd', ?_⟩, fun x e => ?_⟩
  · have e : (kvs.map fun kv => kv.2)[k]? = none := Option.some.inj e
    have := List.getElem?_eq_none_iff.mp e
    rw [List.length_map] at this
    rw [rkv_len rk]; exact this
  · have e : (kvs.map fun kv => kv.2)[k]? = some x := Option.some.inj e
    rw [List.getElem?_map] at e
    obtain ⟨p, e1, rfl⟩ := Option.map_eq_some_iff.mp e
    obtain ⟨v, g1, g2⟩ := rkv_get rk k p e1
    refine ⟨⟨hd', (List.getElem?_eq_some_iff.mp g1).1⟩, fun v' H2 ⟨y1, k', y2⟩ => ?_⟩
    subst y1
    rw [g1] at y2; cases y2
    exact ⟨r, Mono.refl _ _, g2.mono M⟩
theorem it_items (hd : H d = some (.frz o (.dK us))) (rk : RKV (F := F) m H kvs us) : IOk F m H (Iti d o us) (.tup (kvs.map fun kv => .tup [kA kv.1, kv.2])) := by
  intro m' h' H' k r M
  have hd' := M.imm d (.frz o (.dK us)) trivial hd
  refine ⟨fun e => ⟨hd', ?_⟩, fun x e => ?_⟩
  · have e : (kvs.map fun kv => AV.tup [kA kv.1, kv.2])[k]? = none := Option.some.inj e
    have := List.getElem?_eq_none_iff.mp e
    rw [List.length_map] at this
    rw [rkv_len rk]; exact this
  · have e : (kvs.map fun kv => AV.tup [kA kv.1, kv.2])[k]? = some x := Option.some.inj e
    rw [List.getElem?_map] at e
    obtain ⟨p, e1, rfl⟩ := Option.map_eq_some_iff.mp e
    obtain ⟨v, g1, g2⟩ := rkv_get rk k p e1
    refine ⟨⟨hd', (List.getElem?_eq_some_iff.mp g1).1⟩, fun v' H2 ⟨T, k', v2, y2, y3, y4, y5⟩ => ?_⟩
    subst y3 y5
    rw [g1] at y2; cases y2
    have M2 : Mono F m' H' m' (upd H' T (.tup [kV p.1, v])) := Mono.laid y4
    exact ⟨r.laid y4, M2, .tup upd_same (.cons (rv_key _) (.cons ((g2.mono M).mono M2) .nil))⟩
end
def xWalk (f : List (Key × AV) → List AV) (fd : EvF) : Sl → Hh → Out AIt := fun ρ h => bindO (fd ρ h) fun x h1 => match fkA x h1 with
  | some kvs => .ok (.tup (f kvs)) h1
  | none => .bad
def wKeys (kvs : List (Key × AV)) : List AV := kvs.map fun kv => kA kv.1
def wVals (kvs : List (Key × AV)) : List AV := kvs.map fun kv => kv.2
def wItems (kvs : List (Key × AV)) : List AV := kvs.map fun kv => .tup [kA kv.1, kv.2]
theorem pit_keys {td : TE} {fd : EvF} (hd : Pe F W td fd) : Pit F W (iKeys td) (xWalk wKeys fd) := by
  intro m H h σ ρ R rh rs q
  refine hd m H h σ ρ _ rh rs (okg_imp (okg_bind q) fun x h1 m1 H1 r1 M1 q1 u ru => ?_)
  cases e : fkA x h1 with
  | none => simp only [e] at q1; exact q1.elim
  | some kvs =>
    simp only [e] at q1
    obtain ⟨a, o, us, rfl, ha, rk⟩ := fkA_ok r1 ru e
    exact ⟨a, o, rfl, .inl ⟨us, ha, okg_ok r1 q1 _ (it_keys ha rk)⟩⟩
theorem pit_vals {td : TE} {fd : EvF} (hd : Pe F W td fd) : Pit F W (iVals td) (xWalk wVals fd) := by
  intro m H h σ ρ R rh rs q
  refine hd m H h σ ρ _ rh rs (okg_imp (okg_bind q) fun x h1 m1 H1 r1 M1 q1 u ru => ?_)
  cases e : fkA x h1 with
  | none => simp only [e] at q1; exact q1.elim
  | some kvs =>
    simp only [e] at q1
    obtain ⟨a, o, us, rfl, ha, rk⟩ := fkA_ok r1 ru e
    exact ⟨a, o, us, rfl, ha, okg_ok r1 q1 _ (it_vals ha rk)⟩
theorem pit_items {td : TE} {fd : EvF} (hd : Pe F W td fd) : Pit F W (iItems td) (xWalk wItems fd) := by
  intro m H h σ ρ R rh rs q
  refine hd m H h σ ρ _ rh rs (okg_imp (okg_bind q) fun x h1 m1 H1 r1 M1 q1 u ru => ?_)
  cases e : fkA x h1 with
  | none => simp only [e] at q1; exact q1.elim
  | some kvs =>
    simp only [e] at q1
    obtain ⟨a, o, us, rfl, ha, rk⟩ := fkA_ok r1 ru e
    exact ⟨a, o, us, rfl, ha, okg_ok r1 q1 _ (it_items ha rk)⟩
end
section
variable {X : Cx} {F : Fx} {W : WX'}
theorem ci_keysD {tg e : Expr} {fd : EvF} (he : CE X F W e fd) : CI X F W tg e (xWalk wKeys fd) := ci (pi_keys he) (pit_keys (rdE_ok fd))
theorem ci_valsD {tg e : Expr} {apos cpos : Pos} {fd : EvF} (he : CE X F W e fd) (hbase : attributeBase e "values" X.env (eval e X.env) = eval e X.env := by rfl) (hline : (apos.endLine == cpos.line) = true := by rfl) :
    CI X F W tg (.Call (.Attribute e "values" apos) [] [] cpos) (xWalk wVals fd) := ci (pi_values he hbase hline) (pit_vals (rdE_ok fd))
theorem ci_itemsD {elts : List Expr} {kk : Nat} {tpos : Pos} {e : Expr} {apos cpos : Pos} {fd : EvF} (he : CE X F W e fd) (hbase : attributeBase e "items" X.env (eval e X.env) = eval e X.env := by rfl) (hline : (apos.endLine == cpos.line) = true := by rfl) :
    CI X F W (.Tuple elts kk tpos) (.Call (.Attribute e "items" apos) [] [] cpos) (xWalk wItems fd) := ci (pi_items he hbase hline) (pit_items (rdE_ok fd))
theorem cs_lock {st : Stmt} {f : EvS} (j : Nat) (h : CS X F W st f) : CS X F W st (sLock j f) := cs (ps_lock h) (s_lock (rdS_ok f))
end
end DI

set_option Elab.async false
set_option linter.all false
set_option maxRecDepth 100000
set_option maxHeartbeats 4000000
/-! comprehensions of sets of ints -/
namespace L2
open PySem PySem.Spec PyProof.Rows PpSet
section
variable {X : Cx}
/-- the set grows by one int -/
theorem setO_grow {pins : List (Addr × Obj)} {σ : L2.St} {H : Hp} {s : Shared} {E : Value → Shared → Prop} {D : Addr} {S : Int → Bool} {n : Nat} {y : Int} {tk : Tok} {Q : Value → Shared → Prop} (I : Inv X pins σ H s) (hD : H D = some (SetO X.w D S n)) (room : n + 1 < scanBound)
    (q : ∀ s', Inv X pins σ (upd H D (SetO X.w D (fun j => S j || decide (j = y)) (if S y = true then n else n + 1))) s' → Q .none s') : wpAny (model X.prog X.w) X.A (call (.builtin "set.add") [.ref D, .int y tk]) Q E s :=
  setR_add (setO_get I hD) room fun h' sb nw => q _ (I.write (e := D) (t' := s.toks + 1) (by rw [hD]; trivial) (.inl rfl) (fun b u hb hu => (sb.2 b hb).trans hu) (let ⟨o, _, _, _, ho, _⟩ := nw; ⟨o, ho⟩) (setO_new nw))
/-- {elt for target in iter if ..}, elt an int: what is wished, turn by turn; D the new set -/
def tScI (w : World) (wi : TI) (g : TG) (tt : TT) (te : TE) (vs : List Nat) : TE := fun σ H Q => wi σ H fun J H1 => ∀ D, H1 D = none → ∃ Wk : Nat → Nat → Hp → Prop, (∃ m, Wk 0 m (upd H1 D (SetO w D (fun _ => false) 0))) ∧
  ∀ i m H, Wk i m H → (J.stop i H ∧ Q (.ref D) H) ∨ (J.go i H ∧ ∃ Nx : Hp → Prop, (∀ H', Nx H' → ∃ m', m' < m ∧ Wk (i + 1) m' H') ∧
    ∀ x H', J.yld i H x H' → g x (wipe σ vs) H' fun σ2 H2 => wipe σ2 vs = wipe σ vs ∧ tt σ2 H2 fun b H3 => if b = true then te σ2 H3 fun y H4 => ∃ (c : Int) (S : Int → Bool) (n : Nat), y = .int c ∧ H4 D = some (SetO w D S n) ∧ n + 1 < scanBound ∧
      Nx (upd H4 D (SetO w D (fun j => S j || decide (j = c)) (if S c = true then n else n + 1))) else Nx H3)
theorem pe_scI {elt tg iter : Expr} {ifs : List Expr} {scope : Scope} {own : List (Str × Nat)} {pos : Pos} {wi : TI} {g : TG} {tt : TT} {te : TE} (hc : X.calm = true) (hN : X.N.Nodup) (hi : PI X tg iter wi) (ok : BlkOk X.N X.env.scope scope own)
    (hg : ∀ (s : Shared) (H : Hp) (C : Addr) (cl : List (Str × Addr)) (fp : List Addr), PG (X.blk s H scope (compEnvC scope cl C X.env) fp) tg g) (ht : ∀ (s : Shared) (H : Hp) (C : Addr) (cl : List (Str × Addr)) (fp : List Addr), PTs (X.blk s H scope (compEnvC scope cl C X.env) fp) ifs tt)
    (he : ∀ (s : Shared) (H : Hp) (C : Addr) (cl : List (Str × Addr)) (fp : List Addr), PE (X.blk s H scope (compEnvC scope cl C X.env) fp) elt te) (hs : ∀ x, foldedSetIterable iter X.env x = pure x := by intro _; rfl) :
    PE X (.SetComp elt [⟨tg, iter, ifs, 0⟩] scope pos) (tScI X.w wi g tt te (own.map (·.2))) := by
  refine ⟨fun pins s σ H Q I wish => ?_⟩
  rw [eval_SetComp]
  have fr : ∀ y ∈ scope.names, y.2 = .free → ∃ c, X.env.cells.lookup y.1 = some c := fun y hy e => (ok.free y hy e).elim (fun k => I.ok.has _ (.inl k)) fun k => I.ok.has _ (.inr k)
  refine wpAny_comprehension_free rfl hs (closure_ok fr) ok.kind (fun y hy e => by rw [ok.uniq y hy, e]) (thn (hi.run pins s σ H _ I wish) fun xv s1 k1 => thn k1 fun itv s2 k2 => ?_)
  obtain ⟨it, fp, tn, J, H2, rfl, I2, T, z2, f2, wish⟩ := k2
  refine newSet_ok (newEnv_comp ?_)
  generalize eD : s2.heap.objs.size = D
  have nD : H2 D = none := I2.hok.fresh (Nat.le_of_eq eD)
  obtain ⟨Wk, ⟨m0, w0⟩, turn⟩ := wish D nD
  generalize e3 : ({ s2 with heap := s2.heap.push { cls := .type "set", dict := none, data := .set #[] 0 (.fresh 0 0 (!X.w.params.followText "set-order")) } } : Shared) = s3
  have p3 : s3.heap = s2.heap.push { cls := .type "set", dict := none, data := .set #[] 0 (.fresh 0 0 (!X.w.params.followText "set-order")) } := by rw [← e3]
  have I3 : Inv X pins σ (upd H2 D (SetO X.w D (fun _ => false) 0)) s3 := by
    subst e3 eD
    exact I2.laid (t' := s2.toks) (fun b o e => Heap.get?_push_of_some _ e) (Nat.le_refl _) (setO_new (setR_fresh X.w))
  have low : ∀ b ∈ fp, b < s2.heap.objs.size := fun b hb => let ⟨_, e, _⟩ := T.obj _ _ z2 b hb; Heap.lt_size e
  have f3 : ∀ b ∈ fp, FpOk X pins (upd H2 D (SetO X.w D (fun _ => false) 0)) b ∧ b < s3.heap.objs.size := fun b hb =>
    ⟨⟨by rw [upd_ne (by rw [← eD]; exact Nat.ne_of_lt (low b hb))]; exact (f2 b hb).1, (f2 b hb).2⟩, by rw [p3, Heap.size_push]; exact Nat.lt_succ_of_lt (low b hb)⟩
  have z3 : tn 0 s3.heap := T.keep _ _ _ z2 fun b _ o e => by rw [p3]; exact Heap.get?_push_of_some _ e
  have I4 := block_start I3 ok hN f3
  have pg := hg s3 (upd H2 D (SetO X.w D (fun _ => false) 0)) s3.heap.objs.size (cellsFrom (s3.heap.objs.size + 1) scope.names (cloFrom X.env.cells scope.names [])) fp
  have pt := ht s3 (upd H2 D (SetO X.w D (fun _ => false) 0)) s3.heap.objs.size (cellsFrom (s3.heap.objs.size + 1) scope.names (cloFrom X.env.cells scope.names [])) fp
  have pe := he s3 (upd H2 D (SetO X.w D (fun _ => false) 0)) s3.heap.objs.size (cellsFrom (s3.heap.objs.size + 1) scope.names (cloFrom X.env.cells scope.names [])) fp
  show codeAny _ _ (.compStart (.SetComp elt [⟨tg, iter, ifs, 0⟩] scope pos) 0 (.ref it) (.ref D) (compEnvC scope (cellsFrom (s3.heap.objs.size + 1) scope.names (cloFrom X.env.cells scope.names [])) s3.heap.objs.size X.env)) (compPost (model X.prog X.w) X.A X.xe none _ (.ref D) s3.heap.objs.size) { s3 with heap := pushCells (s3.heap.push { cls := .type "dict", data := .dict #[] }) scope.names }
  have nfp : ∀ b ∈ fp, (upd H2 D (SetO X.w D (fun _ => false) 0)) b = none := fun b hb => (f3 b hb).1.1
  generalize ece : compEnvC scope (cellsFrom (s3.heap.objs.size + 1) scope.names (cloFrom X.env.cells scope.names [])) s3.heap.objs.size X.env = ce at I4 pg pt pe ⊢
  have eL : ce.locals = s3.heap.objs.size := by rw [← ece] <;> rfl
  generalize eH : upd H2 D (SetO X.w D (fun _ => false) 0) = H3 at I3 I4 pg pt pe w0 nfp f3
  generalize e4 : ({ s3 with heap := pushCells (s3.heap.push { cls := .type "dict", data := .dict #[] }) scope.names } : Shared) = s4 at I4 ⊢
  have z4 : tn 0 s4.heap := T.keep _ _ _ z3 fun b _ o e => by rw [← e4]; exact pushCells_keeps _ _ _ _ (Heap.get?_push_of_some _ e)
  have foot : ∀ {σ' : L2.St} {H' : Hp} {s' : Shared}, Inv (X.blk s3 H3 scope ce fp) [] σ' H' s' → (∀ b ∈ fp, H' b = none) → ∀ b ∈ fp, FpOk (X.blk s3 H3 scope ce fp) [] H' b := fun {σ' H' s'} I' hn b hb =>
    ⟨hn b hb, (I'.ok.exf b hb).1, I'.ok.exfs b hb, .inl hb, fun x c e => (I'.ok.exf b hb).2 x c e, fun p hp => absurd (show p ∈ ([] : List (Addr × Obj)) ++ [] from hp) (by simp)⟩
  have loop : codeAny (model X.prog X.w) X.A (.compLoop (.SetComp elt [⟨tg, iter, ifs, 0⟩] scope pos) 0 (.ref it) (.ref D) ce) (compPost (model X.prog X.w) X.A X.xe none (EP X pins σ Q) (.ref D) s3.heap.objs.size) s4 := by
    refine compLoopS_any (fun n s' => ∃ i H', Inv (X.blk s3 H3 scope ce fp) [] (wipe σ (own.map (·.2))) H' s' ∧ tn i s'.heap ∧ (∀ b ∈ fp, H' b = none) ∧ Wk i n H') ?_ m0 ⟨0, H3, I4, z4, nfp, w0⟩
    rintro n s5 ⟨i, H5, I5, z5, n5, w5⟩
    rcases turn i n H5 w5 with ⟨stop, fin⟩ | ⟨go, Nx, hNx, step⟩
    · refine thnF (T.done (X.blk s3 H3 scope ce fp) rfl rfl rfl hc i [] s5 _ H5 (fun _ _ => False) I5 (foot I5 n5) z5 stop) fun r s6 ⟨hr, I6⟩ => ?_
      subst hr
      have I7 : Inv X pins σ H5 s6 := I3.call' (ch := fp) I6.os I6.base I6.hok I6.bare fun b hb => ⟨(f3 b hb).1.2.2.2.1, (f3 b hb).1.2.1, (f3 b hb).1.2.2.2.2.1, (f3 b hb).1.2.2.2.2.2⟩
      have nC : H5 s3.heap.objs.size = none := by
        rw [← eL]; exact I6.free
      obtain ⟨m, hn, _⟩ := I6.loc
      have hn : s6.heap.Ns ce.locals m := hn
      rw [eL] at hn
      obtain ⟨b0, b1, b2, b3, b4, b5⟩ := I3.fpOk (Nat.le_refl _) nC
      exact ⟨m, hn, fun h'' sb => ⟨.ref D, H5, I7.turned (t' := s6.toks) (fun b o hb e => (sb.2 b hb).trans e) nC b1 b3 b4 b5, rfl, fin⟩⟩
    · refine thnF (T.item (X.blk s3 H3 scope ce fp) rfl rfl rfl hc i [] s5 _ H5 (fun _ _ => False) I5 (foot I5 n5) z5 go) fun r s6 ⟨u, hr, k6⟩ => ?_
      subst hr
      refine thnF k6 fun _ s7 ⟨x, H7, I7, r7, y7, z7, n7⟩ => ?_
      have I7' := I7.pinned (foot I7 n7) (T.obj _ _ z7)
      refine thnF (pg.run _ s7 _ H7 x u _ I7' r7 (step x H7 y7)) fun _ s8 ⟨σ8, H8, I8, hw8, q8⟩ => ?_
      refine thnF (pt.run _ s8 σ8 H8 _ I8 q8) fun b s9 ⟨H9, I9, q9⟩ => ?_
      have over : ∀ {s' : Shared} {H' : Hp}, Inv (X.blk s3 H3 scope ce fp) ([] ++ pinsAt fp s7.heap) σ8 H' s' → Nx H' → ∃ m, m < n ∧ ∃ i H', Inv (X.blk s3 H3 scope ce fp) [] (wipe σ (own.map (·.2))) H' s' ∧ tn i s'.heap ∧ (∀ b ∈ fp, H' b = none) ∧ Wk i m H' := fun {s' H'} I' nx => by
        obtain ⟨m', hm, w'⟩ := hNx H' nx
        have held : ∀ b ∈ fp, ∀ o, s7.heap.get? b = some o → s'.heap.get? b = some o ∧ H' b = none := fun b hb o e => let z := I'.pin (b, o) (List.mem_append_right _ (List.mem_append_right _ (mem_pinsAt hb e))); ⟨z.1, z.2.1⟩
        refine ⟨m', hm, i + 1, H', (I'.unpinned (pins := [])).weak (by rw [← hw8, wipe_length]) (fun j v e => by rw [← hw8] at e; exact (wipe_some e).1), T.keep _ _ _ z7 fun b hb o e => (held b hb o e).1, fun b hb => let ⟨o, e, _⟩ := T.obj _ _ z7 b hb; (held b hb o e).2, w'⟩
      cases b with
      | false => exact over I9 (by simpa using q9)
      | true =>
        rw [if_pos rfl] at q9 ⊢
        refine thnF (pe.run _ s9 σ8 H9 _ I9 q9) fun z s10 ⟨yv, H10, I10, r10, cb, S0, n0, ey, hD10, room, nx⟩ => ?_
        subst ey
        obtain ⟨tk, rfl⟩ := r10
        exact setO_grow (X := X.blk s3 H3 scope ce fp) I10 hD10 room fun s11 I11 => over I11 nx
  exact codeAny_compStart_set loop (T.self X.A 0 _ _ _ z4 loop)
end
end L2

set_option Elab.async false
set_option linter.all false
set_option maxRecDepth 100000
set_option maxHeartbeats 4000000
/-! sorted of a comprehension of a set of ints, in the small machine -/
namespace DI
open PySem PySem.Spec PyProof.Rows L2 GxR RZ
theorem heap_of_size : ∀ D : Nat, ∃ h : Heap, h.objs.size = D
  | 0 => ⟨{}, rfl⟩
  | D + 1 => let ⟨h, e⟩ := heap_of_size D; ⟨h.push { cls := .none, data := .plain }, by rw [Heap.size_push, e]⟩
section
variable {w : World} {D : Addr} {S : Int → Bool} {n : Nat}
theorem setO_ne {φ : Heap → Prop} (o : Obj) (hf : ∀ es ep t, o.data ≠ .set es ep t) (hl : ∀ h : Heap, (h.push o).get? h.objs.size = some o) (hφ : ∀ h : Heap, h.get? D = some o → φ h) : SetO w D S n ≠ HO.ext φ := fun z => by
  obtain ⟨h, e⟩ := heap_of_size D
  have g := hl h
  rw [e] at g
  have y : SetR w (h.push o) D S n := by
    have z := HO.ext.inj (show HO.ext (fun h => SetR w h D S n) = HO.ext φ from z)
    have z := congrFun z (h.push o)
    rw [z]
    exact hφ _ g
  obtain ⟨o', es, ep, t, e1, _, e2, _⟩ := y
  rw [g] at e1; cases e1
  exact hf _ _ _ e2
theorem setO_exv {cls : Value} {d : Addr} : SetO w D S n ≠ ExV cls d D :=
  setO_ne ⟨cls, some d, .fields #[], #[]⟩ (fun _ _ _ z => by cases z) (fun h => Heap.get?_push_size _ rfl) fun h e => ⟨_, _, e, ⟨rfl, rfl⟩, rfl⟩
theorem setO_code {q : Str} : SetO w D S n ≠ LamX.CodeO D q :=
  setO_ne ⟨.none, none, .fields #[.none, .str q 0], #[]⟩ (fun _ _ _ z => by cases z) (fun h => Heap.get?_push_size _ rfl) fun h e => ⟨_, _, 0, e, rfl, rfl⟩
end
section
variable {F : Fx} {m : List Addr} {H : Hp} {D : Addr} {w : World} {S : Int → Bool} {n : Nat} {o' : HO}
theorem ne_of_set {a : Addr} {u : HO} (hd : H D = some (SetO w D S n)) (e : H a = some u) (ne : u ≠ SetO w D S n) : a ≠ D := fun z => by
  rw [z, hd] at e
  exact ne (Option.some.inj e).symm
theorem stays {a : Addr} {u : HO} (hd : H D = some (SetO w D S n)) (e : H a = some u) (ne : u ≠ SetO w D S n) : upd H D o' a = some u := by rw [upd_ne (ne_of_set hd e ne)]; exact e
theorem stays_exv {a d : Addr} {cls : Value} (hd : H D = some (SetO w D S n)) (e : H a = some (ExV cls d a)) : upd H D o' a = some (ExV cls d a) := by
  have ne : a ≠ D := fun z => by
    subst z
    rw [hd] at e
    exact setO_exv (Option.some.inj e)
  rw [upd_ne ne]; exact e
mutual
theorem RV.loose (hd : H D = some (SetO w D S n)) : ∀ {x : AV} {u : V}, RV F m H x u → RV F m (upd H D o') x u
  | _, _, .non => .non
  | _, _, .bl b => .bl b
  | _, _, .int i => .int i
  | _, _, .str x => .str x
  | _, _, .ty n => .ty n
  | _, _, .gl e => .gl e
  | _, _, .ref e => .ref e
  | _, _, .tup h a => .tup (stays hd h (fun z => by cases z)) (RVs.loose hd a)
  | _, _, .rg h => .rg (stays hd h (fun z => by cases z))
  | _, _, .sl h a => .sl (h.imp (fun ⟨o, h⟩ => ⟨o, stays hd h (fun z => by cases z)⟩) fun h => h) (RVs.loose hd a)
  | _, _, .kt h a => .kt h (RVs.loose hd a)
  | _, _, .ex g h1 h2 a => .ex g (stays_exv hd h1) (stays hd h2 (fun z => by cases z)) (RVs.loose hd a)
theorem RVs.loose (hd : H D = some (SetO w D S n)) : ∀ {x : List AV} {u : List V}, RVs F m H x u → RVs F m (upd H D o') x u
  | _, _, .nil => .nil
  | _, _, .cons h t => .cons (RV.loose hd h) (RVs.loose hd t)
end
theorem RKV.loose {κ : Type} (hd : H D = some (SetO w D S n)) : ∀ {xs : List (κ × AV)} {vs : List (κ × V)}, RKV (F := F) m H xs vs → RKV (F := F) m (upd H D o') xs vs
  | _, _, .nil => .nil
  | _, _, .cons h t => .cons (h.loose hd) (RKV.loose hd t)
theorem RO.loose (hd : H D = some (SetO w D S n)) {o : AO} {u : HO} (r : RO F m H o u) : RO F m (upd H D o') o u := by
  cases r with
  | lst h => exact .lst (h.loose hd)
  | dk h => exact .dk (h.loose hd)
  | dt h => exact .dt (h.loose hd)
  | fk h => exact .fk (h.loose hd)
theorem RO.noset {o : AO} {u : HO} (r : RO F m H o u) : u ≠ SetO w D S n := by cases r <;> exact fun z => by cases z
theorem tab_loose (hd : H D = some (SetO w D S n)) {P : Addr} (t : GxR.TabG H P) : GxR.TabG (upd H D o') P := let ⟨ps, e, t⟩ := t; ⟨ps, stays hd e (fun z => by cases z), t⟩
theorem lam_loose (hd : H D = some (SetO w D S n)) {L : List (Addr × Str)} (t : LamX.Tabs L H) : LamX.Tabs L (upd H D o') := fun p hp => by
  obtain ⟨ps, e, t1, t2⟩ := t p hp
  refine ⟨ps, stays hd e (fun z => by cases z), t1, fun pos cv hc => ?_⟩
  obtain ⟨c, e1, e2⟩ := t2 pos cv hc
  refine ⟨c, e1, ?_⟩
  have ne : c ≠ D := fun z => by
    subst z
    rw [hd] at e2
    exact setO_code (Option.some.inj e2)
  rw [upd_ne ne]; exact e2
theorem RH.loose {h : Hh} (r : RH F m h H) (hd : H D = some (SetO w D S n)) : RH F m h (upd H D o') :=
  ⟨r.len, r.nd, r.big, fun i a e => let ⟨o, u, e1, e2, e3⟩ := r.at_ i a e; ⟨o, u, e1, stays hd e2 e3.noset, e3.loose hd⟩, fun P hP => tab_loose hd (r.tab P hP), lam_loose hd r.lam, r.dis, r.one⟩
theorem Mono.loose {m0 : List Addr} {H0 : Hp} (M : Mono F m0 H0 m H) (n0 : H0 D = none) (hd : H D = some (SetO w D S n)) : Mono F m0 H0 m (upd H D o') :=
  ⟨M.pre, fun a u im e => by rw [upd_ne (ne_of_none e n0)]; exact M.imm a u im e, fun P hP t => tab_loose hd (M.tab P hP t), fun t => lam_loose hd (M.lam t)⟩
end
/-! ### ints in order -/
def insU (c : Int) : List Int → List Int
  | [] => [c]
  | x :: r => if c < x then c :: x :: r else x :: insU c r
def sortU : List Int → List Int
  | [] => []
  | c :: r => insU c (sortU r)
theorem mem_insU {c k : Int} : ∀ {l : List Int}, k ∈ insU c l ↔ k = c ∨ k ∈ l
  | [] => by simp [insU]
  | x :: r => by
    unfold insU
    by_cases h : c < x
    · rw [if_pos h]; simp
    · rw [if_neg h]
      simp only [List.mem_cons, mem_insU (l := r)]
      constructor <;> (intro z; rcases z with z | z | z <;> simp [z])
theorem insU_sorted {c : Int} : ∀ {l : List Int}, l.Pairwise (· < ·) → c ∉ l → (insU c l).Pairwise (· < ·)
  | [], _, _ => by simp [insU]
  | x :: r, h, nc => by
    obtain ⟨h1, h2⟩ := List.pairwise_cons.mp h
    have ncx : c ≠ x := fun z => nc (by rw [z]; exact List.mem_cons_self)
    have ncr : c ∉ r := fun z => nc (List.mem_cons_of_mem _ z)
    unfold insU
    by_cases hl : c < x
    · rw [if_pos hl]
      exact List.pairwise_cons.mpr ⟨fun y hy => by
        rcases List.mem_cons.mp hy with rfl | hy
        · exact hl
        · have := h1 y hy; omega, h⟩
    · rw [if_neg hl]
      refine List.pairwise_cons.mpr ⟨fun y hy => ?_, insU_sorted h2 ncr⟩
      rcases mem_insU.mp hy with rfl | hy
      · omega
      · exact h1 y hy
theorem mem_sortU {k : Int} : ∀ {l : List Int}, k ∈ sortU l ↔ k ∈ l
  | [] => Iff.rfl
  | x :: r => by
    show k ∈ insU x (sortU r) ↔ _
    rw [mem_insU, mem_sortU, List.mem_cons]
theorem sortU_sorted : ∀ {l : List Int}, l.Nodup → (sortU l).Pairwise (· < ·)
  | [], _ => List.Pairwise.nil
  | x :: r, h => by
    obtain ⟨h1, h2⟩ := List.nodup_cons.mp h
    exact insU_sorted (sortU_sorted h2) fun z => h1 (mem_sortU.mp z)
theorem strict_one : ∀ {l1 l2 : List Int}, l1.Pairwise (· < ·) → l2.Pairwise (· < ·) → (∀ k, k ∈ l1 ↔ k ∈ l2) → l1 = l2
  | [], [], _, _, _ => rfl
  | [], y :: r, _, _, h => absurd ((h y).mpr List.mem_cons_self) (by simp)
  | x :: r, [], _, _, h => absurd ((h x).mp List.mem_cons_self) (by simp)
  | x :: r1, y :: r2, p1, p2, h => by
    obtain ⟨a1, a2⟩ := List.pairwise_cons.mp p1
    obtain ⟨b1, b2⟩ := List.pairwise_cons.mp p2
    have e : x = y := by
      rcases List.mem_cons.mp ((h x).mp List.mem_cons_self) with z | z
      · exact z
      · rcases List.mem_cons.mp ((h y).mpr List.mem_cons_self) with z2 | z2
        · exact z2.symm
        · have := a1 y z2; have := b1 x z; omega
    subst e
    rw [strict_one a2 b2 fun k => ?_]
    constructor
    · intro z
      rcases List.mem_cons.mp ((h k).mp (List.mem_cons_of_mem _ z)) with e | e
      · have := a1 k z; omega
      · exact e
    · intro z
      rcases List.mem_cons.mp ((h k).mpr (List.mem_cons_of_mem _ z)) with e | e
      · have := b1 k z; omega
      · exact e
/-! ### the small machine -/
def scL (it : AIt) (g : EvG) (ft : EvT) (fe : EvF) (vs : List Nat) (ρ : Sl) : Nat → Nat → List Int → Hh → Out (List Int)
  | 0, _, _, _ => .bad
  | n + 1, k, acc, h => match stepA it k h with
    | none => .bad
    | some none => .ok acc h
    | some (some x) => match g (wipeS ρ vs) x with
      | none => .bad
      | some ρ1 => bindO (noX (ft ρ1 h)) fun b h1 => if b = true then bindO (noX (fe ρ1 h1)) fun y h2 => match y with
          | .int c => if acc.length < 60 then scL it g ft fe vs ρ n (k + 1) (if c ∈ acc then acc else acc ++ [c]) h2 else .bad
          | _ => .bad
        else scL it g ft fe vs ρ n (k + 1) acc h1
def xSortSc (fi : Sl → Hh → Out AIt) (g : EvG) (ft : EvT) (fe : EvF) (vs : List Nat) : EvF := fun ρ h => bindO (fi ρ h) fun it h1 => bindO (scL it g ft fe vs ρ 100000 0 [] h1) fun acc h2 => if acc.length < 64 then mkO (.lst ((sortU acc).map AV.int)) h2 else .bad
section
variable {F : Fx} {W : WX'}
theorem setO_eq {w : World} {D : Addr} {S S' : Int → Bool} {n n' : Nat} (h : ∀ k, S k = S' k) (e : n = n') : SetO w D S n = SetO w D S' n' := by rw [funext h, e]
theorem x_sortSc {w : World} {wi : TI} {fi : Sl → Hh → Out AIt} {g : TG} {gf : EvG} {is vs : List Nat} {tt : TT} {ft : EvT} {te : TE} {fe : EvF} (hi : Pit F W wi fi) (hg : Ptq F g gf is) (hv : ∀ i ∈ is, i ∈ vs) (ht : Ptt F Wno tt ft) (he : Pe F Wno te fe) :
    Pe F W (tCB (rSortedSet w) (tCons (tScI w wi g tt te vs) tNil)) (xSortSc fi gf ft fe vs) := by
  intro m H h σ ρ Q rh rs q
  refine hi m H h σ ρ _ rh rs (okg_imp (okg_bind q) fun it h1 m1 H1 r1 M1 q1 J ij D nD => ?_)
  have fin : ∀ (acc : List Int) (m' : List Addr) (H' : Hp) (h' : Hh), RH F m' h' H' → Mono F m1 H1 m' H' → H' D = some (SetO w D (fun j => decide (j ∈ acc)) acc.length) → acc.Nodup →
      OkG F m1 H1 (if acc.length < 64 then mkO (.lst ((sortU acc).map AV.int)) h' else .bad) (PV F Q) (fun c d H' => W c d σ H') → tNil σ H' (fun xs H2 => rSortedSet w (V.ref D :: xs) H2 Q) := fun acc m' H' h' r' M' hD nd q' => by
    show rSortedSet w [V.ref D] H' Q
    split at q'
    · rename_i h64
      refine ⟨D, _, _, rfl, hD, h64, fun ns p p1 p2 p3 np => ?_⟩
      have e : ns = sortU acc := strict_one p1 (sortU_sorted nd) fun k => by rw [p2 k, mem_sortU]; simp
      subst e
      exact mkO_ok r' (.lst (rv_ints _)) (okg_mono q' M') p np
    · exact q'.elim
  refine ⟨fun i n H' => ∃ m' h' acc, RH F m' h' H' ∧ Mono F m1 H1 m' H' ∧ H' D = some (SetO w D (fun j => decide (j ∈ acc)) acc.length) ∧ acc.Nodup ∧
      OkG F m1 H1 (bindO (scL it gf ft fe vs ρ n i acc h') fun acc h2 => if acc.length < 64 then mkO (.lst ((sortU acc).map AV.int)) h2 else .bad) (PV F Q) (fun c d H' => W c d σ H'),
    ⟨100000, m1, h1, [], r1.laid nD, Mono.laid nD, by rw [upd_same]; exact congrArg some (setO_eq (fun _ => rfl) rfl), List.nodup_nil, q1⟩, fun i n H2 ⟨m2, h2, acc, r3, M3, hD, nd, q2⟩ => ?_⟩
  cases n with
  | zero => exact q2.elim
  | succ n =>
    unfold scL at q2
    obtain ⟨st, yl⟩ := ij m2 h2 H2 i r3 M3
    cases z : stepA it i h2 with
    | none => simp only [z] at q2; exact q2.elim
    | some o =>
      cases o with
      | none => simp only [z] at q2; exact .inl ⟨st z, fin acc m2 H2 h2 r3 M3 hD nd q2⟩
      | some x =>
        simp only [z] at q2
        obtain ⟨go, yl⟩ := yl x z
        refine .inr ⟨go, fun H' => ∃ m' h' acc, RH F m' h' H' ∧ Mono F m1 H1 m' H' ∧ H' D = some (SetO w D (fun j => decide (j ∈ acc)) acc.length) ∧ acc.Nodup ∧
          OkG F m1 H1 (bindO (scL it gf ft fe vs ρ n (i + 1) acc h') fun acc h2 => if acc.length < 64 then mkO (.lst ((sortU acc).map AV.int)) h2 else .bad) (PV F Q) (fun c d H' => W c d σ H'), fun H' y => ⟨n, Nat.lt_succ_self n, y⟩, fun v H3 y => ?_⟩
        obtain ⟨r4, M4, rx⟩ := yl v H3 y
        have hD3 : H3 D = some (SetO w D (fun j => decide (j ∈ acc)) acc.length) := M4.imm D (SetO w D (fun j => decide (j ∈ acc)) acc.length) trivial hD
        cases zg : gf (wipeS ρ vs) x with
        | none => simp only [zg] at q2; exact q2.elim
        | some ρ3 =>
          simp only [zg] at q2
          have s3 : RS F m2 H3 (wipeS ρ vs) (L2.wipe σ vs) := ((rs.mono (M1.trans M3)).mono M4).wipe vs
          refine hg m2 H3 _ _ x v _ s3 rx ⟨ρ3, zg, fun σ3 s3 w3 => ⟨by rw [w3 vs hv, wipe_twice fun _ h => h], ?_⟩⟩
          refine ht m2 H3 h2 σ3 ρ3 _ r4 s3 ?_
          cases zt : ft ρ3 h2 with
          | bad => rw [zt] at q2; exact q2.elim
          | exc c fs h' => rw [zt] at q2; exact q2.elim
          | ok b h4 =>
            rw [zt] at q2
            intro m4 H4 r5 M5
            have M34 := M3.trans (M4.trans M5)
            have hD4 : H4 D = some (SetO w D (fun j => decide (j ∈ acc)) acc.length) := M5.imm D (SetO w D (fun j => decide (j ∈ acc)) acc.length) trivial hD3
            cases b with
            | false => exact ⟨m4, h4, acc, r5, M34, hD4, nd, q2⟩
            | true =>
              refine he m4 H4 h4 σ3 ρ3 _ r5 (s3.mono M5) ?_
              have q2 : OkG F m1 H1 (bindO (bindO (noX (fe ρ3 h4)) fun y h2 => match y with
                | .int c => if acc.length < 60 then scL it gf ft fe vs ρ n (i + 1) (if c ∈ acc then acc else acc ++ [c]) h2 else .bad
                | _ => .bad) fun acc h2 => if acc.length < 64 then mkO (.lst ((sortU acc).map AV.int)) h2 else .bad) (PV F Q) (fun c d H' => W c d σ H') := q2
              cases ze : fe ρ3 h4 with
              | bad => rw [ze] at q2; exact q2.elim
              | exc c fs h' => rw [ze] at q2; exact q2.elim
              | ok y h5 =>
                rw [ze] at q2
                intro m5 H5 r6 M6 u ru
                have hD5 : H5 D = some (SetO w D (fun j => decide (j ∈ acc)) acc.length) := M6.imm D (SetO w D (fun j => decide (j ∈ acc)) acc.length) trivial hD4
                have M36 := M34.trans M6
                cases y with
                | int c =>
                  cases ru
                  have q2 : OkG F m1 H1 (bindO (if acc.length < 60 then scL it gf ft fe vs ρ n (i + 1) (if c ∈ acc then acc else acc ++ [c]) h5 else .bad) fun acc h2 => if acc.length < 64 then mkO (.lst ((sortU acc).map AV.int)) h2 else .bad) (PV F Q) (fun c d H' => W c d σ H') := q2
                  by_cases hz : acc.length < 60
                  · rw [if_pos hz] at q2
                    refine ⟨c, _, _, rfl, hD5, by unfold scanBound; omega, m5, h5, (if c ∈ acc then acc else acc ++ [c]), r6.loose hD5, M36.loose nD hD5, ?_, ?_, q2⟩
                    · rw [upd_same]
                      refine congrArg some (setO_eq (fun k => ?_) ?_)
                      · by_cases hc : c ∈ acc
                        · rw [if_pos hc]
                          by_cases hk : k = c
                          · subst hk; simp [hc]
                          · simp [hk]
                        · rw [if_neg hc]
                          by_cases hk : k ∈ acc <;> simp [hk]
                      · by_cases hc : c ∈ acc
                        · rw [if_pos hc, if_pos (by simpa using hc)]
                        · rw [if_neg hc, if_neg (by simpa using hc), List.length_append]; rfl
                    · by_cases hc : c ∈ acc
                      · rw [if_pos hc]; exact nd
                      · rw [if_neg hc]
                        rw [List.nodup_append]
                        exact ⟨nd, by simp, fun a ha b hb z => hc (by rw [List.mem_singleton.mp hb] at z; rw [← z]; exact ha)⟩
                  · rw [if_neg hz] at q2; exact q2.elim
                | _ => exact q2.elim
end
section
variable {X : Cx} {F : Fx} {W : WX'}
theorem ce_sortSc {elt tg iter : Expr} {ifs : List Expr} {scope : Scope} {own : List (Str × Nat)} {p pos spos : Pos} {fi : Sl → Hh → Out AIt} {g : EvG} {is : List Nat} {ft : EvT} {fe : EvF} (hc : X.calm = true) (hN : X.N.Nodup) (hgl : Gl X "sorted") (hm : X.mg "sorted" = none) (hi : CI X F W tg iter fi) (ok : BlkOk X.N X.env.scope scope own)
    (hg : CGb X F scope tg g is) (hv : ∀ i ∈ is, i ∈ own.map (·.2))
    (ht : ∀ (s : Shared) (H : Hp) (C : Addr) (cl : List (Str × Addr)) (fp : List Addr), CTs (X.blk s H scope (compEnvC scope cl C X.env) fp) F Wno ifs ft)
    (he : ∀ (s : Shared) (H : Hp) (C : Addr) (cl : List (Str × Addr)) (fp : List Addr), CE (X.blk s H scope (compEnvC scope cl C X.env) fp) F Wno elt fe) (hs : ∀ x, foldedSetIterable iter X.env x = pure x := by intro _; rfl)
    (hse : starEach [.SetComp elt [⟨tg, iter, ifs, 0⟩] scope spos] X.env = (false, eval (.SetComp elt [⟨tg, iter, ifs, 0⟩] scope spos) X.env) :: starEach [] X.env := by rfl) (hpl : (backTo pos (starEach [] X.env)).any (·.1) = false := by rfl) :
    CE X F W (.Call (.Name "sorted" p) [.SetComp elt [⟨tg, iter, ifs, 0⟩] scope spos] [] pos) (xSortSc fi g ft fe (own.map (·.2))) := by
  obtain ⟨t, a1, a2⟩ := hg
  exact ce (pe_callB (cr_sortedSet hc) hgl hm (by decide +kernel) (pa_cons (pe_scI hc hN hi ok a1 ht he hs) pa_nil)) (x_sortSc (rdI_ok fi) a2 hv (rdT_ok ft) (rdE_ok fe))
end
end DI

set_option Elab.async false
set_option linter.all false
set_option maxRecDepth 100000
set_option maxHeartbeats 4000000
/-! len(set(xs)) != len(xs) of a tuple of unlike ints -/
namespace DI
open PySem PySem.Spec PyProof.Rows L2 GxR RZ
section
variable {X : Cx} {F : Fx} {W : WX'}
def rSetTI (K : PySem.W.Frag) (w : World) : List V → Hp → VK → Prop := fun xs H Q => ∃ (a : Addr) (ns : List Int), xs = [.ref a] ∧ SqT K H a (ns.map V.int) ∧ ns.Nodup ∧ ns.length ≤ 15 ∧ ∀ b, H b = none → Q (.ref b) (upd H b (SetO w b (fun j => decide (j ∈ ns)) ns.length))
theorem cr_setTI (hc : X.calm = true) : CallR X (.type "set") (rSetTI X.K X.w) := by
  intro pins s σ H xs us Q I r h
  obtain ⟨a, ns, rfl, hs, nd, h15, q⟩ := h
  obtain ⟨u, rfl, rx⟩ := vals1 r
  obtain rfl : u = Value.ref a := rx
  obtain ⟨its, rv, pl, _⟩ := I.tuple hs
  refine call_set_tupI ns (I.ok.hd hc) pl (by simpa using intsAre_vals rv) (by unfold scanBound; omega) fun h' tk c R _ keep => ?_
  have ec : c = ns.length := by
    obtain ⟨o, es, ep, t, _, _, _, _, k1, k2, _, _, k3, _⟩ := id R
    have pm : (es.toList.map L2.keyOf).Perm ns := (List.perm_ext_iff_of_nodup k1 nd).mpr fun k => by
      rw [← k2 k]; simp
    have := pm.length_eq
    rw [List.length_map, Array.length_toList] at this
    omega
  subst ec
  have I2 : Inv X pins σ (upd H s.heap.objs.size (SetO X.w s.heap.objs.size (fun j => decide (j ∈ ns)) ns.length)) { s with heap := h', toks := tk } := I.laid (t' := tk) keep (Nat.le_refl _) (setO_new R)
  exact ⟨.ref _, _, I2, rfl, q _ (I.hok.fresh (Nat.le_refl _))⟩
theorem cr_lenO : CallR X (.builtin "len") (fun xs H Q => ∃ (a : Addr) (S : Int → Bool) (n : Nat), xs = [V.ref a] ∧ H a = some (SetO X.w a S n) ∧ n ≤ 60 ∧ Q (.int n) H) := by
  intro pins s σ H xs us Q I r h
  obtain ⟨a, S, n, rfl, e, hn, q⟩ := h
  rw [Vals.ref1 r]
  obtain ⟨o, es, ep, t, ho, hex, hd, _, _, _, _, hf, hs, _⟩ := setO_get I e
  refine PySem.call_len_set ho hex hd hf (by omega) ?_
  exact ⟨.int n, H, (I.tok _).tok _, ⟨_, by rw [hs]⟩, q⟩
def xDupI (i : Nat) : EvF := fun ρ h => match ρ[i]? with
  | some (some x) => match tupA x with
    | some xs => match mapO asInt xs with
      | some ns => if ns.length ≤ 15 ∧ ns.Nodup then .ok (.bl false) h else .bad
      | none => .bad
    | none => .bad
  | _ => .bad
theorem x_dupI (i : Nat) (hK : X.K = F.K) : Pe F W (tOp (rNeD X.K) (tCB (fun xs H Q => ∃ (a : Addr) (S : Int → Bool) (n : Nat), xs = [V.ref a] ∧ H a = some (SetO X.w a S n) ∧ n ≤ 60 ∧ Q (.int n) H) (tCons (tCB (rSetTI X.K X.w) (tCons (tVar i) tNil)) tNil))
    (tCB (fun xs H Q => ∃ p ys, xs = [.ref p] ∧ (SqL X.K H p ys ∨ SqT X.K H p ys) ∧ Q (.int ys.length) H) (tCons (tVar i) tNil))) (xDupI i) := by
  intro m H h σ ρ Q rh rs q
  unfold xDupI at q
  cases e : ρ[i]? with
  | none => simp only [e] at q; exact q.elim
  | some ov =>
    cases ov with
    | none => simp only [e] at q; exact q.elim
    | some v =>
      simp only [e] at q
      cases e2 : tupA v with
      | none => simp only [e2] at q; exact q.elim
      | some xs =>
        simp only [e2] at q
        cases e3 : mapO asInt xs with
        | none => simp only [e3] at q; exact q.elim
        | some ns =>
          simp only [e3] at q
          split at q
          · rename_i hz
            obtain ⟨u, s1, s2⟩ := rs.2 i v e
            obtain ⟨a, us, rfl, t4, ra⟩ := tupA_ok s2 e2
            have eu := ints_ok ra e3
            subst eu
            have keep : ∀ b, H b = none → SqT F.K (upd H b (SetO X.w b (fun j => decide (j ∈ ns)) ns.length)) a (ns.map V.int) := fun b nb => by
              rcases t4 with (t4 | ⟨o, t4⟩) | t4
              · exact .inl (.inl (by rw [upd_ne (ne_of_none t4 nb)]; exact t4))
              · exact .inl (.inr ⟨o, by rw [upd_ne (ne_of_none t4 nb)]; exact t4⟩)
              · exact .inr t4
            refine ⟨.ref a, s1, a, ns, rfl, by rw [hK]; exact t4, hz.2, hz.1, fun b nb => ⟨b, _, _, rfl, upd_same, by omega, ?_⟩⟩
            refine ⟨.ref a, s1, a, ns.map V.int, rfl, .inr (by rw [hK]; exact keep b nb), ?_⟩
            rw [List.length_map]
            refine ⟨.int ns.length, .int ns.length, .int _, .int _, rfl, rfl, ?_⟩
            have M : Mono F m H m (upd H b (SetO X.w b (fun j => decide (j ∈ ns)) ns.length)) := Mono.laid nb
            have fin := okg_at q (rh.laid nb) M (.bl false) (.bl _)
            have e5 : (!PyData.eqv (.int ns.length) (.int ns.length)) = false := by
              show (!((ns.length : Int) == (ns.length : Int))) = false
              simp
            rw [e5]
            exact fin
          · exact q.elim
theorem ce_dupI {x : Str} {p1 p2 p3 p4 p5 p6 p7 q pos : Pos} {k : Nat} (i : Nat) (hK : X.K = F.K) (hc : X.calm = true) (hr : Room k X.A) (hN : X.N[i]? = some x) (hv : Vis X.env.scope x) (gl : Gl X "len") (ml : X.mg "len" = none) (gs : Gl X "set") (ms : X.mg "set" = none)
    (hd : (x == ("__debug__" : Str)) = false := by decide) (hcd : (x == ("__classdict__" : Str)) = false := by decide) :
    CE X F W (.Compare (.Call (.Name "len" p1) [.Call (.Name "set" p2) [.Name x p3] [] p4] [] p5) [.NotEq] [.Call (.Name "len" p6) [.Name x p7] [] q] pos) (xDupI i) := by
  have bl : bootBuiltins "len" = some (.builtin "len") := by decide +kernel
  have bs : bootBuiltins "set" = some (.type "set") := by decide +kernel
  have v1 : ∀ pp, PE X (.Name x pp) (tVar i) := fun pp => pe_var hN hv hd hcd
  have a1 := pe_callTy (p := p2) (pos := p4) (cr_setTI hc) gs ms bs (pa_cons (v1 p3) pa_nil)
  have a2 := pe_callB (p := p1) (pos := p5) cr_lenO gl ml bl (pa_cons a1 pa_nil)
  have a3 := pe_callB (p := p6) (pos := q) call_len_seq gl ml bl (pa_cons (v1 p7) pa_nil)
  exact ce (pe_cmpR (op_neD (by have := hr.un; omega)) a2 a3 (nomark _)) (x_dupI i hK)
theorem ct_dupI {x : Str} {p1 p2 p3 p4 p5 p6 p7 q pos : Pos} {k : Nat} (i : Nat) (hK : X.K = F.K) (hc : X.calm = true) (hr : Room k X.A) (hN : X.N[i]? = some x) (hv : Vis X.env.scope x) (gl : Gl X "len") (ml : X.mg "len" = none) (gs : Gl X "set") (ms : X.mg "set" = none)
    (hd : (x == ("__debug__" : Str)) = false := by decide) (hcd : (x == ("__classdict__" : Str)) = false := by decide) :
    CT X F W (.Compare (.Call (.Name "len" p1) [.Call (.Name "set" p2) [.Name x p3] [] p4] [] p5) [.NotEq] [.Call (.Name "len" p6) [.Name x p7] [] q] pos) (xTB (xDupI i)) := by
  have bl : bootBuiltins "len" = some (.builtin "len") := by decide +kernel
  have bs : bootBuiltins "set" = some (.type "set") := by decide +kernel
  have v1 : ∀ pp, PE X (.Name x pp) (tVar i) := fun pp => pe_var hN hv hd hcd
  have a1 := pe_callTy (p := p2) (pos := p4) (cr_setTI hc) gs ms bs (pa_cons (v1 p3) pa_nil)
  have a2 := pe_callB (p := p1) (pos := p5) cr_lenO gl ml bl (pa_cons a1 pa_nil)
  have a3 := pe_callB (p := p6) (pos := q) call_len_seq gl ml bl (pa_cons (v1 p7) pa_nil)
  exact ct (pt_cmpR (op_neD (by have := hr.un; omega)) a2 a3 (nomark _)) (x_tB (x_dupI i hK))
end
end DI

set_option Elab.async false
set_option linter.all false
set_option maxRecDepth 100000
/-! isinstance where the thing may be a dict -/
namespace DI
open PySem PySem.Spec PyProof.Rows L2 GxR RZ
section
variable {F : Fx} {W : WX'}
def tyB (x : AV) (h : Hh) : Option String := match x with
  | .ref i => match h.get i with
    | some (.lst _) => some "list"
    | some (.dk _) => some "dict"
    | _ => none
  | x => tyA x h
theorem tyB_ok {m : List Addr} {H : Hp} {h : Hh} {x : AV} {u : V} {t : String} (rh : RH F m h H) (r : RV F m H x u) (e : tyB x h = some t) : TyX F.K H u (.type t) := by
  cases x <;> first | exact tyA_ok rh r e | skip
  rename_i i
  unfold tyB at e
  cases z : h.get i with
  | none => simp only [z] at e; cases e
  | some o =>
    obtain ⟨a, w, rfl, e1, e2, e3⟩ := r.at_ rh z
    cases o with
    | lst zs => simp only [z] at e; cases e; cases e3 with | lst q => exact .base (.lst e2)
    | dk _ => simp only [z] at e; cases e; cases e3 with | dk q => exact .base (.dK e2)
    | dt _ => simp only [z] at e; cases e
    | fk _ => simp only [z] at e; cases e
def xIsj (Ty : String) (fa : EvF) : EvF := fun ρ h => bindO (fa ρ h) fun x h1 => match tyB x h1 with
  | some t => match kitB t Ty with
    | some b => .ok (.bl b) h1
    | none => .bad
  | none => .bad
theorem x_isj {Ty : String} {ta : TE} {fa : EvF} (ha : Pe F W ta fa) : Pe F W (tCB (rIsi F.K) (tCons ta (tCons (tC (.ty Ty)) tNil))) (xIsj Ty fa) := by
  intro m H h σ ρ Q rh rs q
  refine ha m H h σ ρ _ rh rs (okg_imp (okg_bind q) fun x h1 m1 H1 r1 M1 q1 u ru => ?_)
  split at q1
  · split at q1
    · rename_i t e _ b e2
      exact ⟨u, .ty Ty, .type t, .type Ty, b, rfl, .ty Ty, tyB_ok r1 ru e, kit_ty e2, okg_ok r1 q1 _ (.bl b)⟩
    · exact q1.elim
  · exact q1.elim
end
section
variable {X : Cx} {F : Fx} {W : WX'}
/-- isinstance(x, T) -/
theorem ce_isj {Ty : String} {p pos p2 : Pos} {e : Expr} {T : Str} {fa : EvF} (hK : X.K = F.K) (hg : Gl X "isinstance") (hm : X.mg "isinstance" = none) (hv : bootBuiltins "isinstance" = some (.builtin "isinstance")) (ha : CE X F W e fa) (hT : Gl X T) (hmT : X.mg T = none) (hvT : bootBuiltins T = some (.type Ty)) (hn : T ≠ "__name__" := by decide) (hd : (T == ("__debug__" : Str)) = false := by decide)
    (hs : starEach [e, .Name T p2] X.env = (false, eval e X.env) :: starEach [.Name T p2] X.env := by rfl) (hpl : (backTo pos (starEach [.Name T p2] X.env)).any (·.1) = false := by rfl) :
    CE X F W (.Call (.Name "isinstance" p) [e, .Name T p2] [] pos) (xIsj Ty fa) :=
  ce (pe_callB call_isi hg hm hv (pa_cons ha (pa_cons (pe_bltn (v := .ty Ty) hT hmT hvT rfl hn hd) pa_nil) hs) (by decide) (by decide) hs hpl) (by rw [hK]; exact x_isj (rdE_ok fa))
end
end DI

set_option Elab.async false
set_option linter.all false
set_option maxRecDepth 100000
set_option maxHeartbeats 4000000
/-! list(zip(a, b)) of two lists -/
namespace DI
open PySem PySem.Spec PyProof.Rows L2 GxR RZ
theorem zip_len0 : typeLookup (.type "zip") "__len__" = pure none := am_miss_of_fast (by decide +kernel)
theorem zip_hint0 : typeLookup (.type "zip") "__length_hint__" = pure none := am_miss_of_fast (by decide +kernel)
/-- where a zip stands whose last pair is kept -/
def ZSt (z TI TO i1 i2 a b : Addr) (i : Nat) (h : Heap) : Prop :=
  IsPair h TI (.ref i1) (.ref i2) ∧ h.IsListIter i1 a i ∧ h.IsListIter i2 b i ∧
    (∃ x y, IsPair h TO x y) ∧ (IsZip h z TI TO .none ∨ ∃ T f x y, IsZipHeld h z TI TO T f ∧ IsPair h T x y ∧ T ∉ [z, TI, TO, i1, i2])
theorem ZSt.keep {z TI TO i1 i2 a b : Addr} {i : Nat} {h h' : Heap} (st : ZSt z TI TO i1 i2 a b i h) (k : ∀ c ∈ [z, TI, TO, i1, i2], ∀ o, h.get? c = some o → h'.get? c = some o) (k2 : ∀ c o, o.cls = .type "tuple" → h.get? c = some o → h'.get? c = some o) : ZSt z TI TO i1 i2 a b i h' := by
  obtain ⟨hTI, h1, h2, ⟨x, y, hTO⟩, hz⟩ := st
  refine ⟨k TI (by simp) _ hTI, h1.at fun o q => k i1 (by simp) o q, h2.at fun o q => k i2 (by simp) o q, ⟨x, y, k TO (by simp) _ hTO⟩, ?_⟩
  rcases hz with hz | ⟨T, f, x, y, hz, hT, nT⟩
  · exact .inl (k z (by simp) _ hz)
  · exact .inr ⟨T, f, x, y, k z (by simp) _ hz, k2 T _ rfl hT, nT⟩
/-- what comes: pair by pair -/
def zw (l : Addr) (Q : VK) : List (V × V) → List V → Hp → Prop
  | [], _, H => Q (.ref l) H
  | (x, y) :: r, us, H => ∀ T, H T = none → zw l Q r (us ++ [.ref T]) (upd (upd H T (.tup [x, y])) l (.lst (us ++ [.ref T])))
theorem zip_loop {X : Cx} (hc : X.calm = true) {a b z TI TO i1 i2 S : Addr} (D : ZipApart z TI TO i1 i2 a b) {xs ys : List V} {Q : VK} {R : Result → Shared → Prop} {A : Around} (hh : A.handled = none)
    {pins : List (Addr × Obj)} {σ : L2.St} (hR : ∀ H s, Inv X pins σ H s → Q (.ref S) H → R (.ok (.ret .none)) s) :
    ∀ (k i : Nat) (s : Shared) (H : Hp) (us : List V), xs.length ≤ i + k → Inv X pins σ H s → (∀ c ∈ [z, TI, TO, i1, i2], FpOk X pins H c) → ZSt z TI TO i1 i2 a b i s.heap →
      H a = some (.lst xs) → H b = some (.lst ys) → H S = some (.lst us) → us.length = i → a ≠ S → b ≠ S → i ≤ xs.length → zw S Q ((xs.zip ys).drop i) us H →
      codeAny (model X.prog X.w) A (.builtin "list.extend.loop" ⟨[.ref S, .ref z, .none], []⟩) R s := by
  intro k
  induction k with
  | zero =>
    intro i s H us hk I hf st ha hb hS hu naS nbS hix q
    obtain ⟨hTI, h1, h2, ⟨x, y, hTO⟩, hz⟩ := st
    obtain ⟨its, rv, p1, _⟩ := I.list (xs := xs) (.inl (.inl ha))
    obtain ⟨its2, rv2, p2, _⟩ := I.list (xs := ys) (.inl (.inl hb))
    have he : its.toArray[i]? = none ∨ its2.toArray[i]? = none := .inl (by have := rv.length; simp; omega)
    have hd : (xs.zip ys).drop i = [] := List.drop_eq_nil_of_le (by rw [List.length_zip]; omega)
    rw [hd] at q
    refine codeAny_builtin F.entry_extend_loop ?_
    rw [Around.under_plainId F.plain_extend_loop _]
    show wpAny _ A.in1 (pyNext (.ref z) >>= _) _ _ s
    have fin : ∀ h', (∀ c o, c ∉ [z, TI, TO, i1, i2] → s.heap.get? c = some o → h'.get? c = some o) → R (.ok (.ret .none)) { s with heap := h' } := fun h' hk' => hR H _ (I.turnedL (t' := s.toks) (ch := [z, TI, TO, i1, i2]) (fun c o hb q => hk' c o hb q) hf) q
    rcases hz with hz | ⟨T, f, x, y, hz, hT, nT⟩
    · exact wpAny_bind (wpAny_pyNext_zip_end (A := A.in1) hh D hz hTI hTO h1 h2 p1.isList p2.isList he fun h' hk' => wpAny_pure (fin h' fun c o hc e => hk' c o (fun x => hc (by simp [x])) (fun x => hc (by simp [x])) (fun x => hc (by simp [x])) (fun x => hc (by simp [x])) e))
    · exact wpAny_bind (wpAny_pyNext_zip_end_held (A := A.in1) hh D hz hT hTI h1 h2 p1.isList p2.isList he fun h' hk' => wpAny_pure (fin h' fun c o hc e => hk' c o (fun x => hc (by simp [x])) (fun x => hc (by simp [x])) (fun x => hc (by simp [x])) e))
  | succ k ih =>
    intro i s H us hk I hf st ha hb hS hu naS nbS hix q
    have st0 := st
    obtain ⟨hTI, h1, h2, ⟨x0, y0, hTO⟩, hz⟩ := st
    obtain ⟨its, rv, p1, lz⟩ := I.list (xs := xs) (.inl (.inl ha))
    obtain ⟨its2, rv2, p2, _⟩ := I.list (xs := ys) (.inl (.inl hb))
    refine codeAny_builtin F.entry_extend_loop ?_
    rw [Around.under_plainId F.plain_extend_loop _]
    show wpAny _ A.in1 (pyNext (.ref z) >>= _) _ _ s
    by_cases hl : i < xs.length ∧ i < ys.length
    · obtain ⟨hlx, hly⟩ := hl
      obtain ⟨u, hu1, ru⟩ := rv.get (List.getElem?_eq_getElem hlx)
      obtain ⟨u2, hu2, ru2⟩ := rv2.get (List.getElem?_eq_getElem hly)
      have hzl : z < s.heap.objs.size := by
        rcases hz with hz | ⟨T, f, x, y, hz, _⟩
        · exact Heap.lt_size hz
        · exact Heap.lt_size hz
      have hlt : ∀ c ∈ [z, TI, TO, i1, i2], c ≠ TO → c < s.heap.objs.size := fun c hcm hn => by
        have e' : c = z ∨ c = TI ∨ c = TO ∨ c = i1 ∨ c = i2 := by simpa using hcm
        rcases e' with q | q | q | q | q
        · rw [q]; exact hzl
        · rw [q]; exact Heap.lt_size hTI
        · exact absurd q hn
        · rw [q]; obtain ⟨_, e1, _⟩ := h1; exact Heap.lt_size e1
        · rw [q]; obtain ⟨_, e2, _⟩ := h2; exact Heap.lt_size e2
      have ed : (xs.zip ys).drop i = (xs[i], ys[i]) :: (xs.zip ys).drop (i + 1) := by
        rw [List.drop_eq_getElem_cons (by rw [List.length_zip]; omega), List.getElem_zip]
      rw [ed] at q
      have step : ∀ (h' : Heap), (∀ c o, c ∉ [z, TI, TO, i1, i2] → s.heap.get? c = some o → h'.get? c = some o) → IsPair h' s.heap.objs.size u u2 → ZSt z TI TO i1 i2 a b (i + 1) h' → s.heap.objs.size ≠ TO → TO < s.heap.objs.size →
          wpAny (model X.prog X.w) A.in1 (updateSeq S (·.push (.ref s.heap.objs.size)) >>= fun _ => again (.builtin "list.extend.loop" ⟨[.ref S, .ref z, .none], []⟩))
            (fun fin s' => match fin with | .done f => R (.ok f) s' | .again c' => c'.quiet = true ∧ codeAny (model X.prog X.w) A c' R s') (fun e s' => R (.error e) s') { s with heap := h' } := by
        intro h' hk' hT st' nTO lTO
        have hn : H s.heap.objs.size = none := I.hok.fresh (Nat.le_refl _)
        have new : ObjOk X.prog X.w (upd H s.heap.objs.size (.tup [xs[i], ys[i]])) h' s.heap.objs.size (.tup [xs[i], ys[i]]) :=
          ⟨by show 2 ≤ sizeLine; decide, [u, u2], .cons ru (.cons ru2 .nil), ⟨_, hT, rfl, _, rfl⟩⟩
        have I1 : Inv X pins σ (upd H s.heap.objs.size (.tup [xs[i], ys[i]])) { s with heap := h' } := I.turnedNew (t' := s.toks) (ch := [z, TI, TO, i1, i2]) hk' hf (Nat.le_refl _) new
        have nS : S ≠ s.heap.objs.size := fun z => by rw [z, hn] at hS; cases hS
        have na : a ≠ s.heap.objs.size := fun z => by rw [z, hn] at ha; cases ha
        have nb : b ≠ s.heap.objs.size := fun z => by rw [z, hn] at hb; cases hb
        have hS1 : upd H s.heap.objs.size (.tup [xs[i], ys[i]]) S = some (.lst us) := by rw [upd_ne nS]; exact hS
        obtain ⟨zl, its3, n3, rv3, e3⟩ := (show ObjOk X.prog X.w _ h' S (.lst us) from I1.hok S _ hS1)
        have hlen : its3.toArray.size = us.length := by rw [List.size_toArray, ← rv3.length]
        refine wpAny_bind ?_
        refine wpAny_updateSeq (s := { s with heap := h' }) e3 rfl (wpAny_pure ⟨plainId_quiet F.plain_extend_loop _, ?_⟩) (by rw [hlen]; exact zl) (by show (its3.toArray.push _).size ≤ sizeLine + 1; rw [Array.size_push, hlen]; omega)
        have hS3 := Heap.get?_update_self (Obj.mapSeq (·.push (.ref s.heap.objs.size))) e3 rfl
        have oth : ∀ c o, c ≠ S → h'.get? c = some o → (h'.update S (Obj.mapSeq (·.push (.ref s.heap.objs.size)))).get? c = some o := fun c o hb e => (Heap.get?_update_other _ _ (Ne.symm hb)).trans e
        have new2 : ObjOk X.prog X.w (upd (upd H s.heap.objs.size (.tup [xs[i], ys[i]])) S (.lst (us ++ [.ref s.heap.objs.size]))) (h'.update S (Obj.mapSeq (·.push (.ref s.heap.objs.size)))) S (.lst (us ++ [.ref s.heap.objs.size])) := by
          refine ⟨by rw [List.length_append]; simp only [List.length_cons, List.length_nil]; omega, its3 ++ [.ref s.heap.objs.size], n3 + 1, rv3.append (.cons (show RelV (V.ref s.heap.objs.size) (Value.ref s.heap.objs.size) from rfl) .nil), ?_⟩
          rw [hS3]
          simp [Obj.mapSeq]
        have I2 : Inv X pins σ (upd (upd H s.heap.objs.size (.tup [xs[i], ys[i]])) S (.lst (us ++ [.ref s.heap.objs.size]))) { s with heap := h'.update S (Obj.mapSeq (·.push (.ref s.heap.objs.size))) } :=
          I1.write (t' := s.toks) (e := S) (by rw [hS1]; trivial) (.inl rfl) (fun c o hb e => oth c o hb e) ⟨_, hS3⟩ new2
        have fpS : ∀ c ∈ [z, TI, TO, i1, i2], c ≠ S := fun c hc e => by
          have := (hf c hc).1
          rw [e, hS] at this; cases this
        have fpn : ∀ c ∈ [z, TI, TO, i1, i2], c ≠ s.heap.objs.size := fun c hc e => by
          by_cases q : c = TO
          · rw [← e, q] at nTO; exact nTO rfl
          · exact absurd (hlt c hc q) (by rw [e]; exact Nat.lt_irrefl _)
        refine ih (i + 1) _ _ (us ++ [.ref s.heap.objs.size]) (by omega) I2 (fun c hc => ⟨by rw [upd_ne (fpS c hc), upd_ne (fpn c hc)]; exact (hf c hc).1, (hf c hc).2⟩) ?_ (by rw [upd_ne naS, upd_ne na]; exact ha) (by rw [upd_ne nbS, upd_ne nb]; exact hb) upd_same (by rw [List.length_append, hu]; rfl) naS nbS hlx (q _ hn)
        exact st'.keep (fun c hc o e => oth c o (fpS c hc) e) fun c o ho e => oth c o (fun z => by rw [z, e3] at e; rw [← Option.some.inj e] at ho; exact absurd (Value.type.inj ho) (by decide)) e
      have nfp : s.heap.objs.size ∉ [z, TI, TO, i1, i2] := fun hm => by
        by_cases q : s.heap.objs.size = TO
        · exact absurd (Heap.lt_size hTO) (by rw [q]; exact Nat.lt_irrefl _)
        · exact absurd (hlt _ hm q) (Nat.lt_irrefl _)
      rcases hz with hz | ⟨T, f, x, y, hz, hT, nT⟩
      · refine wpAny_bind (wpAny_pyNext_zip_item D hz hTI hTO h1 h2 p1.isList p2.isList (x := u) (y := u2) (by simpa using hu1) (by simpa using hu2) fun h' z' TO' h1' h2' hT hsz hk' => ?_)
        refine step h' (fun c o hc e => hk' c o (fun x => hc (by simp [x])) (fun x => hc (by simp [x])) (fun x => hc (by simp [x])) (fun x => hc (by simp [x])) e) hT
          ⟨hk' _ _ D.TIz D.TITO D.TIi1 D.TIi2 hTI, h1', h2', ⟨_, _, TO'⟩, .inr ⟨_, _, _, _, z', hT, nfp⟩⟩ (Nat.ne_of_gt (Heap.lt_size hTO)) (Heap.lt_size hTO)
      · refine wpAny_bind (wpAny_pyNext_zip_item_held D hz hT hTI h1 h2 p1.isList p2.isList (x := u) (y := u2) (by simpa using hu1) (by simpa using hu2) fun h' z' h1' h2' hT' hsz hk' => ?_)
        have nT' : T ≠ z ∧ T ≠ TI ∧ T ≠ TO ∧ T ≠ i1 ∧ T ≠ i2 := by simpa using nT
        refine step h' (fun c o hc e => hk' c o (fun x => hc (by simp [x])) (fun x => hc (by simp [x])) (fun x => hc (by simp [x])) e) hT'
          ⟨hk' _ _ D.TIz D.TIi1 D.TIi2 hTI, h1', h2', ⟨_, _, hk' _ _ D.TOz D.TOi1 D.TOi2 hTO⟩, .inr ⟨_, _, _, _, z', hk' _ _ nT'.1 nT'.2.2.2.1 nT'.2.2.2.2 hT, nT⟩⟩ (Nat.ne_of_gt (Heap.lt_size hTO)) (Heap.lt_size hTO)
    · have he : its.toArray[i]? = none ∨ its2.toArray[i]? = none := by
        have r1 := rv.length
        have r2 := rv2.length
        by_cases q : i < xs.length
        · exact .inr (by simp; omega)
        · exact .inl (by simp; omega)
      have hd : (xs.zip ys).drop i = [] := List.drop_eq_nil_of_le (by rw [List.length_zip]; omega)
      rw [hd] at q
      have fin : ∀ h', (∀ c o, c ∉ [z, TI, TO, i1, i2] → s.heap.get? c = some o → h'.get? c = some o) → R (.ok (.ret .none)) { s with heap := h' } := fun h' hk' => hR H _ (I.turnedL (t' := s.toks) (ch := [z, TI, TO, i1, i2]) (fun c o hb q => hk' c o hb q) hf) q
      rcases hz with hz | ⟨T, f, x, y, hz, hT, nT⟩
      · exact wpAny_bind (wpAny_pyNext_zip_end (A := A.in1) hh D hz hTI hTO h1 h2 p1.isList p2.isList he fun h' hk' => wpAny_pure (fin h' fun c o hc e => hk' c o (fun x => hc (by simp [x])) (fun x => hc (by simp [x])) (fun x => hc (by simp [x])) (fun x => hc (by simp [x])) e))
      · exact wpAny_bind (wpAny_pyNext_zip_end_held (A := A.in1) hh D hz hT hTI h1 h2 p1.isList p2.isList he fun h' hk' => wpAny_pure (fin h' fun c o hc e => hk' c o (fun x => hc (by simp [x])) (fun x => hc (by simp [x])) (fun x => hc (by simp [x])) e))
theorem call_listZip {X : Cx} (hc : X.calm = true) {a b z TI TO i1 i2 : Addr} (D : ZipApart z TI TO i1 i2 a b) {xs ys : List V} {Q : VK} {Q' : Value → Shared → Prop} {E : Value → Shared → Prop} {pins : List (Addr × Obj)} {s : Shared} {σ : L2.St} {H : Hp}
    (I : Inv X pins σ H s) (hf : ∀ c ∈ [z, TI, TO, i1, i2], FpOk X pins H c) (st : ZSt z TI TO i1 i2 a b 0 s.heap) (hz0 : IsZip s.heap z TI TO .none) (ha : H a = some (.lst xs)) (hb : H b = some (.lst ys))
    (q : ∀ l, H l = none → zw l Q (xs.zip ys) [] (upd H l (.lst []))) (hQ : ∀ H s l, Inv X pins σ H s → Q (.ref l) H → Q' (.ref l) s) :
    wpAny (model X.prog X.w) X.A (call (.type "list") [.ref z]) Q' E s := by
  have hn : H s.heap.objs.size = none := I.hok.fresh (Nat.le_refl _)
  have hz : ∃ o, s.heap.get? z = some o ∧ o.cls = .type "zip" := by
    obtain ⟨_, _, _, _, hz | ⟨_, _, _, _, hz, _⟩⟩ := st
    · exact ⟨_, hz, rfl⟩
    · exact ⟨_, hz, rfl⟩
  obtain ⟨oz, ez, cz⟩ := hz
  have hlt : ∀ c ∈ [z, TI, TO, i1, i2], c < s.heap.objs.size := fun c hcm => by
    obtain ⟨hTI, h1, h2, ⟨x, y, hTO⟩, _⟩ := st
    have e' : c = z ∨ c = TI ∨ c = TO ∨ c = i1 ∨ c = i2 := by simpa using hcm
    rcases e' with q | q | q | q | q
    · rw [q]; exact Heap.lt_size ez
    · rw [q]; exact Heap.lt_size hTI
    · rw [q]; exact Heap.lt_size hTO
    · rw [q]; obtain ⟨_, e1, _⟩ := h1; exact Heap.lt_size e1
    · rw [q]; obtain ⟨_, e2, _⟩ := h2; exact Heap.lt_size e2
  have hSz : s.heap.objs.size ≠ z := Nat.ne_of_gt (Heap.lt_size ez)
  refine callType_codes (Q₁ := fun obj s₁ => obj = .ref s.heap.objs.size ∧ s₁ = { s with heap := s.heap.push { cls := .type "list", data := .seq #[] } }) F.called_list (F.typeCall_list_1 _) F.entry_list_init
    (code_list_new _ ⟨rfl, rfl⟩) fun obj s₁ h₁ => ?_
  obtain ⟨rfl, rfl⟩ := h₁
  have hS : (s.heap.push { cls := .type "list", data := .seq #[] }).get? s.heap.objs.size = some { cls := .type "list", data := .seq #[] } := Heap.get?_push_size _ rfl
  refine ⟨⟨_, hS, rfl⟩, F.args_list_init_2 _ _, ?_⟩
  show wpAny _ X.A.in1.in1 (do let old ← Builtin.List.listItems (.ref s.heap.objs.size); Builtin.List.listUpdate (.ref s.heap.objs.size) (fun _ => #[]); letGo old.toList.reverse; Builtin.List.listExtendWith (.ref s.heap.objs.size) (.ref z) .none) _ _ _
  refine wpAny_bind ?_
  unfold Builtin.List.listItems
  refine wpAny_bind (wpAny_seqItems hS rfl (wpAny_pure ?_))
  show wpAny _ X.A.in1.in1 (updateSeq s.heap.objs.size (fun _ => #[]) >>= fun _ => letGo (#[] : Array Value).toList.reverse >>= fun _ => Builtin.List.listExtendWith (.ref s.heap.objs.size) (.ref z) .none) _ _ _
  refine wpAny_bind (wpAny_updateSeq hS rfl ?_)
  have hS2 := Heap.get?_update_self (Obj.mapSeq (fun _ => (#[] : Array Value))) hS rfl
  refine wpAny_bind (wpAny_letGo ?_)
  unfold Builtin.List.listExtendWith
  have k1 : ∀ b o, s.heap.get? b = some o → (s.heap.push { cls := .type "list", data := .seq #[] }).get? b = some o := fun b o e => Heap.get?_push_of_some _ e
  have k2 : ∀ b o, s.heap.get? b = some o → ((s.heap.push { cls := .type "list", data := .seq #[] }).update s.heap.objs.size (Obj.mapSeq (fun _ => (#[] : Array Value)))).get? b = some o := fun b o e =>
    (Heap.get?_update_other _ _ (Ne.symm (Nat.ne_of_lt (Heap.lt_size e)))).trans (k1 b o e)
  have hT2 : Shared.TypeIs { s with heap := (s.heap.push { cls := .type "list", data := .seq #[] }).update s.heap.objs.size (Obj.mapSeq (fun _ => (#[] : Array Value))) } (.ref z) "zip" := ⟨_, k2 _ _ ez, cz⟩
  refine wpAny_bind (wpAny_typeOf hT2 ?_)
  have h1 : Builtin.List.listSameRef (.ref s.heap.objs.size) (.ref z) = false := by simp [Builtin.List.listSameRef, hSz]
  have h2 : (Value.type "zip" == Value.type "list") = false := by decide
  have h3 : (Value.type "zip" == Value.type "tuple") = false := by decide
  simp only [h1, h2, h3, Bool.or_false, Bool.false_eq_true, if_false]
  refine wpAny_bind (wpAny_pyIter_zip (s := { s with heap := _ }) (k2 _ _ hz0) ?_)
  refine wpAny_bind (wpAny_holding ?_)
  unfold Builtin.List.listLengthHint
  refine wpAny_bind (wpAny_specialOf hT2 zip_len0 ?_)
  show wpAny _ X.A.in1.in1 (specialOf (Value.ref z) (Str.ofString "__length_hint__") >>= _) _ _ _
  refine wpAny_bind (wpAny_specialOf hT2 zip_hint0 ?_)
  refine wpAny_pure ?_
  show wpAny _ X.A.in1.in1 (rule "list.extend.makes-room" >>= fun _ => Builtin.List.listTouch (.ref s.heap.objs.size) >>= fun _ =>
    again (.builtin "list.extend.loop" ⟨[.ref s.heap.objs.size, .ref z, .none], []⟩)) _ _ _
  refine wpAny_bind (wpAny_rule ?_)
  refine wpAny_bind ?_
  show wpAny _ X.A.in1.in1 (updateSeq s.heap.objs.size (·.push .none) >>= fun _ => updateSeq s.heap.objs.size (·.pop)) _ _ _
  refine wpAny_bind (wpAny_updateSeq hS2 rfl ?_)
  have hS3 := Heap.get?_update_self (Obj.mapSeq (·.push Value.none)) hS2 rfl
  refine wpAny_updateSeq (hz := by seq_fits) hS3 rfl ?_
  have hS4 := Heap.get?_update_self (Obj.mapSeq (·.pop)) hS3 rfl
  have up : ∀ (h : Heap) (f : Obj → Obj), (∀ b o, s.heap.get? b = some o → h.get? b = some o) → ∀ b o, s.heap.get? b = some o → (h.update s.heap.objs.size f).get? b = some o := fun h f q b o e =>
    (Heap.get?_update_other _ _ (Ne.symm (Nat.ne_of_lt (Heap.lt_size e)))).trans (q b o e)
  have k4 := up _ (Obj.mapSeq (·.pop)) (up _ (Obj.mapSeq (·.push Value.none)) k2)
  refine wpAny_pure ⟨plainId_quiet F.plain_extend_loop _, ?_⟩
  have I4 : Inv X pins σ (upd H s.heap.objs.size (.lst [])) { s with heap := (((s.heap.push { cls := .type "list", data := .seq #[] }).update s.heap.objs.size (Obj.mapSeq (fun _ => (#[] : Array Value)))).update s.heap.objs.size (Obj.mapSeq (·.push Value.none))).update s.heap.objs.size (Obj.mapSeq (·.pop)) } :=
    I.laid (t' := s.toks) k4 (Nat.le_refl _) ⟨Nat.zero_le _, [], _, .nil, hS4⟩
  refine zip_loop hc D (A := X.A.in1) (Q := Q) (I.ok.hd hc) (fun H s I q => ⟨rfl, hQ H s _ I q⟩) xs.length 0 _ _ [] (by omega) I4
    (fun c hcm => ⟨by rw [upd_ne (Nat.ne_of_lt (hlt c hcm))]; exact (hf c hcm).1, (hf c hcm).2⟩) (st.keep (fun c _ o e => k4 c o e) fun c o _ e => k4 c o e)
    (by rw [upd_ne (fun z => by rw [z, hn] at ha; cases ha)]; exact ha) (by rw [upd_ne (fun z => by rw [z, hn] at hb; cases hb)]; exact hb) upd_same rfl (fun z => by rw [z, hn] at ha; cases ha) (fun z => by rw [z, hn] at hb; cases hb) (Nat.zero_le _) (q _ hn)
def tLZ (ta : TA) : TE := fun σ H Q => ta σ H fun vs H1 => ∃ (a b : Addr) (xs ys : List V), vs = [.ref a, .ref b] ∧ H1 a = some (.lst xs) ∧ H1 b = some (.lst ys) ∧ ∀ l, H1 l = none → zw l Q (xs.zip ys) [] (upd H1 l (.lst []))
theorem pe_listZip {X : Cx} {e e2 : Expr} {ta : TA} {p p2 q pos : Pos} (hg : Gl X "list") (hm : X.mg "list" = none) (hg2 : Gl X "zip") (hm2 : X.mg "zip" = none) (ha : PA X [e, e2] ta) (hc : X.calm = true := by rfl)
    (hs : starEach [e, e2] X.env = (false, eval e X.env) :: starEach [e2] X.env := by rfl) (hpl : (backTo q (starEach [e2] X.env)).any (·.1) = false := by rfl) :
    PE X (.Call (.Name "list" p) [.Call (.Name "zip" p2) [e, e2] [] q] [] pos) (tLZ ta) := by
  refine ⟨fun pins s σ H Q I h => ?_⟩
  refine Call_ (ld_blt I hg hm PyProof.Rows.boot_list ?_)
  refine PyProof.Rows.callWith_type1 (PyProof.Rows.args_cons ?_ rfl) rfl rfl
  refine Call_ (ld_blt I hg2 hm2 PyProof.Rows.boot_zip (PyProof.Rows.callWith_type1 (thn (ha.run q pins s σ H _ I h) fun us s1 ⟨vs, H1, I1, r1, q1⟩ => ?_) hs hpl))
  obtain ⟨a, b, xs, ys, ex, e1, e2, q1⟩ := q1
  subst ex
  cases r1 with
  | cons r rr =>
    cases rr with
    | cons r' rr =>
      cases rr
      cases r
      cases r'
      obtain ⟨its, rv, p1, _⟩ := I1.list (xs := xs) (.inl (.inl e1))
      obtain ⟨its2, rv2, p2, _⟩ := I1.list (xs := ys) (.inl (.inl e2))
      refine call_zip_2 p1.isList p2.isList fun h' hz hTI hTO h1 h2 hsz hk => PyProof.Rows.args_nil ?_
      have I2 : Inv X pins σ H1 { s1 with heap := h' } := I1.kept (t' := s1.toks) hk
      refine call_listZip hc (PySem.W.ktu_apart s1.heap.objs.size a b p1.lt p2.lt) (Q := Q) I2 (fun c hcm => ?_) ⟨hTI, h1, h2, ⟨_, _, hTO⟩, .inl hz⟩ hz e1 e2 q1 fun H' s' l I' q' => ⟨.ref l, H', I', rfl, q'⟩
      have e' : c = s1.heap.objs.size + 4 ∨ c = s1.heap.objs.size + 2 ∨ c = s1.heap.objs.size + 3 ∨ c = s1.heap.objs.size ∨ c = s1.heap.objs.size + 1 := by simpa using hcm
      have hle : s1.heap.objs.size ≤ c := by
        rcases e' with z | z | z | z | z
        · rw [z]; exact Nat.le_add_right _ _
        · rw [z]; exact Nat.le_add_right _ _
        · rw [z]; exact Nat.le_add_right _ _
        · rw [z]; exact Nat.le_refl _
        · rw [z]; exact Nat.le_add_right _ _
      exact I1.fpOk hle (I1.hok.fresh hle)
/-! in the small machine -/
section
variable {X : Cx} {F : Fx} {W : WX'}
def pairsA (ps : List (AV × AV)) : List AV := ps.map fun p => .tup [p.1, p.2]
def gListZip : List AV → Hh → Out AV := fun vs h => match vs with
  | [x, y] => match lstA x h, lstA y h with
    | some xs, some ys => if xs.length < most then mkO (.lst (pairsA (xs.zip ys))) h else .bad
    | _, _ => .bad
  | _ => .bad
theorem RH.ext {m : List Addr} {h h' : Hh} {H : Hp} (r : RH F m h H) (e : h.n = h'.n) (g : ∀ i, h.get i = h'.get i) : RH F m h' H :=
  ⟨r.len.trans e, r.nd, e ▸ r.big, fun i a ei => by rw [← g i]; exact r.at_ i a ei, r.tab, r.lam, r.dis, r.one⟩
/-- how the pairs' walk lies in the store -/
theorem zw_ok {Q : VK} {l : Addr} {d : Nat} {hf : Hh} : ∀ {ps : List (AV × AV)} {us : List (V × V)} {acc : List AV} {ws : List V} {m : List Addr} {H : Hp} {h : Hh}, RH F m h H → h.n = hf.n → (∀ i, i ≠ d → h.get i = hf.get i) → h.get d = some (.lst acc) → hf.get d = some (.lst (acc ++ pairsA ps)) → m[d]? = some l → H l = some (.lst ws) → RVs F m H acc ws →
    RVs F m H (ps.map (·.1)) (us.map (·.1)) → RVs F m H (ps.map (·.2)) (us.map (·.2)) →
    (∀ m' H', RH F m' hf H' → Mono F m H m' H' → Q (.ref l) H') → zw l Q us ws H
  | [], us, acc, ws, m, H, h, rh, en, eo, ed, ef, em, hl, ra, r1, r2, q => by
    cases us with
    | nil =>
      refine q m H (rh.ext en fun i => ?_) (Mono.refl _ _)
      by_cases hi : i = d
      · rw [hi, ed, ef, show acc ++ pairsA [] = acc from List.append_nil _]
      · exact eo i hi
    | cons u us => cases r1
  | (x, y) :: ps, us, acc, ws, m, H, h, rh, en, eo, ed, ef, em, hl, ra, r1, r2, q => by
    cases us with
    | nil => cases r1
    | cons u us =>
      obtain ⟨u, v⟩ := u
      cases r1 with
      | cons rx r1 =>
        cases r2 with
        | cons ry r2 =>
          intro T nT
          have M1 : Mono F m H m (upd H T (.tup [u, v])) := Mono.laid nT
          have r3 : RH F m h (upd H T (.tup [u, v])) := rh.laid nT
          have hl1 : upd H T (.tup [u, v]) l = some (.lst ws) := by rw [upd_ne (ne_of_none hl nT)]; exact hl
          have rt : RV F m (upd H T (.tup [u, v])) (.tup [x, y]) (.ref T) := .tup upd_same (.cons (rx.mono M1) (.cons (ry.mono M1) .nil))
          have ro : RO F m (upd H T (.tup [u, v])) (.lst acc) (.lst ws) := .lst (ra.mono M1)
          have M2 : Mono F m (upd H T (.tup [u, v])) m (upd (upd H T (.tup [u, v])) l (.lst (ws ++ [.ref T]))) := Mono.write hl1 ro.mut
          have r4 := r3.write ed em hl1 ro (.lst (rvs_app (ra.mono M1) (.cons rt .nil)))
          have hd : d < h.n := Hh.get_lt ed
          have M := M1.trans M2
          refine zw_ok (ps := ps) (us := us) (acc := acc ++ [.tup [x, y]]) r4 en (fun i hi => ?_) ?_ (by rw [ef, List.append_assoc]; rfl) em upd_same ((rvs_app (ra.mono M1) (.cons rt .nil)).mono M2) (r1.mono M) (r2.mono M) fun m' H' a b => q m' H' a (M.trans b)
          · rw [Hh.get_put rh.big hd, if_neg hi]; exact eo i hi
          · rw [Hh.get_put rh.big hd, if_pos rfl]
theorem zip_fst {m : List Addr} {H : Hp} : ∀ {xs ys : List AV} {us ws : List V}, RVs F m H xs us → RVs F m H ys ws → RVs F m H ((xs.zip ys).map (·.1)) ((us.zip ws).map (·.1)) ∧ RVs F m H ((xs.zip ys).map (·.2)) ((us.zip ws).map (·.2))
  | [], _, _, _, .nil, _ => ⟨.nil, .nil⟩
  | _ :: _, [], _, _, .cons _ _, .nil => ⟨.nil, .nil⟩
  | _ :: _, _ :: _, _, _, .cons a r, .cons b s => ⟨.cons a (zip_fst r s).1, .cons b (zip_fst r s).2⟩
theorem x_listZip {ta : TA} {fa : EvA} (ha : Paa F W ta fa) : Pe F W (tLZ ta) (xA gListZip fa) := by
  intro m H h σ ρ Q rh rs q
  refine ha m H h σ ρ _ rh rs (okg_imp (okg_bind q) fun vs h1 m1 H1 r1 M1 q1 us ru => ?_)
  unfold gListZip at q1
  split at q1
  · rename_i x y
    cases ru with
    | @cons _ _ u us rx ru =>
      cases ru with
      | @cons _ _ v us ry ru =>
        cases ru
        split at q1
        · rename_i xs ys ex ey
          split at q1
          · rename_i hz
            obtain ⟨i, a, us, rfl, e1, e2, rfl, e4, ra⟩ := lstA_ok r1 rx ex
            obtain ⟨j, b, ws, rfl, f1, f2, rfl, f4, rb⟩ := lstA_ok r1 ry ey
            refine ⟨a, b, us, ws, rfl, e4, f4, fun l nl => ?_⟩
            unfold mkO at q1
            split at q1
            · rename_i hb
              have M2 : Mono F m1 H1 (m1 ++ [l]) (upd H1 l (.lst [])) := Mono.new nl
              have r2 : RH F (m1 ++ [l]) (h1.new (.lst [])) (upd H1 l (.lst [])) := r1.new nl hb (.lst .nil)
              have eD : (m1 ++ [l])[h1.n]? = some l := by rw [← r1.len, List.getElem?_append_right (Nat.le_refl _)]; simp
              obtain ⟨z1, z2⟩ := zip_fst ra rb
              refine zw_ok (ps := xs.zip ys) (us := us.zip ws) (acc := []) (hf := h1.new (.lst (pairsA (xs.zip ys)))) r2 rfl (fun i hi => ?_) ?_ ?_ eD upd_same .nil (z1.mono M2) (z2.mono M2) fun m' H' r5 M5 => ?_
              · rw [Hh.get_new r1.big, Hh.get_new r1.big, if_neg hi, if_neg hi]
              · rw [Hh.get_new r1.big, if_pos rfl]
              · rw [Hh.get_new r1.big, if_pos rfl] <;> rfl
              · exact okg_at q1 r5 (M2.trans M5) (.ref l) (.ref (pre_get M5.pre eD))
            · exact q1.elim
          · exact q1.elim
        · exact q1.elim
  · exact q1.elim
theorem ce_listZip {e e2 : Expr} {fa : EvA} {p p2 q pos : Pos} (hc : X.calm = true) (hg : Gl X "list") (hm : X.mg "list" = none) (hg2 : Gl X "zip") (hm2 : X.mg "zip" = none) (ha : CA X F W [e, e2] fa)
    (hs : starEach [e, e2] X.env = (false, eval e X.env) :: starEach [e2] X.env := by rfl) (hpl : (backTo q (starEach [e2] X.env)).any (·.1) = false := by rfl) : CE X F W (.Call (.Name "list" p) [.Call (.Name "zip" p2) [e, e2] [] q] [] pos) (xA gListZip fa) :=
  ce (pe_listZip hg hm hg2 hm2 ha hc hs hpl) (x_listZip (rdA_ok fa))
end
end DI

set_option Elab.async false
set_option linter.all false
set_option maxRecDepth 100000
set_option maxHeartbeats 4000000
/-! the end of a law: the law's own call, guards told -/
namespace DI
open PySem PySem.Spec PyProof.Rows L2
section
variable {P : Program} {w : World} {K : PySem.W.Frag} {mg mb : Str → Option Value} {k : Nat} {fa a : Addr} {cs : List (Addr × Addr)} {fd : FuncData} {x : Str} {sp : Sp} {s₁ : Shared} {vs : List Value} {ns : List Int}
/-- what stands behind the top, for the law's call -/
structure Ready (K : PySem.W.Frag) (mg mb : Str → Option Value) (cs : List (Addr × Addr)) (s₁ : Shared) (a : Addr) (vs : List Value) (ns : List Int) : Prop where
  kin : K.In s₁.heap
  gl : s₁.heap.Ns mainGlobals mg
  bl : s₁.heap.Ns builtinsNs mb
  bb : ∀ x : Str, x ≠ "__name__" → mb x = bootBuiltins x
  lim : s₁.heap.NoLimit
  gens : s₁.gens = #[]
  tab : ∀ p ∈ cs, s₁.heap.get? p.2 = some { cls := .none, data := .fields #[] }
  ntab : ∀ p ∈ cs, K.lookup p.2 = none
  cd : ∀ p ∈ cs, PySem.W.CodeHd s₁.heap p.1 p.2
  bm : ∃ (bm : Addr) (ob : Obj), mg "__builtins__" = some (.ref bm) ∧ bm ≠ builtinsNs ∧ s₁.heap.get? bm = some ob ∧ ob.cls = .type "module" ∧ ob.dict = some builtinsNs ∧ ob.data = .plain
  at_ : s₁.heap.get? a = some { cls := .type "list", data := .seq vs.toArray }
  isI : IntsAre vs ns
  lenN : ns.length ≤ sizeLine
/-- the abstract heap at the law's call: the tables, the script unless it is one of what is fixed -/
def H0of (K : PySem.W.Frag) (cs : List (Addr × Addr)) (a : Addr) (vs : List Value) (ns : List Int) : Hp := fun b =>
  if b ∈ cs.map (·.2) then some (.tbl #[]) else if b = a ∧ K.lookup a = none then some (.frz { cls := .type "list", data := .seq vs.toArray } (.lst (ns.map V.int))) else none
theorem h0_tab {p : Addr × Addr} (hp : p ∈ cs) : H0of K cs a vs ns p.2 = some (.tbl #[]) := if_pos (List.mem_map.mpr ⟨p, hp, rfl⟩)
theorem Ready.tabAt (R : Ready K mg mb cs s₁ a vs ns) {b : Addr} (hb : b ∈ cs.map (·.2)) : s₁.heap.get? b = some { cls := .none, data := .fields #[] } := by
  obtain ⟨p, hp, rfl⟩ := List.mem_map.mp hb
  exact R.tab p hp
theorem Ready.notTab (R : Ready K mg mb cs s₁ a vs ns) : a ∉ cs.map (·.2) := fun z => by
  have e := R.tabAt z
  rw [R.at_] at e
  have z := congrArg Obj.data (Option.some.inj e)
  cases z
/-- what is tracked at the call: a table, or the script -/
theorem h0_some {b : Addr} {u : HO} (e : H0of K cs a vs ns b = some u) : (b ∈ cs.map (·.2) ∧ u = .tbl #[]) ∨ (b = a ∧ K.lookup a = none ∧ u = .frz { cls := .type "list", data := .seq vs.toArray } (.lst (ns.map V.int))) := by
  unfold H0of at e
  by_cases h1 : b ∈ cs.map (·.2)
  · rw [if_pos h1] at e; cases e; exact .inl ⟨h1, rfl⟩
  · rw [if_neg h1] at e
    by_cases h2 : b = a ∧ K.lookup a = none
    · rw [if_pos h2] at e; cases e; exact .inr ⟨h2.1, h2.2, rfl⟩
    · rw [if_neg h2] at e; cases e
theorem Ready.hok (R : Ready K mg mb cs s₁ a vs ns) : HOk P w (H0of K cs a vs ns) s₁.heap := fun b u e => by
  rcases h0_some e with ⟨h1, rfl⟩ | ⟨rfl, _, rfl⟩
  · exact R.tabAt h1
  · exact ⟨R.at_, by rw [List.length_map]; exact R.lenN, vs, _, vals_ints R.isI, R.at_⟩
theorem Ready.free (R : Ready K mg mb cs s₁ a vs ns) {b : Addr} {o : Obj} (e : s₁.heap.get? b = some o) (h1 : ∀ xs n, o.data ≠ .seq xs n) (h2 : o.data ≠ .fields #[]) : H0of K cs a vs ns b = none := by
  cases q : H0of K cs a vs ns b with
  | none => rfl
  | some u =>
    rcases h0_some q with ⟨z, _⟩ | ⟨z, _, _⟩
    · rw [R.tabAt z] at e; cases e; exact absurd rfl h2
    · rw [z, R.at_] at e; cases e; exact absurd rfl (h1 _ _)
theorem Ready.freeK (R : Ready K mg mb cs s₁ a vs ns) {b : Addr} {o : Obj} (e : K.lookup b = some o) : H0of K cs a vs ns b = none := by
  cases q : H0of K cs a vs ns b with
  | none => rfl
  | some u =>
    rcases h0_some q with ⟨z, _⟩ | ⟨z, z2, _⟩
    · obtain ⟨p, hp, rfl⟩ := List.mem_map.mp z
      rw [R.ntab p hp] at e; cases e
    · rw [z, z2] at e; cases e
theorem Ready.nsK (R : Ready K mg mb cs s₁ a vs ns) {b : Addr} {m : Str → Option Value} (h : s₁.heap.Ns b m) : (hidT s₁.heap (H0of K cs a vs ns)).Ns b m := by
  obtain ⟨o, es, ep, e, d, r⟩ := h
  exact ⟨o, es, ep, hidT_get e (R.free e (fun xs n z => by rw [d] at z; cases z) fun z => by rw [d] at z; cases z), d, r⟩
theorem Ready.base (R : Ready K mg mb cs s₁ a vs ns) : L2.Mod K mg (hidT s₁.heap (H0of K cs a vs ns)) :=
  ⟨fun b o e => hidT_get (R.kin b o e) (R.freeK e), R.nsK R.gl, ⟨mb, R.nsK R.bl, R.bb⟩, let ⟨mc, h1, h2⟩ := R.lim; ⟨mc, R.nsK h1, h2⟩⟩
theorem Ready.tb (R : Ready K mg mb cs s₁ a vs ns) : ∀ p ∈ cs, GxR.TabB (hidT s₁.heap (H0of K cs a vs ns)) mg p.1 p.2 := fun p hp => by
  refine ⟨?_, ?_, fun z => ?_⟩
  · obtain ⟨o, us, file, tf, flags, tg, inF, text, tt, e1, r1, r2, r3, rr⟩ := R.cd p hp
    refine ⟨o, us, file, tf, flags, tg, inF, text, tt, hidT_get e1 (R.free e1 (fun xs n z => ?_) fun z => ?_), r1, r2, r3, rr⟩
    · rw [r2] at z; cases z
    · rw [r2] at z; cases z; simp at r3
  · obtain ⟨bm, ob, b1, b2, b3, b4, b5, b6⟩ := R.bm
    refine ⟨bm, ob, b1, b2, fun q => ?_, fun q => ?_, hidT_get b3 (R.free b3 (fun xs n z => ?_) fun z => ?_), b4, b5, b6⟩
    · obtain ⟨o, es, ep, e, d, _⟩ := R.gl
      rw [q, e] at b3; cases b3; rw [d] at b6; cases b6
    · rw [q, R.tab p hp] at b3; cases b3; cases b6
    · rw [b6] at z; cases z
    · rw [b6] at z; cases z
  · obtain ⟨o, es, ep, e, d, _⟩ := R.gl
    rw [z, R.tab p hp] at e; cases e; cases d
theorem Ready.script (R : Ready K mg mb cs s₁ a vs ns) : SlAt K (H0of K cs a vs ns) a (ns.map V.int) := by
  cases e : K.lookup a with
  | none => exact .inl ⟨_, (if_neg R.notTab).trans (if_pos ⟨rfl, e⟩)⟩
  | some o =>
    have z := R.kin a o e
    rw [R.at_] at z
    cases z
    exact .inr (.inr ⟨_, vs.toArray, _, e, rfl, rfl, rfl, by rw [List.size_toArray, R.isI.length]; exact R.lenN, by simpa using vals_ints R.isI⟩)
/-- the law's call -/
theorem law_callG (R : Ready K mg mb cs s₁ a vs ns) (hr : Room k callerA) (G : FnG P w K mg (hidT s₁.heap (H0of K cs a vs ns)) (L2.CX P w) k fa fd [x] sp)
    (hbind : BindsTo s₁ fd ⟨[.ref a], []⟩ [(x, .ref a)]) (hsp : sp [.ref a] (H0of K cs a vs ns) (fun v _ => v = .bl true) fun _ _ _ => False) :
    codeAny (model P w) callerA (.call (.ref fa) ⟨[.ref a], []⟩) (fun r s' => r = .ok (.ret (.bool true)) ∧ OldK s₁.heap s'.heap ∧ s'.os = s₁.os ∧ AllBare s'.gens) s₁ := by
  have M := R.base
  have e0 : Env0 P w K mg (hidT s₁.heap (H0of K cs a vs ns)) callerA [] s₁ (H0of K cs a vs ns) := ⟨rfl, M, fun b o e => of_hidT e, Nat.le_of_eq (hidT_size _ _), trivial, fun b hb => absurd (show b ∈ ([] : List Addr) from hb) (by simp), R.hok, .of_eq R.gens⟩
  refine codeAny_mono (G.run callerA [] s₁ _ ⟨[.ref a], []⟩ [.ref a] [.ref a] _ _ hr rfl e0 hbind (.cons rfl .nil) hsp) fun r s' h => ?_
  cases r with
  | error e => obtain ⟨_, _, _, _, _, _, _, _, _, _, _, _, z⟩ := h; exact z.elim
  | ok fl =>
    cases fl with
    | next => exact False.elim h
    | brk => exact False.elim h
    | cont => exact False.elim h
    | ret u =>
      obtain ⟨v, H', os, bare, un, hok', r', q⟩ := h
      obtain rfl : v = .bl true := q
      obtain rfl : u = Value.bool true := r'
      have old : ∀ b o, b ∉ cs.map (·.2) → s₁.heap.get? b = some o → s'.heap.get? b = some o := fun b o nb e => by
        cases q : H0of K cs a vs ns b with
        | none => exact un.keep b o e q (by intro z; exact absurd (show b ∈ ([] : List Addr) from z) (by simp)) (by simp)
        | some u =>
          rcases h0_some q with ⟨z, _⟩ | ⟨rfl, _, rfl⟩
          · exact absurd z nb
          · obtain ⟨e2, _⟩ := hok' b _ (un.frzs b _ _ q)
            rw [R.at_] at e; cases e
            exact e2
      have grown : ∀ b ∈ cs.map (·.2), ∃ (p : Addr × Addr) (more : Array Value), p ∈ cs ∧ p.2 = b ∧ s'.heap.get? b = some { cls := .none, data := .fields (#[] ++ more) } := fun b hb => by
        obtain ⟨p, hp, rfl⟩ := List.mem_map.mp hb
        obtain ⟨more, z⟩ := un.tbls p.2 #[] (h0_tab hp)
        exact ⟨p, more, hp, rfl, hok' p.2 _ z⟩
      refine ⟨rfl, ⟨fun b o e => ?_, fun b o e => ?_⟩, os, bare⟩
      · by_cases hb : b ∈ cs.map (·.2)
        · obtain ⟨p, more, hp, rfl, hm⟩ := grown b hb
          rw [R.tab p hp] at e; cases e
          exact .inr (.inl ⟨((R.cd p hp).tab (R.tab p hp)).isCodeTable, rfl, #[], more, rfl, hm⟩)
        · exact .inl (old b o hb e)
      · by_cases hb : b ∈ cs.map (·.2)
        · obtain ⟨p, more, hp, rfl, hm⟩ := grown b hb
          exact ⟨_, hm⟩
        · exact ⟨o, old b o hb e⟩
end
end DI

set_option Elab.async false
set_option linter.all false
set_option maxRecDepth 100000
set_option maxHeartbeats 4000000
/-! what the head has left, for the small machine: one record of names, one Bool -/
namespace DI
open PySem PySem.Spec PyProof.Rows L2
/-! ### constants of the module -/
def all2 {α β : Type} (p : α → β → Bool) : List α → List β → Bool
  | [], [] => true
  | x :: xs, y :: ys => p x y && all2 p xs ys
  | _, _ => false
def gBase (K : PySem.W.Frag) (gl : List Str) : Str → Option Addr := fun x => if gl.contains x = true then some (He.ga K x) else none
theorem gBase_eq {K : PySem.W.Frag} {gl : List Str} {x : Str} {a : Addr} (e : gBase K gl x = some a) : a = He.ga K x ∧ gl.contains x = true := by
  unfold gBase at e
  split at e
  · rename_i h; cases e; exact ⟨rfl, h⟩
  · cases e
def cstB (K : PySem.W.Frag) (gl : List Str) : Nat → AV → Value → Bool
  | 0, _, _ => false
  | n + 1, v, u => match v with
    | .non => (match u with | .none => true | _ => false)
    | .bl b => (match u with | .bool c => b == c | _ => false)
    | .int i => (match u with | .int j _ => decide (i = j) | _ => false)
    | .str x => (match u with | .str y _ => decide (x = y) | _ => false)
    | .gl x => (match u with | .ref a => gl.contains x && decide (a = He.ga K x) | _ => false)
    | .kt xs => (match u with
      | .ref a => (match K.lookup a with
        | some ⟨.type c, _, .seq its _, _⟩ => decide (c = "tuple") && (decide (its.size ≤ sizeLine) && all2 (cstB K gl n) xs its.toList)
        | _ => false)
      | _ => false)
    | _ => false
def Cst (F : Fx) (v : AV) (u : Value) : Prop := ∃ v0 : V, RelV v0 u ∧ ∀ m H, RV F m H v v0
def ba {a b : Bool} (h : (a && b) = true) : a = true ∧ b = true := Bool.and_eq_true_iff.mp h
theorem cst_all {F : Fx} {p : AV → Value → Bool} (hp : ∀ v u, p v u = true → Cst F v u) : ∀ {xs : List AV} {us : List Value}, all2 p xs us = true → ∃ vs : List V, Vals vs us ∧ ∀ m H, RVs F m H xs vs
  | [], [], _ => ⟨[], .nil, fun _ _ => .nil⟩
  | [], _ :: _, h => by cases h
  | _ :: _, [], h => by cases h
  | x :: xs, u :: us, h => by
    obtain ⟨h1, h2⟩ := ba (show (p x u && all2 p xs us) = true from h)
    obtain ⟨v, a1, a2⟩ := hp _ _ h1
    obtain ⟨vs, b1, b2⟩ := cst_all hp h2
    exact ⟨v :: vs, .cons a1 b1, fun m H => .cons (a2 m H) (b2 m H)⟩
theorem cst_tup {F : Fx} {gl : List Str} {n : Nat} {xs : List AV} {u : Value} (ih : ∀ v u, cstB F.K gl n v u = true → Cst F v u) (h : cstB F.K gl (n + 1) (.kt xs) u = true) :
    ∃ (a : Addr) (us : List V), u = .ref a ∧ SqT F.K (fun _ => none) a us ∧ ∀ m H, RVs F m H xs us := by
  cases u with
  | ref a =>
    have h : (match F.K.lookup a with
        | some ⟨.type c, _, .seq its _, _⟩ => decide (c = "tuple") && (decide (its.size ≤ sizeLine) && all2 (cstB F.K gl n) xs its.toList)
        | _ => false) = true := h
    cases q : F.K.lookup a with
    | none => rw [q] at h; cases h
    | some o =>
      obtain ⟨oc, od, dt, osl⟩ := o
      rw [q] at h
      cases oc with
      | type c =>
        cases dt with
        | seq its k =>
          obtain ⟨h1, h2⟩ := ba (show (decide (c = "tuple") && (decide (its.size ≤ sizeLine) && all2 (cstB F.K gl n) xs its.toList)) = true from h)
          obtain ⟨h3, h4⟩ := ba h2
          obtain ⟨us, r1, r2⟩ := cst_all ih h4
          exact ⟨a, us, rfl, .inr ⟨_, its, k, q, congrArg Value.type (of_decide_eq_true h1), rfl, of_decide_eq_true h3, r1⟩, r2⟩
        | _ => cases h
      | _ => cases dt <;> cases h
  | _ => cases h
theorem cst_ok {F : Fx} {gl : List Str} (hG : ∀ x, gl.contains x = true → F.G x = some (He.ga F.K x)) : ∀ n v u, cstB F.K gl n v u = true → Cst F v u
  | 0, _, _, h => by cases h
  | n + 1, v, u, h => by
    cases v with
    | non => cases u with
      | none => exact ⟨.non, rfl, fun _ _ => .non⟩
      | _ => cases h
    | bl b => cases u with
      | bool c =>
        have e : b = c := eq_of_beq (show (b == c) = true from h)
        subst e
        exact ⟨.bl b, rfl, fun _ _ => .bl b⟩
      | _ => cases h
    | int i => cases u with
      | int j t =>
        have e : i = j := of_decide_eq_true h
        subst e
        exact ⟨.int i, ⟨t, rfl⟩, fun _ _ => .int i⟩
      | _ => cases h
    | str x => cases u with
      | str y t =>
        have e : x = y := of_decide_eq_true h
        subst e
        exact ⟨.str x, ⟨t, rfl⟩, fun _ _ => .str x⟩
      | _ => cases h
    | gl x => cases u with
      | ref a =>
        obtain ⟨h1, h2⟩ := ba (show (gl.contains x && decide (a = He.ga F.K x)) = true from h)
        have e : a = He.ga F.K x := of_decide_eq_true h2
        subst e
        exact ⟨.ref _, rfl, fun _ _ => .gl (hG x h1)⟩
      | _ => cases h
    | kt xs =>
      obtain ⟨a, us, rfl, h1, h2⟩ := cst_tup (cst_ok hG n) h
      exact ⟨.ref a, rfl, fun m H => .kt h1 (h2 m H)⟩
    | _ => cases h
/-- a tuple of the module -/
def tupC (K : PySem.W.Frag) (gl : List Str) (q : Str × List AV) : Bool := match PySem.W.nsIn K mainGlobals q.1 with
  | some (some u) => cstB K gl 6 (.kt q.2) u
  | _ => false
theorem tupC_ok {F : Fx} {h : Heap} {mg : Str → Option Value} {gl : List Str} {x : Str} {xs : List AV} (X : F.K.In h) (G : h.Ns mainGlobals mg) (hG : ∀ x, gl.contains x = true → F.G x = some (He.ga F.K x)) (c : tupC F.K gl (x, xs) = true) : KtOk F mg x xs := by
  unfold tupC at c
  cases e : PySem.W.nsIn F.K mainGlobals x with
  | none => rw [e] at c; cases c
  | some r =>
    rw [e] at c
    cases r with
    | none => cases c
    | some u =>
      obtain ⟨a, us, rfl, h1, h2⟩ := cst_tup (cst_ok hG 5) (show cstB F.K gl 6 (.kt xs) u = true from c)
      exact ⟨⟨a, us, PySem.W.mg_of X G e, h1, h2⟩⟩
/-- a dict of the module with text keys -/
def entB (K : PySem.W.Frag) (gl : List Str) (q : Str × AV) (e : DictEntry) : Bool := (match e.key with
  | .str y _ => decide (y = q.1)
  | _ => false) && cstB K gl 6 q.2 e.val
def dctC (K : PySem.W.Frag) (gl : List Str) (q : Str × List (Str × AV)) : Bool := match K.lookup (He.ga K q.1) with
  | some ⟨_, _, .dict es _, _⟩ => all2 (entB K gl) q.2 es.toList
  | _ => false
theorem ent_find {F : Fx} {gl : List Str} (hG : ∀ x, gl.contains x = true → F.G x = some (He.ga F.K x)) (z : Str) : ∀ {tab : List (Str × AV)} {es : List DictEntry}, all2 (entB F.K gl) tab es = true →
    (findA z tab = none ∧ es.find? (·.key.isStr z) = none) ∨ ∃ v e, findA z tab = some v ∧ es.find? (·.key.isStr z) = some e ∧ Cst F v e.val
  | [], [], _ => .inl ⟨rfl, rfl⟩
  | [], _ :: _, h => by cases h
  | _ :: _, [], h => by cases h
  | q :: tab, e :: es, h => by
    obtain ⟨h1, h2⟩ := ba (show (entB F.K gl q e && all2 (entB F.K gl) tab es) = true from h)
    obtain ⟨h3, h4⟩ := ba (show ((match e.key with
      | .str y _ => decide (y = q.1)
      | _ => false) && cstB F.K gl 6 q.2 e.val) = true from h1)
    have hk : e.key.isStr z = decide (q.1 = z) := by
      cases ek : e.key with
      | str y t =>
        rw [ek] at h3
        have ey : y = q.1 := of_decide_eq_true h3
        subst ey
        show (q.1 == z) = decide (q.1 = z)
        by_cases d : q.1 = z
        · rw [decide_eq_true d]; exact beq_iff_eq.mpr d
        · rw [decide_eq_false d]; exact beq_eq_false_iff_ne.mpr d
      | _ => rw [ek] at h3; cases h3
    by_cases d : q.1 = z
    · refine .inr ⟨q.2, e, if_pos d, ?_, cst_ok hG 6 _ _ h4⟩
      rw [List.find?_cons, hk, decide_eq_true d]
    · have r1 : findA z (q :: tab) = findA z tab := if_neg d
      have r2 : (e :: es).find? (·.key.isStr z) = es.find? (·.key.isStr z) := by rw [List.find?_cons, hk, decide_eq_false d]
      rw [r1, r2]
      exact ent_find hG z h2
theorem ent_norefs {F : Fx} {gl : List Str} : ∀ {tab : List (Str × AV)} {es : List DictEntry}, all2 (entB F.K gl) tab es = true → es.any (·.refKey) = false
  | [], [], _ => rfl
  | [], _ :: _, h => by cases h
  | _ :: _, [], h => by cases h
  | q :: tab, e :: es, h => by
    obtain ⟨h1, h2⟩ := ba (show (entB F.K gl q e && all2 (entB F.K gl) tab es) = true from h)
    obtain ⟨h3, _⟩ := ba (show ((match e.key with
      | .str y _ => decide (y = q.1)
      | _ => false) && cstB F.K gl 6 q.2 e.val) = true from h1)
    rw [List.any_cons, ent_norefs h2, Bool.or_false]
    obtain ⟨eh, ek, ev⟩ := e
    cases ek with
    | str y t => rfl
    | _ => cases h3
theorem dctC_ok {F : Fx} {w : World} {h : Heap} {mg : Str → Option Value} {gl : List Str} {x : Str} {tab : List (Str × AV)} {es : Array DictEntry} {n : Nat} (hG : ∀ x, gl.contains x = true → F.G x = some (He.ga F.K x))
    (hm : mg x = some (.ref (He.ga F.K x))) (D : KDict F.K w (He.ga F.K x) es n) (c : dctC F.K gl (x, tab) = true) : KdOk F w mg x tab := by
  unfold dctC at c
  rw [D.at_] at c
  have c : all2 (entB F.K gl) tab es.toList = true := c
  have look : ∀ z, PySem.W.nsIn F.K (He.ga F.K x) z = (match es.toList.find? (·.key.isStr z) with
      | some e => some (some e.val)
      | none => if es.toList.any (·.refKey) then none else some none) := fun z => by
    unfold PySem.W.nsIn
    rw [D.at_]
    rfl
  refine ⟨⟨_, es, n, hm, D, fun z => ?_, fun z v e => ?_⟩⟩
  · rw [look z]
    rcases ent_find hG z c with ⟨h1, h2⟩ | ⟨v, e, h1, h2, _⟩
    · rw [h1, h2, ent_norefs c]
      exact ⟨none, rfl, rfl⟩
    · rw [h1, h2]
      exact ⟨some e.val, rfl, rfl⟩
  · rcases ent_find hG z c with ⟨h1, h2⟩ | ⟨v', en, h1, h2, v0, r1, r2⟩
    · rw [h1] at e; cases e
    · rw [h1] at e; cases e
      refine ⟨en.val, v0, ?_, r1, r2⟩
      rw [look z, h2]
end DI

set_option Elab.async false
set_option linter.all false
set_option maxRecDepth 100000
set_option maxHeartbeats 4000000
/-! classes of exceptions, defs with tables, the law's own call -/
namespace DI
open PySem PySem.Spec PyProof.Rows L2
/-! ### classes -/
def eqB {α : Type} [DecidableEq α] (a b : α) : Bool := decide (a = b)
theorem eqB_ok {α : Type} [DecidableEq α] {a b : α} (h : eqB a b = true) : a = b := of_decide_eq_true h
def mroB (C : Addr) : List Value → Bool
  | .ref D :: bm => decide (D = C) && PySem.HandSPX.refsVE bm
  | _ => false
theorem mroB_ok {C : Addr} {l : List Value} (h : mroB C l = true) : ∃ bm, l = .ref C :: bm ∧ PySem.HandSPX.refsVE bm = true := by
  unfold mroB at h
  split at h
  · rename_i D bm
    obtain ⟨h1, h2⟩ := ba h
    have e : D = C := of_decide_eq_true h1
    subst e
    exact ⟨bm, rfl, h2⟩
  · cases h
def newB : List (Option Value) → Bool
  | [_, _, _, _, some (.builtin n), _] => decide (n = "ValueError.__new__")
  | _ => false
theorem newB_ok {l : List (Option Value)} (h : newB l = true) : ∃ k0 k1 k2 k3 k5, l = [k0, k1, k2, k3, some (.builtin "ValueError.__new__"), k5] := by
  unfold newB at h
  split at h
  · rename_i k0 k1 k2 k3 n k5
    have e : n = "ValueError.__new__" := of_decide_eq_true h
    subst e
    exact ⟨k0, k1, k2, k3, k5, rfl⟩
  · cases h
def clsShape (C : Addr) (t : Value) (cd : ClassData) (sl : List (Option Value)) : Bool := (match t with
  | .type t => decide (t = "type")
  | _ => false) && (newB sl && (!cd.hasDel && (cd.hasDict && mroB C cd.mro)))
def excShape (K : PySem.W.Frag) (C : Addr) : Bool := match K.lookup C with
  | some ⟨t, _, .cls cd, sl⟩ => clsShape C t cd sl.toList
  | _ => false
theorem excShape_ok {K : PySem.W.Frag} {C : Addr} (h : excShape K C = true) : ∃ nm q N bs bm sn sub ab col dd k0 k1 k2 k3 k5, K.lookup C = some (excClassObj nm q C N bs bm true sn sub ab col dd k0 k1 k2 k3 k5 "ValueError.__new__") ∧ PySem.HandSPX.refsVE bm = true := by
  unfold excShape at h
  cases e : K.lookup C with
  | none => rw [e] at h; cases h
  | some o =>
    obtain ⟨t, dd, dt, sl⟩ := o
    rw [e] at h
    cases dt with
    | cls cd =>
      obtain ⟨nm, bs, mro, N, q, hd, sn, sub, ab, col, hdel⟩ := cd
      obtain ⟨sl⟩ := sl
      obtain ⟨h1, h⟩ := ba (show clsShape C t _ sl = true from h)
      obtain ⟨h2, h⟩ := ba h
      obtain ⟨h3, h⟩ := ba h
      obtain ⟨h4, h5⟩ := ba h
      obtain ⟨k0, k1, k2, k3, k5, rfl⟩ := newB_ok h2
      obtain ⟨bm, e5, h6⟩ := mroB_ok h5
      have e5 : mro = .ref C :: bm := e5
      have e4 : hd = true := h4
      have e3 : hdel = false := by cases hdel with
        | false => rfl
        | true => cases h3
      subst e3 e4 e5
      cases t with
      | type t =>
        have e1 : t = "type" := of_decide_eq_true h1
        subst e1
        exact ⟨nm, q, N, bs, bm, sn, sub, ab, col, dd, k0, k1, k2, k3, k5, rfl, h6⟩
      | _ => cases h1
    | _ => cases h
/-- a class of exceptions with the field fl -/
def oexB (K : PySem.W.Frag) (C : Addr) (fl : Str) : Bool := excShape K C && (eqB (PySem.W.findIn K (.ref C) "__setattr__") (some (some (.builtin "object.__setattr__"))) && (eqB (PySem.W.subIn K (.ref C) (.type "BaseException")) (some true) &&
  (eqB (PySem.W.typeIn K (.ref C)) (some (.type "type")) && (PySem.W.keepIn K (.ref C) && eqB (PySem.W.findIn K (.ref C) fl) (some none)))))
theorem oexB_ok {K : PySem.W.Frag} {C : Addr} {fl : Str} (h : oexB K C fl = true) : OexC K C ∧ PySem.W.findIn K (.ref C) fl = some none := by
  obtain ⟨h1, h⟩ := ba h
  obtain ⟨h2, h⟩ := ba h
  obtain ⟨h3, h⟩ := ba h
  obtain ⟨h4, h⟩ := ba h
  obtain ⟨h5, h6⟩ := ba h
  exact ⟨⟨excShape_ok h1, eqB_ok h2, eqB_ok h3, eqB_ok h4, h5⟩, eqB_ok h6⟩
def clsB (K : PySem.W.Frag) (C : Addr) : Bool := eqB (PySem.W.findIn K (.ref C) "__getattribute__") (some (some (.builtin "BaseException.__getattribute__"))) && (eqB (PySem.W.findIn K (.ref C) "__getattr__") (some none) && (eqB (PySem.W.subIn K (.ref C) (.type "BaseException")) (some true) && (PySem.W.hasDictIn K C &&
  (eqB (PySem.W.findIn K (.ref C) "__class__") (some (some (.builtin "object.__class__"))) && (eqB (PySem.W.specialIn K (.builtin "object.__class__") "__get__") (some (some (.builtin "getset_descriptor.__get__"))) && (eqB (PySem.W.takesIn K (.builtin "object.__class__")) (some true) && eqB (PySem.W.mroIn K C (.type "object")) (some true)))))))
theorem clsB_ok {K : PySem.W.Frag} {C : Addr} (h : clsB K C = true) : PySem.W.ClsOk K C := by
  obtain ⟨h1, h⟩ := ba h
  obtain ⟨h2, h⟩ := ba h
  obtain ⟨h3, h⟩ := ba h
  obtain ⟨h4, h⟩ := ba h
  obtain ⟨h5, h⟩ := ba h
  obtain ⟨h6, h⟩ := ba h
  obtain ⟨h7, h8⟩ := ba h
  exact ⟨eqB_ok h1, eqB_ok h2, eqB_ok h3, h4, eqB_ok h5, eqB_ok h6, eqB_ok h7, eqB_ok h8⟩
def isB (K : PySem.W.Frag) (q : (Str × Str) × Bool) : Bool := clsB K (He.ga K q.1.1) && (eqB (PySem.W.kitOne K (.ref (He.ga K q.1.1)) (.ref (He.ga K q.1.2))) (some q.2) && eqB (PySem.W.exmOne K (.ref (He.ga K q.1.1)) (.ref (He.ga K q.1.2))) (some q.2))
def flB (K : PySem.W.Frag) (q : (Str × Str) × Bool) : Bool := xfB K (He.ga K q.1.1) && eqB (PySem.W.findIn K (.ref (He.ga K q.1.1)) q.1.2) (some none)
theorem look_mem {α β : Type} [BEq α] [LawfulBEq α] {x : α} {b : β} : ∀ {l : List (α × β)}, l.lookup x = some b → (x, b) ∈ l
  | [], e => by cases e
  | (y, c) :: l, e => by
    rw [List.lookup_cons] at e
    cases z : x == y with
    | true =>
      simp only [z] at e
      cases e
      rw [eq_of_beq z]; exact List.mem_cons_self
    | false => simp only [z] at e; exact List.mem_cons_of_mem _ (look_mem e)
theorem xis_ok {F : Fx} {gl : List Str} {exl : List ((Str × Str) × Bool)} (hF : F.G = gBase F.K gl) (c : exl.all (isB F.K) = true) : Xis F fun x y => exl.lookup (x, y) := ⟨fun x y b C Cy e e1 e2 => by
  rw [hF] at e1 e2
  obtain ⟨rfl, _⟩ := gBase_eq e1
  obtain ⟨rfl, _⟩ := gBase_eq e2
  obtain ⟨h1, h⟩ := ba (List.all_eq_true.mp c _ (look_mem e))
  obtain ⟨h2, _⟩ := ba h
  exact ⟨clsB_ok h1, eqB_ok h2⟩⟩
theorem xfl_ok {F : Fx} {gl : List Str} {fll : List ((Str × Str) × Bool)} (hF : F.G = gBase F.K gl) (c : fll.all (flB F.K) = true) : Xfl F fun x n => (fll.lookup (x, n)).isSome := ⟨fun x n C e e1 => by
  rw [hF] at e1
  obtain ⟨rfl, _⟩ := gBase_eq e1
  obtain ⟨b, e⟩ := Option.isSome_iff_exists.mp e
  obtain ⟨h1, h2⟩ := ba (List.all_eq_true.mp c _ (look_mem e))
  exact ⟨xfB_ok h1, eqB_ok h2⟩⟩
theorem xsub_ok {F : Fx} {mg : Str → Option Value} {gl : List Str} {exl : List ((Str × Str) × Bool)} {y : Str} (hF : F.G = gBase F.K gl) (hm : mg y = some (.ref (He.ga F.K y))) (c : exl.all (isB F.K) = true) : Xsub F mg y fun x => exl.lookup (x, y) := ⟨⟨_, hm, fun x C b e1 e => by
  rw [hF] at e1
  obtain ⟨rfl, _⟩ := gBase_eq e1
  obtain ⟨_, h⟩ := ba (List.all_eq_true.mp c _ (look_mem e))
  obtain ⟨_, h2⟩ := ba h
  exact eqB_ok h2⟩⟩
/-! ### defs -/
/-- the text's def of the name x -/
def dfn (x : Str) (st : Stmt) : He.DefD := ⟨(x, none), x, x, defArgs st, defBody st, defScope st, [], []⟩
/-- __init__ of the class statement st -/
def iniOf (st : Stmt) : Stmt := match st with
  | .ClassDef _ _ _ (s :: _) _ _ _ _ _ _ _ => s
  | s => s
def dini (x : Str) (st : Stmt) : He.DefD := ⟨(x, some "__init__"), "__init__", x ++ ".__init__", defArgs (iniOf st), defBody (iniOf st), defScope (iniOf st), [], []⟩
theorem fun_of {K : PySem.W.Frag} {x q : Str} {st : Stmt} {f : Addr} {fd : FuncData} (h : FunD K x q (defArgs st) (defBody st) (defScope st) [] [] f fd) : Fun K x q st f fd := by
  obtain ⟨oc, od, dV, kV, doc, pm, an, cdv, ct, osl, rfl, lk, hcd, hD, hK⟩ := h.ex
  rcases hD with ⟨_, rfl⟩ | ⟨e, _⟩
  · exact ⟨⟨oc, od, kV, doc, pm, an, cdv, ct, osl, rfl, lk, hcd⟩, h.kp⟩
  · exact absurd rfl e
abbrev BindAll (x q : Str) (st : Stmt) (ps : List Str) : Prop := ∀ (kV doc pm : Value) (an : Option Addr) (cdv ct : Value) (us : List Value), us.length = ps.length → bindArgs (PySem.W.fnOf x q (defArgs st) (defBody st) (defScope st) .none kV doc pm an cdv ct) ⟨us, []⟩ = pure (ps.zip us)
section
variable {P : Program} {w : World} {K : PySem.W.Frag} {mg : Str → Option Value} {base h : Heap} {F : Fx} {x : Str} {st : Stmt} {ps : List Str} {fa : List He.Fa} {fn : List He.DefD}
theorem at_of {d : He.DefD} (hK : F.K = K) (c : He.SaysD fa fn K) (hd : d ∈ fn) (hm : mg x = some (.ref (He.ga K x))) (e : d = dfn x st) (b : BindAll x x st ps) : At F mg x st ps := by
  subst e hK
  obtain ⟨fd, FD⟩ := c.defs hd
  have FD : FunD F.K x x (defArgs st) (defBody st) (defScope st) [] [] (He.ga F.K x) fd := FD
  exact ⟨⟨_, fd, hm, FD.kp, fun_of FD, FD.bindsN b⟩⟩
theorem atC_raw {d : He.DefD} (hK : F.K = K) (c : He.SaysD fa fn K) (hd : d ∈ fn) (hm : mg x = some (.ref (He.ga K x))) (e : d = dfn x st) (b : BindAll x x st ps) (tb : GxR.TabB base mg (He.cT K (x, none)).1 (He.cT K (x, none)).2) :
    ∃ (f : Addr) (oc kV doc pm ct : Value) (an od : Option Addr) (osl : Array (Option Value)), mg x = some (.ref f) ∧ PySem.W.keepIn F.K (.ref f) = true ∧
      F.K.lookup f = some ⟨oc, od, .func (PySem.W.fnOf x x (defArgs st) (defBody st) (defScope st) .none kV doc pm an (.ref (He.cT K (x, none)).1) ct), osl⟩ ∧ PySem.W.codeIn F.K (.ref (He.cT K (x, none)).1) x = true ∧
      Binds F.K (PySem.W.fnOf x x (defArgs st) (defBody st) (defScope st) .none kV doc pm an (.ref (He.cT K (x, none)).1) ct) ps [] ∧ GxR.TabB base mg (He.cT K (x, none)).1 (He.cT K (x, none)).2 := by
  subst e hK
  obtain ⟨fd, FD⟩ := c.defs hd
  have FD : FunD F.K x x (defArgs st) (defBody st) (defScope st) [] [] (He.ga F.K x) fd := FD
  have bb := FD.bindsN b
  obtain ⟨oc, od, dV, kV, doc, pm, an, cdv, ct, osl, rfl, lk, hcd, hD, hK⟩ := FD.ex
  rcases hD with ⟨_, rfl⟩ | ⟨e, _⟩
  · obtain ⟨c', rfl⟩ := He.codeIn_ref hcd
    have ec : He.codeOf F.K (x, none) = c' := He.codeOf_eq (p := (x, none)) lk rfl
    have e1 : (He.cT F.K (x, none)).1 = c' := ec
    rw [e1] at tb ⊢
    exact ⟨_, oc, kV, doc, pm, ct, an, od, osl, hm, FD.kp, lk, hcd, bb, tb⟩
  · exact absurd rfl e
theorem atC_of {d : He.DefD} (hK : F.K = K) (c : He.SaysD fa fn K) (hd : d ∈ fn) (hm : mg x = some (.ref (He.ga K x))) (e : d = dfn x st) (b : BindAll x x st ps) (tb : GxR.TabB base mg (He.cT K (x, none)).1 (He.cT K (x, none)).2) (hT : (He.cT K (x, none)).2 ∈ F.T) : AtC F mg base x st ps := by
  obtain ⟨f, oc, kV, doc, pm, ct, an, od, osl, h1, h2, h3, h4, h5, h6⟩ := atC_raw hK c hd hm e b tb
  exact ⟨⟨f, oc, kV, doc, pm, ct, an, od, _, _, osl, h1, h2, h3, h4, h5, h6, hT⟩⟩
theorem atL_of {d : He.DefD} (hK : F.K = K) (c : He.SaysD fa fn K) (hd : d ∈ fn) (hm : mg x = some (.ref (He.ga K x))) (e : d = dfn x st) (b : BindAll x x st ps) (tb : GxR.TabB base mg (He.cT K (x, none)).1 (He.cT K (x, none)).2) (hL : ((He.cT K (x, none)).2, x ++ ".<locals>." ++ "<lambda>") ∈ F.L) : AtL F mg base x st ps := by
  obtain ⟨f, oc, kV, doc, pm, ct, an, od, osl, h1, h2, h3, h4, h5, h6⟩ := atC_raw hK c hd hm e b tb
  exact ⟨⟨f, oc, kV, doc, pm, ct, an, od, _, _, osl, h1, h2, h3, h4, h5, h6, hL⟩⟩
/-- an exception class of one's own -/
theorem xcl_of {d : He.DefD} {fl sf gv : Str} {p1 p2 p3 p4 : Pos} (hK : F.K = K) (c : He.SaysD fa fn K) (hd : d ∈ fn) (hm : mg x = some (.ref (He.ga K x))) (hG : F.G x = some (He.ga K x)) (e : d = dini x st) (o : oexB K (He.ga K x) fl = true) (hf : (He.Fa.meth x "__init__").ok K = true)
    (S : FnScope [sf, gv] [sf, gv] (defScope (iniOf st))) (hb : defBody (iniOf st) = [.Assign [.Attribute (.Name sf p1) fl p2] (.Name gv p3) p4]) (b : BindAll "__init__" (x ++ ".__init__") (iniOf st) [sf, gv])
    (v1 : (defScope (iniOf st)).names.lookup sf = some .local) (v2 : (defScope (iniOf st)).names.lookup gv = some .local)
    (hd1 : (sf == ("__debug__" : Str)) = false) (hd2 : (sf == ("__classdict__" : Str)) = false) (hd3 : (gv == ("__debug__" : Str)) = false) (hd4 : (gv == ("__classdict__" : Str)) = false) : Xcl P w F mg base x fl := by
  subst e hK
  obtain ⟨o1, o2⟩ := oexB_ok o
  obtain ⟨m1, m2⟩ := ba (show (He.eqO (PySem.W.findIn F.K (.ref (He.ga F.K x)) "__init__") (some (some (.ref (He.ma F.K (He.ga F.K x) "__init__")))) && (PySem.W.isFn F.K (.ref (He.ma F.K (He.ga F.K x) "__init__")) && PySem.W.keepIn F.K (.ref (He.ma F.K (He.ga F.K x) "__init__")))) = true from hf)
  obtain ⟨m3, m4⟩ := ba m2
  obtain ⟨fd, FD⟩ := c.defs hd
  have FD : FunD F.K "__init__" (x ++ ".__init__") (defArgs (iniOf st)) (defBody (iniOf st)) (defScope (iniOf st)) [] [] (He.ma F.K (He.ga F.K x) "__init__") fd := FD
  refine ⟨⟨_, _, fd, [sf, gv], hm, hG, o1, He.eqO_ok m1, ?_, ini_ok (fun_of FD) S hb o1 o2 v1 v2 hd1 hd2 hd3 hd4, FD.bindsN b⟩⟩
  have q : (PySem.W.typeIn F.K (.ref (He.ma F.K (He.ga F.K x) "__init__")) == some (.type "function")) = true := m3
  exact eq_of_beq q
end
end DI

set_option Elab.async false
set_option linter.all false
set_option maxRecDepth 100000
set_option maxHeartbeats 4000000
/-! the law's own call in the small machine -/
namespace DI
open PySem PySem.Spec PyProof.Rows L2
section
variable {P : Program} {w : World} {mg : Str → Option Value} {base : Heap} {F : Fx} {x : Str} {n k : Nat} {fn : List AV → Hh → Out AV}
/-- a def without repr is one all the same -/
theorem dnG_of (d : Dn P w F mg base k x n fn) : DnG P w F mg base k x n fn := by
  obtain ⟨f, fd, ps, h1, h2, h3, h4⟩ := d.ex
  exact ⟨f, fd, ps, h1, h2, ⟨h3.len, fun A outer s H args us vs Q E hr hg e0 hb r hsp => h3.run A outer s H args us vs Q E hr e0 hb r hsp⟩, h4⟩
end
def h00 : Hh := ⟨0, .leaf⟩
def scr (ns : List Int) : AV := .sl (ns.map AV.int)
theorem rvs_ints {F : Fx} {m : List Addr} {H : Hp} : ∀ ns : List Int, RVs F m H (ns.map AV.int) (ns.map V.int)
  | [] => .nil
  | n :: ns => .cons (.int n) (rvs_ints ns)
/-- what is fixed, of the head's K: G's names, the defs with a table of their own for generators, for lambdas -/
def fxOf (K : PySem.W.Frag) (gl ac al : List Str) : Fx := ⟨K, gBase K gl, ac.map fun x => (He.cT K (x, none)).2, al.map fun x => ((He.cT K (x, none)).2, x ++ ".<locals>." ++ "<lambda>")⟩
def csOf (K : PySem.W.Frag) (ac al : List Str) : List (Addr × Addr) := (ac ++ al).map fun x => He.cT K (x, none)
def apartB (K : PySem.W.Frag) (ac al : List Str) : Bool := decide (((ac ++ al).map fun x => (He.cT K (x, none)).2).Nodup)
section
variable {K : PySem.W.Frag} {gl ac al : List Str} {a : Addr} {vs : List Value} {ns : List Int}
theorem rh_start (c : apartB K ac al = true) : RH (fxOf K gl ac al) [] h00 (H0of K (csOf K ac al) a vs ns) := by
  have nd : ((ac ++ al).map fun x => (He.cT K (x, none)).2).Nodup := of_decide_eq_true c
  have at_ : ∀ x ∈ ac ++ al, H0of K (csOf K ac al) a vs ns (He.cT K (x, none)).2 = some (.tbl #[]) := fun x hx => h0_tab (p := He.cT K (x, none)) (List.mem_map.mpr ⟨x, hx, rfl⟩)
  rw [List.map_append, List.nodup_append] at nd
  obtain ⟨n1, n2, n3⟩ := nd
  refine ⟨rfl, List.nodup_nil, Nat.zero_le _, fun i a e => by simp at e, fun Q hQ => ?_, fun p hp => ?_, fun p hp z => ?_, fun p hp q hq z => ?_⟩
  · obtain ⟨x, hx, rfl⟩ := List.mem_map.mp hQ
    exact ⟨#[], at_ x (List.mem_append.mpr (.inl hx)), trivial⟩
  · obtain ⟨x, hx, rfl⟩ := List.mem_map.mp hp
    exact ⟨#[], at_ x (List.mem_append.mpr (.inr hx)), trivial, fun pos cv e => by cases e⟩
  · obtain ⟨x, hx, rfl⟩ := List.mem_map.mp hp
    exact n3 _ z _ (List.mem_map.mpr ⟨x, hx, rfl⟩) rfl
  · obtain ⟨x, hx, rfl⟩ := List.mem_map.mp hp
    obtain ⟨y, hy, rfl⟩ := List.mem_map.mp hq
    have z : (He.cT K (x, none)).2 = (He.cT K (y, none)).2 := z
    obtain ⟨i, hi, ei⟩ := List.getElem_of_mem hx
    obtain ⟨j, hj, ej⟩ := List.getElem_of_mem hy
    have hij : i = j := (List.getElem_inj (h₀ := by simpa using hi) (h₁ := by simpa using hj) n2).mp (by simp only [List.getElem_map]; rw [ei, ej]; exact z)
    subst hij
    rw [← ei, ← ej]
/-- the promise of a law, asked of the small machine -/
theorem sp_start {fn : List AV → Hh → Out AV} (c : apartB K ac al = true) (hs : SlAt K (H0of K (csOf K ac al) a vs ns) a (ns.map V.int)) (h : ∃ h', fn [scr ns] h00 = .ok (.bl true) h') :
    spD (fxOf K gl ac al) 1 fn [.ref a] (H0of K (csOf K ac al) a vs ns) (fun v _ => v = .bl true) fun _ _ _ => False := by
  obtain ⟨h', e⟩ := h
  refine ⟨[], h00, [scr ns], rh_start c, .cons (.sl hs (rvs_ints ns)) .nil, rfl, ?_⟩
  rw [e]
  intro m' H' r M u ru
  cases ru
  rfl
end
/-- the law's call, from what the small machine says of the law -/
theorem law_callD {P : Program} {w : World} {K : PySem.W.Frag} {mg mb : Str → Option Value} {k : Nat} {fa a : Addr} {gl ac al : List Str} {s₁ : Shared} {vs : List Value} {ns : List Int} {x : Str} {fn : List AV → Hh → Out AV} (R : Ready K mg mb (csOf K ac al) s₁ a vs ns) (hr : Room k callerA) (hx : mg x = some (.ref fa)) (c : apartB K ac al = true)
    (D : ∀ base : Heap, K.In base → base.Ns mainGlobals mg → (∀ p ∈ csOf K ac al, GxR.TabB base mg p.1 p.2) → DnG P w (fxOf K gl ac al) mg base k x 1 fn) (h : ∃ h', fn [scr ns] h00 = .ok (.bl true) h') :
    codeAny (model P w) callerA (.call (.ref fa) ⟨[.ref a], []⟩) (fun r s' => r = .ok (.ret (.bool true)) ∧ OldK s₁.heap s'.heap ∧ s'.os = s₁.os ∧ AllBare s'.gens) s₁ := by
  have key := sp_start (gl := gl) c R.script h
  obtain ⟨f, fd, ps, h1, h2, h3, h4⟩ := (D _ R.base.kin (R.nsK R.gl) R.tb).ex
  have e : f = fa := by rw [h1] at hx; cases hx; rfl
  subst e
  have hl : ps.length = 1 := (h3.len _ _ _ _ key).symm
  match ps, hl with
  | [y], _ =>
    have b := h4 s₁ [.ref a] R.kin rfl
    exact law_callG (x := y) (fd := fd) R hr h3 b key
/-- what is told of the law at the head's heap h -/
def LawAtD (l : PySem.W.OpenLaw) (w : World) (k n : Nat) (x : Str) (mg : Str → Option Value) (h : Heap) : Prop :=
  ∃ (K : PySem.W.Frag) (gl ac al : List Str) (fn : List AV → Hh → Out AV), K.In h ∧ (∀ p ∈ csOf K ac al, h.get? p.2 = some { cls := .none, data := .fields #[] }) ∧ (∀ p ∈ csOf K ac al, K.lookup p.2 = none) ∧ (∀ p ∈ csOf K ac al, PySem.W.CodeHd h p.1 p.2) ∧ apartB K ac al = true ∧
    (∀ ns : List Int, ns.length ≤ n → (∀ z ∈ ns, Builtin.Int.intBits z ≤ 1048576) → ∃ h', fn [scr ns] h00 = .ok (.bl true) h') ∧
    ∀ base : Heap, K.In base → base.Ns mainGlobals mg → (∀ p ∈ csOf K ac al, GxR.TabB base mg p.1 p.2) → DnG l.prog w (fxOf K gl ac al) mg base k x 1 fn
theorem walk_ofD {l : PySem.W.OpenLaw} {n k : Nat} {q : Program} {loose : List Str} {XP : (Str → Option Value) → Heap → Prop} {YP : World → Heap → Prop} {d : DefRec} (hn : l.most = some n) (hn2 : n ≤ sizeLine) (hdf : d.params.defaults = []) (hr : Room k callerA)
    (F : ∀ (w : World) (mg : Str → Option Value) (fa : Addr) (h : Heap), YP w h → h.Ns mainGlobals mg → mg d.name = some (.ref fa) → LawAtD l w k n d.name mg h) :
    PySem.W.WalkO q loose XP YP l.row.toRowW d [] (fun f vs => PySem.call f vs) := by
  refine Att.attach_callB hn hdf fun w s₀ s₁ mg mb fa o pm cd doc a vs ns G Y ho hd hcd hmg hobj hints hlen hbits hg => ?_
  obtain ⟨K, gl, ac, al, fn, KX, h1, h2, h3, h4, h5, h6⟩ := F w mg fa _ Y G.T.g hmg
  have R : Ready K mg mb (csOf K ac al) s₁ a vs ns := ⟨KX, G.T.g, G.T.b, G.T.builtins, G.T.nolimit, hg, h1, h2, h3, G.T.bmain, hobj, hints, Nat.le_trans hlen hn2⟩
  exact law_callD (gl := gl) R hr hmg h4 h6 (h5 ns hlen hbits)
end DI

set_option Elab.async false
set_option linter.all false
set_option maxRecDepth 100000
set_option maxHeartbeats 4000000
/-! the head looked at along the module's names only: functions and their code, classes and their dicts, tuples, dicts -/
namespace DI
open PySem PySem.Spec PyProof.Rows L2
/-- where an object leads -/
def leadsTo (o : Obj) : List Addr := match o.data with
  | .func fd => He.refV fd.code
  | .cls cd => [cd.ns]
  | .seq its _ => its.toList.flatMap He.refV
  | .dict es _ => es.toList.flatMap fun e => He.refV e.val
  | _ => []
def stepG (g : Addr → Option Obj) (as : List Addr) : List Addr := as.flatMap fun a => match g a with
  | some o => leadsTo o
  | none => []
/-- n steps from the module's names; what is met twice stands twice -/
def wayG (g : Addr → Option Obj) : Nat → List Addr → List Addr
  | 0, as => as
  | n + 1, as => as ++ wayG g n (stepG g as)
def fragG (g : Addr → Option Obj) : PySem.W.Frag := He.frT g (sysModules :: wayG g 4 [mainGlobals])
def sysB (K : PySem.W.Frag) : Bool := match K.lookup sysModules with
  | some ⟨_, _, .dict _ _, _⟩ => true
  | _ => false
theorem sysB_ok {K : PySem.W.Frag} (h : sysB K = true) : SysD K := by
  unfold sysB at h
  split at h
  · rename_i e
    exact ⟨⟨_, _, _, e, rfl⟩⟩
  · cases h
section
variable {fa : List He.Fa} {fn : List He.DefD} {ts : List He.Tab} {tf : List He.Defn} {ex : PySem.W.Frag → Bool} {w : World} {h : Heap}
def lookZ (fa : List He.Fa) (fn : List He.DefD) (ts : List He.Tab) (tf : List He.Defn) (ex : PySem.W.Frag → Bool) (g : Addr → Option Obj) : He.AlX := (He.obsT fa fn ts (fragG g), ex (fragG g) && He.tabsB g tf (fragG g))
theorem says_look (e : lookZ fa fn ts tf ex h.get? = He.valX fn ts w) : He.SaysX fa fn ts tf ex w h (fragG h.get?) := by
  have e1 : He.obsT fa fn ts (fragG h.get?) = He.valT fn ts w := (Prod.mk.inj e).1
  have e2 : (ex (fragG h.get?) && He.tabsB h.get? tf (fragG h.get?)) = true := (Prod.mk.inj e).2
  obtain ⟨m1, m2⟩ := ba e2
  have each : ∀ p ∈ tf, PySem.W.codeHdIn (fragG h.get?) (He.cT (fragG h.get?) p).1 (He.cT (fragG h.get?) p).2 = true ∧ ∃ o, h.get? (He.cT (fragG h.get?) p).2 = some o ∧ He.emptyTab o = true := by
    intro p hp
    obtain ⟨n1, n2⟩ := ba (List.all_eq_true.mp m2 p hp)
    refine ⟨n1, ?_⟩
    generalize h.get? (He.cT (fragG h.get?) p).2 = r at n2
    match r, n2 with
    | some o, n2 => exact ⟨o, rfl, n2⟩
  exact { t := e1, more := m1, hd := fun p hp => (each p hp).1, out := fun p hp => (each p hp).2.elim fun o q => He.frT_none q.1 q.2, empty := fun p hp => (each p hp).2.elim fun o q => q.1.trans (congrArg some (He.emptyTab_eq q.2)) }
/-- the Hook -/
def hookZ (fa : List He.Fa) (fn : List He.DefD) (ts : List He.Tab) (tf : List He.Defn) (ex : PySem.W.Frag → Bool) : PySem.W.Hook where
  α := He.AlX
  obs := fun s => lookZ fa fn ts tf ex s.heap.get?
  val := fun w => He.valX fn ts w
  says := fun w h => ∃ K : PySem.W.Frag, K.In h ∧ He.SaysX fa fn ts tf ex w h K
  of := fun _ _ e => ⟨_, He.frT_in, says_look e⟩
  keeps := fun _ _ _ ⟨K, hK, c⟩ k => ⟨K, PySem.W.Frag.In.keeps hK k, { t := c.t, more := c.more, hd := c.hd, out := c.out, empty := fun p hp => k _ _ (c.empty p hp) }⟩
theorem lookZ_eq {g : Addr → Option Obj} {s : Shared} (q : ∀ a, g a = s.heap.get? a) : lookZ fa fn ts tf ex g = (hookZ fa fn ts tf ex).obs s := congrArg (lookZ fa fn ts tf ex) (funext q)
end
/-- a run looked at in parts -/
theorem join_run {α β γ δ ε : Type} {o : Option α} {f : α → β} {g : α → γ} {k : α → δ × ε} {a : β} {b : γ} {c : δ} {d : ε} (h1 : o.map (fun s => (f s, g s)) = some (a, b)) (h2 : o.map (fun s => (k s).1) = some c) (h3 : o.map (fun s => (k s).2) = some d) :
    o.map (fun s => (f s, g s, k s)) = some (a, b, (c, d)) := by
  cases o with
  | none => cases h1
  | some s =>
    have e1 : (f s, g s) = (a, b) := Option.some.inj h1
    have e2 : (k s).1 = c := Option.some.inj h2
    have e3 : (k s).2 = d := Option.some.inj h3
    have e4 : k s = (c, d) := Prod.ext e2 e3
    show some (f s, g s, k s) = _
    rw [e4, (Prod.mk.inj e1).1, (Prod.mk.inj e1).2]
end DI

set_option Elab.async false
set_option linter.all false
set_option maxRecDepth 100000
set_option maxHeartbeats 4000000
/-! draws of a law, in the small machine -/
namespace DI
open PySem PySem.Spec PyProof.Rows L2
def T4 (o0 o1 o2 o3 : AO) : Tr := .node (some o0) (.node (some o1) (.node (some o3) .leaf .leaf) .leaf) (.node (some o2) .leaf .leaf)
def intsA (cs : List Int) : List AV := cs.map AV.int
theorem mapO_ints {h : Hh} {k : Nat} (cs : List Int) : mapO (toD (k + 1) h) (intsA cs) = some (cs.map PyData.int) := by
  induction cs with
  | nil => rfl
  | cons c cs ih =>
    unfold intsA at ih ⊢
    rw [List.map_cons]
    unfold mapO
    rw [ih]
    rfl
def leftI (c : Int) : Int := if 1000000000000000000 ≤ c then c else 0
theorem begin_fe {ρ : Sl} {h : Hh} {c : Int} (e : ρ[2]? = some (some (.int c))) :
    xIf (xTB (x2 gGe (xVar 2) (x2 gPow (xC (.int 10)) (xC (.int 18))))) (xVar 2) (xC (.int 0)) ρ h = .ok (.int (leftI c)) h := by
  have ev : xVar 2 ρ h = .ok (.int c) h := by unfold xVar; rw [e]
  have ep : gPow (.int 10) (.int 18) h = .ok (.int 1000000000000000000) h := by
    unfold gPow gIIc
    show (if decide _ = true then _ else _) = _
    rw [if_pos (by decide)]
    rfl
  simp only [xIf, xTB, x2, xC, bindO, ev, ep, gGe, gII, asBl, optO]
  unfold leftI
  by_cases q : (1000000000000000000 : Int) ≤ c
  · rw [if_pos q, if_pos (decide_eq_true q)]
  · rw [if_neg q, if_neg (by simpa using q)]
theorem begin_lc {scr : AV} {o0 o2 : AO} (cs : List Int) : ∀ (n k : Nat) (acc : List AV), cs.length < n + k → acc.length + cs.length ≤ most + k → k ≤ cs.length →
    lcL (.lst 1) (yName 2) xYes (xIf (xTB (x2 gGe (xVar 2) (x2 gPow (xC (.int 10)) (xC (.int 18))))) (xVar 2) (xC (.int 0))) [2] 3 [some scr, some (.ref 1), none] n k ⟨4, T4 o0 (.lst (intsA cs)) o2 (.lst acc)⟩
      = .ok (.ref 3) ⟨4, T4 o0 (.lst (intsA cs)) o2 (.lst (acc ++ intsA ((cs.drop k).map leftI)))⟩
  | 0, k, acc, h, _, hk => by omega
  | n + 1, k, acc, h, hm, hk => by
    unfold lcL
    have es : stepA (.lst 1) k ⟨4, T4 o0 (.lst (intsA cs)) o2 (.lst acc)⟩ = some (intsA cs)[k]? := rfl
    rw [es]
    by_cases hl : k < cs.length
    · have e1 : (intsA cs)[k]? = some (.int cs[k]) := by
        unfold intsA
        rw [List.getElem?_map, List.getElem?_eq_getElem hl]; rfl
      rw [e1]
      have ih := begin_lc (scr := scr) (o0 := o0) (o2 := o2) cs n (k + 1) (acc ++ [.int (leftI cs[k])]) (by omega) (by rw [List.length_append]; simp only [List.length_cons, List.length_nil]; omega) hl
      have ed : cs.drop k = cs[k] :: cs.drop (k + 1) := List.drop_eq_getElem_cons hl
      have ef := begin_fe (ρ := [some scr, some (.ref 1), some (.int cs[k])]) (h := ⟨4, T4 o0 (.lst (intsA cs)) o2 (.lst acc)⟩) (c := cs[k]) rfl
      show bindO (noX (Out.ok true _)) (fun b h1 => if b = true then bindO (noX (xIf (xTB (x2 gGe (xVar 2) (x2 gPow (xC (.int 10)) (xC (.int 18))))) (xVar 2) (xC (.int 0)) [some scr, some (.ref 1), some (.int cs[k])] h1)) _ else _) = _
      show bindO (noX (xIf (xTB (x2 gGe (xVar 2) (x2 gPow (xC (.int 10)) (xC (.int 18))))) (xVar 2) (xC (.int 0)) [some scr, some (.ref 1), some (.int cs[k])] ⟨4, T4 o0 (.lst (intsA cs)) o2 (.lst acc)⟩)) _ = _
      rw [ef]
      show (if acc.length < most then lcL _ _ _ _ _ _ _ n (k + 1) ⟨4, T4 o0 (.lst (intsA cs)) o2 (.lst (acc ++ [.int (leftI cs[k])]))⟩ else Out.bad) = _
      rw [if_pos (by omega), ih, ed, List.map_cons]
      unfold intsA
      rw [List.map_cons, List.append_assoc]
      rfl
    · have e1 : (intsA cs)[k]? = none := by
        unfold intsA
        rw [List.getElem?_eq_none (by rw [List.length_map]; omega)]
      rw [e1]
      have : cs.drop k = [] := List.drop_eq_nil_of_le (by omega)
      rw [this]
      show Out.ok (AV.ref 3) _ = _
      rw [show intsA (([] : List Int).map leftI) = [] from rfl, List.append_nil]
/-! ### the law's draws: their bodies -/
def mixF : List AV → Hh → Out AV := defO 2 (sSeq (sAsg (x2 gMod (xA (g1 gInt) (xCons (xVar 0) (xNil))) (xC (.int 2147483647))) (yName 0)) (sRet (x2 gMod (x2 gMulU (x2 gMod (x2 gAdd (x2 gAdd (x2 gMulU (xVar 0) (x2 gAdd (xC (.int 48271)) (x2 gMulU (x2 gMulU (xC (.int 2)) (xVar 1)) (xVar 1)))) (x2 gMulU (xC (.int 69621)) (xVar 1))) (xC (.int 11))) (xC (.int 2147483647))) (xC (.int 69621))) (xC (.int 2147483629)))))
def beginF : List AV → Hh → Out AV := defO 3 (sSeq (sAsg (xIf (xTB (x2 (gEqD true) (xVar 0) (xA mkL (xNil)))) (xA gListU2 (xCons (xVar 0) (xNil))) (xA mkL (xCons (xC (.int 0)) (xNil)))) (yName 1)) (sRet (xDisp [(xC (.str "cells"), xVar 1), (xC (.str "lefts"), xLc (xIter (xVar 1)) (yName 2) (xYes) (xIf (xTB (x2 gGe (xVar 2) (x2 gPow (xC (.int 10)) (xC (.int 18))))) (xVar 2) (xC (.int 0))) [2]), (xC (.str "at"), xC (.int 0)), (xC (.str "room"), xC (.int 0))])))
def drawF : List AV → Hh → Out AV := defO 6 (sSeq (sAsg (x2 gItem (xVar 0) (xC (.str "at"))) (yName 2)) (sSeq (sPutU (xVar 0) (xC (.str "at")) (x2 gAdd (xVar 2) (xC (.int 1)))) (sSeq (sAsg (x2 gMod (xA (g1 gInt) (xCons (xVar 2) (xNil))) (xA (g1 gLen) (xCons (x2 gItem (xVar 0) (xC (.str "cells"))) (xNil)))) (yName 3)) (sSeq (sAsg (x2 gItem (x2 gItem (xVar 0) (xC (.str "lefts"))) (xVar 3)) (yName 4)) (sSeq (sIf (xTB (x2 gGt (xVar 4) (xC (.int 0)))) (sSeq (sPutU (x2 gItem (xVar 0) (xC (.str "lefts"))) (xVar 3) (x2 gFDiv (xVar 4) (xVar 1))) (sRet (x2 gMod (xA (g1 gInt) (xCons (xVar 4) (xNil))) (xVar 1)))) (sPass)) (sSeq (sAsg (xA (onN 2 mixF) (xCons (xA (onN 2 mixF) (xCons (x2 gItem (x2 gItem (xVar 0) (xC (.str "cells"))) (xVar 3)) (xCons (xVar 2) (xNil)))) (xCons (x2 gAdd (xC (.int 40)) (xVar 2)) (xNil)))) (yName 5)) (sRet (x2 gMod (x2 gFDiv (xA (g1 gInt) (xCons (x2 gAdd (x2 gMulU (xVar 5) (xC (.int 2147483647))) (xA (onN 2 mixF) (xCons (xVar 5) (xCons (x2 gAdd (xC (.int 7)) (xVar 2)) (xNil))))) (xNil))) (xC (.int 64))) (xVar 1)))))))))
def cellsI (ns : List Int) : List Int := if ns.isEmpty = true then [0] else ns
def dk0 (a : Int) : AO := .dk [(.inr "cells", .ref 1), (.inr "lefts", .ref 3), (.inr "at", .int a), (.inr "room", .int 0)]
def st4 (cs ls : List Int) (a : Int) : Hh := ⟨4, T4 (.lst []) (.lst (intsA cs)) (dk0 a) (.lst (intsA ls))⟩

theorem lay_ints : ∀ cs : List Int, PyData.canLayAll0 (cs.map PyData.int) = true ∧ PyData.depthAll (cs.map PyData.int) = 0
  | [] => ⟨rfl, rfl⟩
  | c :: cs => by
    obtain ⟨h1, h2⟩ := lay_ints cs
    refine ⟨?_, ?_⟩
    · rw [List.map_cons]; unfold PyData.canLayAll0; rw [h1]; rfl
    · rw [List.map_cons]; unfold PyData.depthAll; rw [h2]; rfl
theorem shaped_ints (cs : List Int) : SeqAt.shaped (.list (cs.map PyData.int)) = true := by
  obtain ⟨h1, h2⟩ := lay_ints cs
  unfold SeqAt.shaped PyData.canLay0 PyData.depth
  rw [h1, h2]
  rfl
theorem dat_scr (ns : List Int) (h : Hh) : dat (scr ns) h = some (.list (ns.map PyData.int)) := by
  have e : toD 20 h (scr ns) = some (.list (ns.map PyData.int)) := by
    unfold scr toD
    show (match mapO (toD 19 h) (intsA ns) with
      | some ds => some (PyData.list ds)
      | none => none) = _
    rw [mapO_ints ns]
  unfold dat
  rw [e]
  show (if SeqAt.shaped (.list (ns.map PyData.int)) = true then _ else _) = _
  rw [if_pos (shaped_ints ns)]
theorem eqv_nil (ns : List Int) : PyData.eqv (.list (ns.map PyData.int)) (.list []) = ns.isEmpty := by
  cases ns with
  | nil => rfl
  | cons c cs => rfl
theorem begin_ok (ns : List Int) (hl : ns.length ≤ 63) : beginF [scr ns] h00 = .ok (.ref 2) (st4 (cellsI ns) ((cellsI ns).map leftI) 0) := by
  have e1 : xIf (xTB (x2 (gEqD true) (xVar 0) (xA mkL (xNil)))) (xA gListU2 (xCons (xVar 0) (xNil))) (xA mkL (xCons (xC (.int 0)) (xNil))) [some (scr ns), none, none] h00 = .ok (.ref 1) ⟨2, .node (some (.lst [])) (.node (some (.lst (intsA (cellsI ns)))) .leaf .leaf) .leaf⟩ := by
    have ed : gEqD true (scr ns) (.ref 0) ⟨1, .node (some (.lst [])) .leaf .leaf⟩ = .ok (.bl (!ns.isEmpty)) ⟨1, .node (some (.lst [])) .leaf .leaf⟩ := by
      unfold gEqD
      rw [dat_scr]
      show Out.ok (AV.bl (if true = true then !(PyData.eqv (.list (ns.map PyData.int)) (.list [])) else _)) _ = _
      rw [if_pos rfl, eqv_nil]
    have el : gListU2 [scr ns] ⟨1, .node (some (.lst [])) .leaf .leaf⟩ = .ok (.ref 1) ⟨2, .node (some (.lst [])) (.node (some (.lst (intsA ns))) .leaf .leaf) .leaf⟩ := rfl
    show bindO (bindO (gEqD true (scr ns) (.ref 0) ⟨1, .node (some (.lst [])) .leaf .leaf⟩) _) _ = _
    rw [ed]
    unfold cellsI
    cases ns with
    | nil => rfl
    | cons c cs => exact el
  have hc : (cellsI ns).length ≤ 63 := by
    unfold cellsI
    split
    · exact Nat.le_of_lt (by decide)
    · exact hl
  have e3 := begin_lc (scr := scr ns) (o0 := .lst []) (o2 := .dk []) (cellsI ns) 100000 0 [] (by omega) (by unfold most; simp only [List.length_nil]; omega) (Nat.zero_le _)
  unfold beginF defO
  show endO (bindS (bindE (xIf (xTB (x2 (gEqD true) (xVar 0) (xA mkL (xNil)))) (xA gListU2 (xCons (xVar 0) (xNil))) (xA mkL (xCons (xC (.int 0)) (xNil))) [some (scr ns), none, none] h00) _ _) _) = _
  rw [e1]
  have e2 : xLc (xIter (xVar 1)) (yName 2) xYes (xIf (xTB (x2 gGe (xVar 2) (x2 gPow (xC (.int 10)) (xC (.int 18))))) (xVar 2) (xC (.int 0))) [2] [some (scr ns), some (.ref 1), none] (Hh.new ⟨2, .node (some (.lst [])) (.node (some (.lst (intsA (cellsI ns)))) .leaf .leaf) .leaf⟩ (.dk [])) = .ok (.ref 3) ⟨4, T4 (.lst []) (.lst (intsA (cellsI ns))) (.dk []) (.lst (intsA ((cellsI ns).map leftI)))⟩ := by
    have q1 : Hh.new ⟨2, .node (some (.lst [])) (.node (some (.lst (intsA (cellsI ns)))) .leaf .leaf) .leaf⟩ (.dk []) = ⟨3, .node (some (.lst [])) (.node (some (.lst (intsA (cellsI ns)))) .leaf .leaf) (.node (some (.dk [])) .leaf .leaf)⟩ := by kernel_rfl
    have q2 : xIter (xVar 1) [some (scr ns), some (.ref 1), none] ⟨3, .node (some (.lst [])) (.node (some (.lst (intsA (cellsI ns)))) .leaf .leaf) (.node (some (.dk [])) .leaf .leaf)⟩ = .ok (.lst 1) ⟨3, .node (some (.lst [])) (.node (some (.lst (intsA (cellsI ns)))) .leaf .leaf) (.node (some (.dk [])) .leaf .leaf)⟩ := by kernel_rfl
    have q3 : Hh.new ⟨3, .node (some (.lst [])) (.node (some (.lst (intsA (cellsI ns)))) .leaf .leaf) (.node (some (.dk [])) .leaf .leaf)⟩ (.lst []) = ⟨4, T4 (.lst []) (.lst (intsA (cellsI ns))) (.dk []) (.lst [])⟩ := by kernel_rfl
    unfold xLc
    rw [q1, q2]
    simp only [bindO]
    rw [q3, if_pos (by unfold big; decide)]
    rw [e3] <;> rfl
  show endO (bindE (xDisp _ [some (scr ns), some (.ref 1), none] ⟨2, .node (some (.lst [])) (.node (some (.lst (intsA (cellsI ns)))) .leaf .leaf) .leaf⟩) _ _) = _
  unfold xDisp
  simp only [pairsX, bindO, xC, e2, show ∀ h : Hh, xVar 1 [some (scr ns), some (.ref 1), none] h = .ok (.ref 1) h from fun _ => rfl]
  rfl
end DI

set_option Elab.async false
set_option linter.all false
set_option maxRecDepth 100000
set_option maxHeartbeats 4000000
/-! one draw -/
namespace DI
open PySem PySem.Spec PyProof.Rows L2
theorem mul_ok {i j : Int} {h : Hh} (c : (-(2 ^ 64) < i ∧ i < 2 ^ 64) ∨ (-(2 ^ 64) < j ∧ j < 2 ^ 64)) : gMulU (.int i) (.int j) h = .ok (.int (i * j)) h := by
  have e : gMul (.int i) (.int j) h = .ok (.int (i * j)) h := by
    unfold gMul gIIc
    show (if decide _ = true then _ else _) = _
    rw [if_pos (decide_eq_true c)]
  unfold gMulU gOr
  rw [e]
theorem add_ok {i j : Int} {h : Hh} : gAdd (.int i) (.int j) h = .ok (.int (i + j)) h := rfl
theorem mod_ok {i j : Int} {h : Hh} (c : 0 < j) : gMod (.int i) (.int j) h = .ok (.int (i % j)) h := by
  unfold gMod gIIc
  show (if decide _ = true then _ else _) = _
  rw [if_pos (decide_eq_true c)]
theorem fdiv_ok {i j : Int} {h : Hh} (c : 0 < j ∧ j < 1073741824) : gFDiv (.int i) (.int j) h = .ok (.int (i / j)) h := by
  unfold gFDiv gIIc
  show (if decide _ = true then _ else _) = _
  rw [if_pos (decide_eq_true c)]
def mixI (c k : Int) : Int := ((c % 2147483647) * (48271 + 2 * k * k) + 69621 * k + 11) % 2147483647 * 69621 % 2147483629
theorem mix_ok {c k : Int} {h : Hh} (h0 : 0 ≤ k) (h1 : k < 1000000000000) : mixF [.int c, .int k] h = .ok (.int (mixI c k)) h := by
  have b1 : ∀ x : Int, 0 ≤ x % 2147483647 ∧ x % 2147483647 < 2147483647 := fun x => ⟨Int.emod_nonneg _ (by decide), Int.emod_lt_of_pos _ (by decide)⟩
  have m1 : gMulU (.int 2) (.int k) h = .ok (.int (2 * k)) h := mul_ok (.inl (by decide))
  have m2 : gMulU (.int (2 * k)) (.int k) h = .ok (.int (2 * k * k)) h := mul_ok (.inr (by constructor <;> omega))
  have m3 : gMulU (.int (c % 2147483647)) (.int (48271 + 2 * k * k)) h = .ok (.int (c % 2147483647 * (48271 + 2 * k * k))) h := mul_ok (.inl (by have := b1 c; constructor <;> omega))
  have m4 : gMulU (.int 69621) (.int k) h = .ok (.int (69621 * k)) h := mul_ok (.inl (by decide))
  have m5 : ∀ x : Int, gMulU (.int (x % 2147483647)) (.int 69621) h = .ok (.int (x % 2147483647 * 69621)) h := fun x => mul_ok (.inr (by decide))
  have m6 : ∀ x : Int, gMod (.int x) (.int 2147483647) h = .ok (.int (x % 2147483647)) h := fun x => mod_ok (by decide)
  have m7 : ∀ x : Int, gMod (.int x) (.int 2147483629) h = .ok (.int (x % 2147483629)) h := fun x => mod_ok (by decide)
  unfold mixF defO
  show endO (bindS (bindE (gMod (.int c) (.int 2147483647) h) _ _) _) = _
  rw [m6]
  show endO (sRet _ [some (.int (c % 2147483647)), some (.int k)] h) = _
  have v0 : ∀ h : Hh, xVar 0 [some (.int (c % 2147483647)), some (.int k)] h = .ok (.int (c % 2147483647)) h := fun _ => rfl
  have v1 : ∀ h : Hh, xVar 1 [some (.int (c % 2147483647)), some (.int k)] h = .ok (.int k) h := fun _ => rfl
  simp only [sRet, x2, bindO, bindE, xC, v0, v1, m1, m2, m3, m4, m5, m6, m7, add_ok]
  rfl
def drawN (cs : List Int) (a m : Int) : Int := (mixI (mixI (cs[(a % cs.length).toNat]?.getD 0) a) (40 + a) * 2147483647 + mixI (mixI (mixI (cs[(a % cs.length).toNat]?.getD 0) a) (40 + a)) (7 + a)) / 64 % m
theorem len_ints (cs : List Int) : (intsA cs).length = cs.length := List.length_map ..
theorem at_ints {cs : List Int} {i : Nat} (hi : i < cs.length) : atI (intsA cs) (i : Int) = some (.int cs[i]) := by
  unfold atI ixN
  rw [len_ints, if_pos (Int.natCast_nonneg i), if_pos (by omega)]
  show (intsA cs)[((i : Int)).toNat]? = _
  rw [Int.toNat_natCast]
  unfold intsA
  rw [List.getElem?_map, List.getElem?_eq_getElem hi]; rfl
section
variable {a b : AV} {x y z u v w : Option AV} {h : Hh}
theorem s6 : startA 6 [a, b] = [some a, some b, none, none, none, none] := rfl
theorem v60 : xVar 0 [some a, y, z, u, v, w] h = .ok a h := rfl
theorem v61 : xVar 1 [x, some a, z, u, v, w] h = .ok a h := rfl
theorem v62 : xVar 2 [x, y, some a, u, v, w] h = .ok a h := rfl
theorem v63 : xVar 3 [x, y, z, some a, v, w] h = .ok a h := rfl
theorem v64 : xVar 4 [x, y, z, u, some a, w] h = .ok a h := rfl
theorem v65 : xVar 5 [x, y, z, u, v, some a] h = .ok a h := rfl
theorem y62 : yName 2 [x, y, z, u, v, w] a = some [x, y, some a, u, v, w] := rfl
theorem y63 : yName 3 [x, y, z, u, v, w] a = some [x, y, z, some a, v, w] := rfl
theorem y64 : yName 4 [x, y, z, u, v, w] a = some [x, y, z, u, some a, w] := rfl
theorem y65 : yName 5 [x, y, z, u, v, w] a = some [x, y, z, u, v, some a] := rfl
theorem gt_ok {i j : Int} : gGt (.int i) (.int j) h = .ok (.bl (decide (j < i))) h := rfl
theorem gi_ok {i : Int} : g1 gInt [.int i] h = .ok (.int i) h := rfl
theorem on2 {f : List AV → Hh → Out AV} : onN 2 f [a, b] h = f [a, b] h := rfl
end
theorem draw_ok {cs ls : List Int} {a m : Int} (hl : ls.length = cs.length) (hc : 0 < cs.length) (a0 : 0 ≤ a) (a1 : a < 100000000000) (m0 : 0 < m) (m1 : m < 1073741824) :
    ∃ (r : Int) (ls' : List Int), drawF [.ref 2, .int m] (st4 cs ls a) = .ok (.int r) (st4 cs ls' (a + 1)) ∧ 0 ≤ r ∧ r < m ∧ ls'.length = cs.length := by
  have i0 : 0 ≤ a % (cs.length : Int) := Int.emod_nonneg _ (by omega)
  have i1 : a % (cs.length : Int) < cs.length := Int.emod_lt_of_pos _ (by omega)
  obtain ⟨i, hi⟩ : ∃ i : Nat, a % (cs.length : Int) = i := ⟨(a % (cs.length : Int)).toNat, (Int.toNat_of_nonneg i0).symm⟩
  have hic : i < cs.length := by omega
  have hil : i < ls.length := by omega
  have g1' : gItem (.ref 2) (.str "at") (st4 cs ls a) = .ok (.int a) (st4 cs ls a) := by kernel_rfl
  have p1 : storeA (.ref 2) (.str "at") (.int (a + 1)) (st4 cs ls a) = some (st4 cs ls (a + 1)) := by kernel_rfl
  have g2' : gItem (.ref 2) (.str "cells") (st4 cs ls (a + 1)) = .ok (.ref 1) (st4 cs ls (a + 1)) := by kernel_rfl
  have g3' : gItem (.ref 2) (.str "lefts") (st4 cs ls (a + 1)) = .ok (.ref 3) (st4 cs ls (a + 1)) := by kernel_rfl
  have l1 : g1 gLen [.ref 1] (st4 cs ls (a + 1)) = .ok (.int cs.length) (st4 cs ls (a + 1)) := by
    show Out.ok (AV.int (intsA cs).length) _ = _
    rw [len_ints]
  have x1 : gItem (.ref 1) (.int i) (st4 cs ls (a + 1)) = .ok (.int cs[i]) (st4 cs ls (a + 1)) := by
    have e : gIxL (.ref 1) (.int i) (st4 cs ls (a + 1)) = .ok (.int cs[i]) (st4 cs ls (a + 1)) := by
      show optO (atI (intsA cs) (i : Int)) _ = _
      rw [at_ints hic] <;> rfl
    unfold gItem gOr
    rw [show gIx (.ref 1) (.int i) (st4 cs ls (a + 1)) = .bad from rfl, e]
  have x3 : gItem (.ref 3) (.int i) (st4 cs ls (a + 1)) = .ok (.int ls[i]) (st4 cs ls (a + 1)) := by
    have e : gIxL (.ref 3) (.int i) (st4 cs ls (a + 1)) = .ok (.int ls[i]) (st4 cs ls (a + 1)) := by
      show optO (atI (intsA ls) (i : Int)) _ = _
      rw [at_ints hil] <;> rfl
    unfold gItem gOr
    rw [show gIx (.ref 3) (.int i) (st4 cs ls (a + 1)) = .bad from rfl, e]
  have md : gMod (.int a) (.int cs.length) (st4 cs ls (a + 1)) = .ok (.int i) (st4 cs ls (a + 1)) := by
    rw [mod_ok (by omega), hi]
  have w1 : ∀ v : Int, storeA (.ref 3) (.int i) (.int v) (st4 cs ls (a + 1)) = none := fun v => rfl
  have w2 : ∀ v : Int, storeL (.ref 3) (.int i) (.int v) (st4 cs ls (a + 1)) = some (st4 cs (ls.set i v) (a + 1)) := fun v => by
    have e : ixN (intsA ls).length (i : Int) = some i := by
      unfold ixN
      rw [len_ints, if_pos (Int.natCast_nonneg i), if_pos (by omega), Int.toNat_natCast]
    show (match ixN (intsA ls).length (i : Int) with
      | some j => some (Hh.put (st4 cs ls (a + 1)) 3 (.lst ((intsA ls).set j (.int v))))
      | none => none) = _
    rw [e]
    show some (Hh.mk 4 (T4 (.lst []) (.lst (intsA cs)) (dk0 (a + 1)) (.lst ((intsA ls).set i (.int v))))) = _
    unfold intsA
    rw [← List.map_set] <;> rfl
  have fd := fdiv_ok (i := ls[i]) (j := m) (h := st4 cs ls (a + 1)) ⟨m0, m1⟩
  have ml := fun h => mod_ok (i := ls[i]) (j := m) (h := h) m0
  have r0 : ∀ x : Int, 0 ≤ x % m ∧ x % m < m := fun x => ⟨Int.emod_nonneg _ (by omega), Int.emod_lt_of_pos _ m0⟩
  have k0 : ∀ x : Int, mixF [.int x, .int a] (st4 cs ls (a + 1)) = .ok (.int (mixI x a)) (st4 cs ls (a + 1)) := fun x => mix_ok a0 (by omega)
  have k1 : ∀ x : Int, mixF [.int x, .int (40 + a)] (st4 cs ls (a + 1)) = .ok (.int (mixI x (40 + a))) (st4 cs ls (a + 1)) := fun x => mix_ok (by omega) (by omega)
  have k2 : ∀ x : Int, mixF [.int x, .int (7 + a)] (st4 cs ls (a + 1)) = .ok (.int (mixI x (7 + a))) (st4 cs ls (a + 1)) := fun x => mix_ok (by omega) (by omega)
  have mu : ∀ x : Int, gMulU (.int x) (.int 2147483647) (st4 cs ls (a + 1)) = .ok (.int (x * 2147483647)) (st4 cs ls (a + 1)) := fun x => mul_ok (.inr (by decide))
  have f64 : ∀ x : Int, gFDiv (.int x) (.int 64) (st4 cs ls (a + 1)) = .ok (.int (x / 64)) (st4 cs ls (a + 1)) := fun x => fdiv_ok (by decide)
  have mm : ∀ (h : Hh) (x : Int), gMod (.int x) (.int m) h = .ok (.int (x % m)) h := fun h x => mod_ok m0
  have key : drawF [.ref 2, .int m] (st4 cs ls a) = if 0 < ls[i] then .ok (.int (ls[i] % m)) (st4 cs (ls.set i (ls[i] / m)) (a + 1)) else .ok (.int ((mixI (mixI cs[i] a) (40 + a) * 2147483647 + mixI (mixI (mixI cs[i] a) (40 + a)) (7 + a)) / 64 % m)) (st4 cs ls (a + 1)) := by
    unfold drawF defO
    by_cases c : 0 < ls[i]
    · rw [if_pos c]
      simp only [s6, sSeq, sAsg, bindS, bindE, bindO, x2, xA, xCons, xNil, xC, v60, v61, v62, v63, v64, v65, y62, y63, y64, y65, sPutU, sIf, xTB, sRet, g1', g2', g3', p1, l1, x1, x3, md, w1, w2, fd, mm, add_ok, gt_ok, gi_ok, on2, k0, k1, k2, mu, f64, asBl, optO, decide_eq_true c, if_true, endO]
    · rw [if_neg c]
      simp only [s6, sSeq, sAsg, bindS, bindE, bindO, x2, xA, xCons, xNil, xC, v60, v61, v62, v63, v64, v65, y62, y63, y64, y65, sPutU, sIf, sPass, xTB, sRet, g1', g2', g3', p1, l1, x1, x3, md, w1, w2, fd, mm, add_ok, gt_ok, gi_ok, on2, k0, k1, k2, mu, f64, asBl, optO, decide_eq_false c, if_false, Bool.false_eq_true, endO]
  by_cases c : 0 < ls[i]
  · rw [if_pos c] at key
    exact ⟨_, _, key, (r0 _).1, (r0 _).2, by rw [List.length_set]; exact hl⟩
  · rw [if_neg c] at key
    exact ⟨_, _, key, (r0 _).1, (r0 _).2, hl⟩
end DI

set_option Elab.async false
set_option linter.all false
set_option maxRecDepth 100000
set_option maxHeartbeats 4000000
namespace DT
open PySem PySem.Spec PyProof.Rows L2 GxR RZ DI
def exl : List ((Str × Str) × Bool) := [(("BadHistory", "BadHistory"), true), (("BadHistory", "BadMoment"), false), (("BadHistory", "BadNumber"), false), (("BadHistory", "BadPaper"), false), (("BadHistory", "BadValue"), false), (("BadHistory", "CallError"), true), (("BadMoment", "BadHistory"), false), (("BadMoment", "BadMoment"), true), (("BadMoment", "BadNumber"), false), (("BadMoment", "BadPaper"), false), (("BadMoment", "BadValue"), false), (("BadMoment", "CallError"), true), (("BadNumber", "BadHistory"), false), (("BadNumber", "BadMoment"), false), (("BadNumber", "BadNumber"), true), (("BadNumber", "BadPaper"), false), (("BadNumber", "BadValue"), false), (("BadNumber", "CallError"), true), (("BadPaper", "BadHistory"), false), (("BadPaper", "BadMoment"), false), (("BadPaper", "BadNumber"), false), (("BadPaper", "BadPaper"), true), (("BadPaper", "BadValue"), false), (("BadPaper", "CallError"), true), (("BadValue", "BadHistory"), false), (("BadValue", "BadMoment"), false), (("BadValue", "BadNumber"), false), (("BadValue", "BadPaper"), false), (("BadValue", "BadValue"), true), (("BadValue", "CallError"), true)]
def isq (c y : Str) : Option Bool := exl.lookup (c, y)
def subq (c : Str) : Option Bool := exl.lookup (c, ("CallError" : Str))
def fll : List ((Str × Str) × Bool) := [(("BadHistory", "given"), true), (("BadMoment", "given"), true), (("BadNumber", "given"), true), (("BadPaper", "part"), true), (("BadValue", "given"), true)]
def flq (c n : Str) : Bool := (fll.lookup (c, n)).isSome
def top (i : Nat) : Stmt := PySem.Challenge.pw_shortbars_k28_part_f_refused.main.body.getD i (.Pass ⟨0, 0, 0, 0⟩)
structure Txt (F : Fx) (mg : Str → Option Value) : Prop where
  sysd : SysD F.K
  gl : ∀ y a, F.G y = some a → mg y = some (.ref a)
  is_ : Xis F isq
  fl_ : Xfl F flq
  sub_ : Xsub F mg "CallError" subq
  c_BadHistory : ∃ C, mg "BadHistory" = some (.ref C) ∧ F.G "BadHistory" = some C
  c_BadMoment : ∃ C, mg "BadMoment" = some (.ref C) ∧ F.G "BadMoment" = some C
  c_BadNumber : ∃ C, mg "BadNumber" = some (.ref C) ∧ F.G "BadNumber" = some C
  c_BadPaper : ∃ C, mg "BadPaper" = some (.ref C) ∧ F.G "BadPaper" = some C
  c_BadValue : ∃ C, mg "BadValue" = some (.ref C) ∧ F.G "BadValue" = some C
  c_CallError : ∃ C, mg "CallError" = some (.ref C) ∧ F.G "CallError" = some C
  b_isinstance : mg "isinstance" = none
  b_int : mg "int" = none
  b_str : mg "str" = none
  b_tuple : mg "tuple" = none
  b_bool : mg "bool" = none
  b_list : mg "list" = none
  b_len : mg "len" = none
  b_sorted : mg "sorted" = none
  b_range : mg "range" = none
  b_enumerate : mg "enumerate" = none
  b_zip : mg "zip" = none
  b_all : mg "all" = none
  b_any : mg "any" = none
  b_set : mg "set" = none
  b_repr : mg "repr" = none
  b_min : mg "min" = none
  b_max : mg "max" = none
  b_dict : mg "dict" = none
  g_BEGIN : ∃ t, mg "BEGIN" = some (.int 0 t)
  g_END : ∃ t, mg "END" = some (.int 1 t)
  g_GIVEN : ∃ t, mg "GIVEN" = some (.int 4 t)
  g_LARGEST_ROOM : ∃ t, mg "LARGEST_ROOM" = some (.int 9 t)
  g_MOST : ∃ t, mg "MOST" = some (.int 1000000 t)
  g_MOST_CALLS : ∃ t, mg "MOST_CALLS" = some (.int 10 t)
  g_MOST_THINGS : ∃ t, mg "MOST_THINGS" = some (.int 4 t)
  g_PARTS_OF_CALL : ∃ t, mg "PARTS_OF_CALL" = some (.int 6 t)
  g_THING : ∃ t, mg "THING" = some (.int 2 t)
  g_TOLD : ∃ t, mg "TOLD" = some (.int 5 t)
  g_WORD : ∃ t, mg "WORD" = some (.int 3 t)
  g_FORMS_rooms : KtOk F mg "FORMS_rooms" [(.kt [(.str "order"), (.int (2))]), (.kt [(.str "strange"), (.int (2))]), (.kt [(.str "early"), (.int (2))]), (.kt [(.str "crowd"), (.int (2))]), (.kt [(.str "covered"), (.int (2))])]
  g_ONCE : KtOk F mg "ONCE" [(.str "write"), (.str "put"), (.str "enter"), (.str "leave"), (.str "join"), (.str "drop")]
variable {P : Program} {w : World} {F : Fx} {mg : Str → Option Value} {base : Heap}
def t_WORDS : List (Str × AV) := [("cell", (.kt [(.str "write"), (.str "read")])), ("queue", (.kt [(.str "put"), (.str "take")])), ("stack", (.kt [(.str "put"), (.str "take")])), ("heads", (.kt [(.str "put"), (.str "take")])), ("room", (.kt [(.str "enter"), (.str "leave")])), ("counter", (.kt [(.str "add"), (.str "count")])), ("tickets", (.kt [(.str "draw")])), ("set", (.kt [(.str "join"), (.str "drop"), (.str "has")]))]
def t_FORMS_kinds : List (Str × AV) := [("write", (.kt [(.str "value"), (.str "none")])), ("read", (.kt [(.str "none"), (.str "perhaps")])), ("put", (.kt [(.str "value"), (.str "none")])), ("take", (.kt [(.str "none"), (.str "perhaps")])), ("enter", (.kt [(.str "value"), (.str "none")])), ("leave", (.kt [(.str "value"), (.str "none")])), ("add", (.kt [(.str "none"), (.str "none")])), ("count", (.kt [(.str "none"), (.str "value")])), ("draw", (.kt [(.str "none"), (.str "value")])), ("join", (.kt [(.str "value"), (.str "none")])), ("drop", (.kt [(.str "value"), (.str "none")])), ("has", (.kt [(.str "value"), (.str "bit")]))]
def t_ACTIONS : List (Str × AV) := [("write", (.gl "_write")), ("read", (.gl "_read")), ("put", (.gl "_put")), ("take", (.gl "_take")), ("enter", (.gl "_enter")), ("leave", (.gl "_leave")), ("add", (.gl "_add")), ("count", (.gl "_count")), ("draw", (.gl "_draw")), ("join", (.gl "_join")), ("drop", (.gl "_leave")), ("has", (.gl "_has"))]
def b_is_whole : EvS := sRet (xAndT (xIsj "int" (xVar 0)) (xNotT (xIsj "bool" (xVar 0))))
def f_is_whole : List AV → Hh → Out AV := defO 1 b_is_whole
theorem s_is_whole : FnScope ["thing"] ["thing"] (defScope (top 14)) := ⟨rfl, rfl, rfl, by decide +kernel, rfl, by decide +kernel, by decide +kernel⟩
theorem d_is_whole (T : Txt F mg) (h : At F mg "is_whole" (top 14) ["thing"])     : Dn P w F mg base 1 "is_whole" 1 f_is_whole :=
  dn_at h s_is_whole fun E f cdv A outer s H hr tk ow => by
    have nd : (["thing"] : List Str).Nodup := s_is_whole.nd
    exact (css_one (cs_ret (ce_and rfl (ce_isj rfl rfl T.b_isinstance (by decide +kernel) (ce_var 0 rfl (by first | exact .inl rfl | exact .inr (.inl rfl) | exact .inr (.inr rfl))) rfl T.b_int (by decide +kernel)) (ce_one (ce_not rfl (ce_isj rfl rfl T.b_isinstance (by decide +kernel) (ce_var 0 rfl (by first | exact .inl rfl | exact .inr (.inl rfl) | exact .inr (.inr rfl))) rfl T.b_bool (by decide +kernel)))))))

def b_is_value : EvS := sRet (xAndT (xA (onN 1 f_is_whole) (xCons (xVar 0) (xNil))) (xCh gLe gLe (xC (.int 0)) (xVar 0) (xC (.int 1000000))))
def f_is_value : List AV → Hh → Out AV := defO 1 b_is_value
theorem s_is_value : FnScope ["thing"] ["thing"] (defScope (top 15)) := ⟨rfl, rfl, rfl, by decide +kernel, rfl, by decide +kernel, by decide +kernel⟩
theorem d_is_value (T : Txt F mg) (h : At F mg "is_value" (top 15) ["thing"]) (d_is_whole : Dn P w F mg base 1 "is_whole" 1 f_is_whole)    : Dn P w F mg base 2 "is_value" 1 f_is_value :=
  dn_at h s_is_value fun E f cdv A outer s H hr tk ow => by
    have nd : (["thing"] : List Str).Nodup := s_is_value.nd
    exact (css_one (cs_ret (ce_and rfl (ce_call d_is_whole rfl (by omega) hr tk rfl (ca_cons (ce_var 0 rfl (by first | exact .inl rfl | exact .inr (.inl rfl) | exact .inr (.inr rfl))) ca_nil)) (ce_one (ce_cmp2 op_le op_le p_le p_le ce_int (ce_var 0 rfl (by first | exact .inl rfl | exact .inr (.inl rfl) | exact .inr (.inr rfl))) (ce_globI rfl T.g_MOST))))))

def b_is_number_below : EvS := sRet (xAndT (xA (onN 1 f_is_whole) (xCons (xVar 0) (xNil))) (xCh gLe gLt (xC (.int 0)) (xVar 0) (xVar 1)))
def f_is_number_below : List AV → Hh → Out AV := defO 2 b_is_number_below
theorem s_is_number_below : FnScope ["thing", "many"] ["thing", "many"] (defScope (top 16)) := ⟨rfl, rfl, rfl, by decide +kernel, rfl, by decide +kernel, by decide +kernel⟩
theorem d_is_number_below (T : Txt F mg) (h : At F mg "is_number_below" (top 16) ["thing", "many"]) (d_is_whole : Dn P w F mg base 1 "is_whole" 1 f_is_whole)    : Dn P w F mg base 2 "is_number_below" 2 f_is_number_below :=
  dn_at h s_is_number_below fun E f cdv A outer s H hr tk ow => by
    have nd : (["thing", "many"] : List Str).Nodup := s_is_number_below.nd
    exact (css_one (cs_ret (ce_and rfl (ce_call d_is_whole rfl (by omega) hr tk rfl (ca_cons (ce_var 0 rfl (by first | exact .inl rfl | exact .inr (.inl rfl) | exact .inr (.inr rfl))) ca_nil)) (ce_one (ce_cmp2 op_le op_lt p_le p_lt ce_int (ce_var 0 rfl (by first | exact .inl rfl | exact .inr (.inl rfl) | exact .inr (.inr rfl))) (ce_var 1 rfl (by first | exact .inl rfl | exact .inr (.inl rfl) | exact .inr (.inr rfl))))))))

def b_is_ascending : EvS := sRet (xGx true (xZip (xCons (xVar 0) (xCons (xSl gCut (xVar 0) (xPart (xC (.int 1))) (xNoPart)) (xNil)))) (yTup 2 (yCons (yName 1) (yCons (yName 2) (yNil)))) (xYes) (x2 gLt (xVar 1) (xVar 2)) [1, 2])
def f_is_ascending : List AV → Hh → Out AV := defO 3 b_is_ascending
theorem s_is_ascending : FnScope ["numbers", "low", "high"] ["numbers"] (defScope (top 17)) := ⟨rfl, rfl, rfl, by decide +kernel, rfl, by decide +kernel, by decide +kernel⟩
theorem d_is_ascending (T : Txt F mg) (h : AtC F mg base "is_ascending" (top 17) ["numbers"])     : Dn P w F mg base 2 "is_ascending" 1 f_is_ascending :=
  dn_atC h s_is_ascending fun E f tc tp A outer s H hr tk ow TB hP => by
    have nd : (["numbers", "low", "high"] : List Str).Nodup := s_is_ascending.nd
    exact (css_one (cs_ret (ce_all (own := [("low", 1), ("high", 2)]) (P := tp) hP hr rfl T.b_all ⟨TB, rfl, blkOk_by (N := ["numbers", "low", "high"]) (sc := (defScope (top 17))) (by decide +kernel), by decide +kernel, by decide +kernel, rfl, nd, rfl, fun _ => rfl⟩ (ci_zip rfl rfl T.b_zip (ca_cons (ce_var 0 rfl (by first | exact .inl rfl | exact .inr (.inl rfl) | exact .inr (.inr rfl))) (ca_cons (ce_sl rfl (ce_var 0 rfl (by first | exact .inl rfl | exact .inr (.inl rfl) | exact .inr (.inr rfl))) (co_some ce_int) co_none) ca_nil))) ⟨_, fun _ _ _ _ _ _ _ => (pg_tup rfl (pgs_cons (pg_name (i := 1) nd rfl (by first | exact .inl rfl | exact .inr rfl)) (pgs_cons (pg_name (i := 2) nd rfl (by first | exact .inl rfl | exact .inr rfl)) pgs_nil))), (q_tup (q_cons (q_name 1) (q_cons (q_name 2) q_nil)))⟩ (by decide) (fun _ _ _ _ _ _ hB => cts_nil) (fun _ _ _ _ _ _ hB => (ce_cmp op_lt p_lt (nomark _) (ce_var 1 rfl (by first | exact .inl rfl | exact .inr (.inl rfl) | exact .inr (.inr rfl))) (ce_var 2 rfl (by first | exact .inl rfl | exact .inr (.inl rfl) | exact .inr (.inr rfl))))))))

def b_is_room : EvS := sSeq (sIf (xOr (xNot (xTru (xIsj "tuple" (xVar 0)))) (xTB (x2 (gEqD true) (xA gLenU (xCons (xVar 0) (xNil))) (xC (.int 2))))) (sRet (xC (.bl false))) (sPass)) (sSeq (sIf (xOr (xNot (xTru (xIsj "str" (x2 gItem (xVar 0) (xC (.int 0)))))) (xTB (x2 (gEqD true) (x2 gItem (xVar 0) (xC (.int 0))) (xC (.str "room"))))) (sRet (xC (.bl false))) (sPass)) (sRet (xAndT (xA (onN 1 f_is_whole) (xCons (x2 gItem (xVar 0) (xC (.int 1))) (xNil))) (xCh gLe gLe (xC (.int 1)) (x2 gItem (xVar 0) (xC (.int 1))) (xC (.int 9))))))
def f_is_room : List AV → Hh → Out AV := defO 1 b_is_room
theorem s_is_room : FnScope ["thing"] ["thing"] (defScope (top 18)) := ⟨rfl, rfl, rfl, by decide +kernel, rfl, by decide +kernel, by decide +kernel⟩
theorem d_is_room (T : Txt F mg) (h : At F mg "is_room" (top 18) ["thing"]) (d_is_whole : Dn P w F mg base 1 "is_whole" 1 f_is_whole)    : Dn P w F mg base 2 "is_room" 1 f_is_room :=
  dn_at h s_is_room fun E f cdv A outer s H hr tk ow => by
    have nd : (["thing"] : List Str).Nodup := s_is_room.nd
    exact (css_cons (cs_if (ct_w (cw_or (ct_not (ct_truth rfl (ce_isj rfl rfl T.b_isinstance (by decide +kernel) (ce_var 0 rfl (by first | exact .inl rfl | exact .inr (.inl rfl) | exact .inr (.inr rfl))) rfl T.b_tuple (by decide +kernel)))) (cw_or1 (ct_cmp (opr_ne hr) p_ne (nomark _) (ce_lenU rfl rfl T.b_len (ca_cons (ce_var 0 rfl (by first | exact .inl rfl | exact .inr (.inl rfl) | exact .inr (.inr rfl))) ca_nil)) ce_int)))) (css_one (cs_ret ce_bl)) css_nil) (css_cons (cs_if (ct_w (cw_or (ct_not (ct_truth rfl (ce_isj rfl rfl T.b_isinstance (by decide +kernel) (ce_ix rfl hr (ce_var 0 rfl (by first | exact .inl rfl | exact .inr (.inl rfl) | exact .inr (.inr rfl))) ce_int) rfl T.b_str (by decide +kernel)))) (cw_or1 (ct_cmp (opr_ne hr) p_ne (nomark _) (ce_ix rfl hr (ce_var 0 rfl (by first | exact .inl rfl | exact .inr (.inl rfl) | exact .inr (.inr rfl))) ce_int) ce_str)))) (css_one (cs_ret ce_bl)) css_nil) (css_one (cs_ret (ce_and rfl (ce_call d_is_whole rfl (by omega) hr tk rfl (ca_cons (ce_ix rfl hr (ce_var 0 rfl (by first | exact .inl rfl | exact .inr (.inl rfl) | exact .inr (.inr rfl))) ce_int) ca_nil)) (ce_one (ce_cmp2 op_le op_le p_le p_le ce_int (ce_ix rfl hr (ce_var 0 rfl (by first | exact .inl rfl | exact .inr (.inl rfl) | exact .inr (.inr rfl))) ce_int) (ce_globI rfl T.g_LARGEST_ROOM))))))))

def b_is_sort : EvS := sSeq (sIf (xTru (xIsj "str" (xVar 0))) (sRet (xAndT (xInG false t_WORDS (xVar 0)) (x2 (gEqD true) (xVar 0) (xC (.str "room"))))) (sPass)) (sRet (xA (onN 1 f_is_room) (xCons (xVar 0) (xNil))))
def f_is_sort : List AV → Hh → Out AV := defO 1 b_is_sort
theorem s_is_sort : FnScope ["thing"] ["thing"] (defScope (top 19)) := ⟨rfl, rfl, rfl, by decide +kernel, rfl, by decide +kernel, by decide +kernel⟩
theorem d_is_sort (T : Txt F mg) (h : At F mg "is_sort" (top 19) ["thing"]) (d_is_room : Dn P w F mg base 2 "is_room" 1 f_is_room) (k_WORDS : KdOk F w mg "WORDS" t_WORDS)   : Dn P w F mg base 3 "is_sort" 1 f_is_sort :=
  dn_at h s_is_sort fun E f cdv A outer s H hr tk ow => by
    have nd : (["thing"] : List Str).Nodup := s_is_sort.nd
    exact (css_cons (cs_if (ct_truth rfl (ce_isj rfl rfl T.b_isinstance (by decide +kernel) (ce_var 0 rfl (by first | exact .inl rfl | exact .inr (.inl rfl) | exact .inr (.inr rfl))) rfl T.b_str (by decide +kernel))) (css_one (cs_ret (ce_and rfl (ce_inG opr_inG k_WORDS rfl rfl (ce_var 0 rfl (by first | exact .inl rfl | exact .inr (.inl rfl) | exact .inr (.inr rfl)))) (ce_one (ce_cmp (opr_ne hr) p_ne (nomark _) (ce_var 0 rfl (by first | exact .inl rfl | exact .inr (.inl rfl) | exact .inr (.inr rfl))) ce_str))))) css_nil) (css_one (cs_ret (ce_call d_is_room rfl (by omega) hr tk rfl (ca_cons (ce_var 0 rfl (by first | exact .inl rfl | exact .inr (.inl rfl) | exact .inr (.inr rfl))) ca_nil)))))

def b_are_sorts : EvS := sSeq (sIf (xOr (xNot (xTru (xIsj "tuple" (xVar 0)))) (xNot (xTB (xCh gLe gLe (xC (.int 1)) (xA gLenU (xCons (xVar 0) (xNil))) (xC (.int 4)))))) (sRet (xC (.bl false))) (sPass)) (sRet (xGx true (xIter (xVar 0)) (yName 1) (xYes) (xA (onN 1 f_is_sort) (xCons (xVar 1) (xNil))) [1]))
def f_are_sorts : List AV → Hh → Out AV := defO 2 b_are_sorts
theorem s_are_sorts : FnScope ["thing", "sort"] ["thing"] (defScope (top 20)) := ⟨rfl, rfl, rfl, by decide +kernel, rfl, by decide +kernel, by decide +kernel⟩
theorem d_are_sorts (T : Txt F mg) (h : AtC F mg base "are_sorts" (top 20) ["thing"]) (d_is_sort : Dn P w F mg base 3 "is_sort" 1 f_is_sort)    : Dn P w F mg base 5 "are_sorts" 1 f_are_sorts :=
  dn_atC h s_are_sorts fun E f tc tp A outer s H hr tk ow TB hP => by
    have nd : (["thing", "sort"] : List Str).Nodup := s_are_sorts.nd
    exact (css_cons (cs_if (ct_w (cw_or (ct_not (ct_truth rfl (ce_isj rfl rfl T.b_isinstance (by decide +kernel) (ce_var 0 rfl (by first | exact .inl rfl | exact .inr (.inl rfl) | exact .inr (.inr rfl))) rfl T.b_tuple (by decide +kernel)))) (cw_or1 (ct_not (ct_cmp2 op_le op_le p_le p_le ce_int (ce_lenU rfl rfl T.b_len (ca_cons (ce_var 0 rfl (by first | exact .inl rfl | exact .inr (.inl rfl) | exact .inr (.inr rfl))) ca_nil)) (ce_globI rfl T.g_MOST_THINGS)))))) (css_one (cs_ret ce_bl)) css_nil) (css_one (cs_ret (ce_all (own := [("sort", 1)]) (P := tp) hP hr rfl T.b_all ⟨TB, rfl, blkOk_by (N := ["thing", "sort"]) (sc := (defScope (top 20))) (by decide +kernel), by decide +kernel, by decide +kernel, rfl, nd, rfl, fun _ => rfl⟩ (ci_seq rfl (ce_var 0 rfl (by first | exact .inl rfl | exact .inr (.inl rfl) | exact .inr (.inr rfl)))) ⟨_, fun _ _ _ _ _ _ _ => (pg_name (i := 1) nd rfl (by first | exact .inl rfl | exact .inr rfl)), (q_name 1)⟩ (by decide) (fun _ _ _ _ _ _ hB => cts_nil) (fun _ _ _ _ _ _ hB => (ce_call d_is_sort rfl (by omega) hB takes0 rfl (ca_cons (ce_var 1 rfl (by first | exact .inl rfl | exact .inr (.inl rfl) | exact .inr (.inr rfl))) ca_nil)))))))

def b_name_of : EvS := sSeq (sIf (xTru (xIsj "tuple" (xVar 0))) (sRet (xC (.str "room"))) (sPass)) (sRet (xVar 0))
def f_name_of : List AV → Hh → Out AV := defO 1 b_name_of
theorem s_name_of : FnScope ["sort"] ["sort"] (defScope (top 21)) := ⟨rfl, rfl, rfl, by decide +kernel, rfl, by decide +kernel, by decide +kernel⟩
theorem d_name_of (T : Txt F mg) (h : At F mg "name_of" (top 21) ["sort"])     : Dn P w F mg base 1 "name_of" 1 f_name_of :=
  dn_at h s_name_of fun E f cdv A outer s H hr tk ow => by
    have nd : (["sort"] : List Str).Nodup := s_name_of.nd
    exact (css_cons (cs_if (ct_truth rfl (ce_isj rfl rfl T.b_isinstance (by decide +kernel) (ce_var 0 rfl (by first | exact .inl rfl | exact .inr (.inl rfl) | exact .inr (.inr rfl))) rfl T.b_tuple (by decide +kernel))) (css_one (cs_ret ce_str)) css_nil) (css_one (cs_ret (ce_var 0 rfl (by first | exact .inl rfl | exact .inr (.inl rfl) | exact .inr (.inr rfl))))))

def b_is_word_of : EvS := sRet (xAndT (xIsj "str" (xVar 0)) (x2 (gInU false) (xVar 0) (xIxG t_WORDS (xA (onN 1 f_name_of) (xCons (xVar 1) (xNil))))))
def f_is_word_of : List AV → Hh → Out AV := defO 2 b_is_word_of
theorem s_is_word_of : FnScope ["thing", "sort"] ["thing", "sort"] (defScope (top 22)) := ⟨rfl, rfl, rfl, by decide +kernel, rfl, by decide +kernel, by decide +kernel⟩
theorem d_is_word_of (T : Txt F mg) (h : At F mg "is_word_of" (top 22) ["thing", "sort"]) (d_name_of : Dn P w F mg base 1 "name_of" 1 f_name_of) (k_WORDS : KdOk F w mg "WORDS" t_WORDS)   : Dn P w F mg base 2 "is_word_of" 2 f_is_word_of :=
  dn_at h s_is_word_of fun E f cdv A outer s H hr tk ow => by
    have nd : (["thing", "sort"] : List Str).Nodup := s_is_word_of.nd
    exact (css_one (cs_ret (ce_and rfl (ce_isj rfl rfl T.b_isinstance (by decide +kernel) (ce_var 0 rfl (by first | exact .inl rfl | exact .inr (.inl rfl) | exact .inr (.inr rfl))) rfl T.b_str (by decide +kernel)) (ce_one (ce_cmp (opr_inU hr) (p_inU rfl false) (by with_unfolding_all rfl) (ce_var 0 rfl (by first | exact .inl rfl | exact .inr (.inl rfl) | exact .inr (.inr rfl))) (ce_ixG k_WORDS rfl rfl (ce_call d_name_of rfl (by omega) hr tk rfl (ca_cons (ce_var 1 rfl (by first | exact .inl rfl | exact .inr (.inl rfl) | exact .inr (.inr rfl))) ca_nil))))))))

def b__has_form : EvS := sSeq (sIf (xTB (x2 (gEqD false) (xVar 1) (xC (.str "none")))) (sRet (x2 (gIs false) (xVar 0) (xC .non))) (sPass)) (sSeq (sIf (xTB (x2 (gEqD false) (xVar 1) (xC (.str "perhaps")))) (sRet (xOrT (x2 (gIs false) (xVar 0) (xC .non)) (xA (onN 1 f_is_value) (xCons (xVar 0) (xNil))))) (sPass)) (sSeq (sIf (xTB (x2 (gEqD false) (xVar 1) (xC (.str "bit")))) (sRet (xA (onN 2 f_is_number_below) (xCons (xVar 0) (xCons (xC (.int 2)) (xNil))))) (sPass)) (sRet (xA (onN 1 f_is_value) (xCons (xVar 0) (xNil))))))
def f__has_form : List AV → Hh → Out AV := defO 2 b__has_form
theorem s__has_form : FnScope ["thing", "form"] ["thing", "form"] (defScope (top 25)) := ⟨rfl, rfl, rfl, by decide +kernel, rfl, by decide +kernel, by decide +kernel⟩
theorem d__has_form (T : Txt F mg) (h : At F mg "_has_form" (top 25) ["thing", "form"]) (d_is_value : Dn P w F mg base 2 "is_value" 1 f_is_value) (d_is_number_below : Dn P w F mg base 2 "is_number_below" 2 f_is_number_below)    : Dn P w F mg base 3 "_has_form" 2 f__has_form :=
  dn_at h s__has_form fun E f cdv A outer s H hr tk ow => by
    have nd : (["thing", "form"] : List Str).Nodup := s__has_form.nd
    exact (css_cons (cs_if (ct_cmp (opr_eq hr) p_eq (nomark _) (ce_var 1 rfl (by first | exact .inl rfl | exact .inr (.inl rfl) | exact .inr (.inr rfl))) ce_str) (css_one (cs_ret (ce_cmp op_isN p_is (nomark _) (ce_var 0 rfl (by first | exact .inl rfl | exact .inr (.inl rfl) | exact .inr (.inr rfl))) ce_non))) css_nil) (css_cons (cs_if (ct_cmp (opr_eq hr) p_eq (nomark _) (ce_var 1 rfl (by first | exact .inl rfl | exact .inr (.inl rfl) | exact .inr (.inr rfl))) ce_str) (css_one (cs_ret (ce_or rfl (ce_cmp op_isN p_is (nomark _) (ce_var 0 rfl (by first | exact .inl rfl | exact .inr (.inl rfl) | exact .inr (.inr rfl))) ce_non) (ce_one (ce_call d_is_value rfl (by omega) hr tk rfl (ca_cons (ce_var 0 rfl (by first | exact .inl rfl | exact .inr (.inl rfl) | exact .inr (.inr rfl))) ca_nil)))))) css_nil) (css_cons (cs_if (ct_cmp (opr_eq hr) p_eq (nomark _) (ce_var 1 rfl (by first | exact .inl rfl | exact .inr (.inl rfl) | exact .inr (.inr rfl))) ce_str) (css_one (cs_ret (ce_call d_is_number_below rfl (by omega) hr tk rfl (ca_cons (ce_var 0 rfl (by first | exact .inl rfl | exact .inr (.inl rfl) | exact .inr (.inr rfl))) (ca_cons ce_int ca_nil))))) css_nil) (css_one (cs_ret (ce_call d_is_value rfl (by omega) hr tk rfl (ca_cons (ce_var 0 rfl (by first | exact .inl rfl | exact .inr (.inl rfl) | exact .inr (.inr rfl))) ca_nil)))))))

def b_is_given_once : EvS := sRet (x2 (gInU false) (xVar 0) (xC (.kt [(.str "write"), (.str "put"), (.str "enter"), (.str "leave"), (.str "join"), (.str "drop")])))
def f_is_given_once : List AV → Hh → Out AV := defO 1 b_is_given_once
theorem s_is_given_once : FnScope ["word"] ["word"] (defScope (top 26)) := ⟨rfl, rfl, rfl, by decide +kernel, rfl, by decide +kernel, by decide +kernel⟩
theorem d_is_given_once (T : Txt F mg) (h : At F mg "is_given_once" (top 26) ["word"])     : Dn P w F mg base 1 "is_given_once" 1 f_is_given_once :=
  dn_at h s_is_given_once fun E f cdv A outer s H hr tk ow => by
    have nd : (["word"] : List Str).Nodup := s_is_given_once.nd
    exact (css_one (cs_ret (ce_cmp (opr_inU hr) (p_inU rfl false) (by with_unfolding_all rfl) (ce_var 0 rfl (by first | exact .inl rfl | exact .inr (.inl rfl) | exact .inr (.inr rfl))) (ce_globT rfl T.g_ONCE))))

def b__is_pair_of_tuples : EvS := sSeq (sIf (xOr (xNot (xTru (xIsj "tuple" (xVar 0)))) (xTB (x2 (gEqD true) (xA gLenU (xCons (xVar 0) (xNil))) (xC (.int 2))))) (sRet (xC (.bl false))) (sPass)) (sRet (xAndT (xIsj "tuple" (x2 gItem (xVar 0) (xC (.int 0)))) (xIsj "tuple" (x2 gItem (xVar 0) (xC (.int 1))))))
def f__is_pair_of_tuples : List AV → Hh → Out AV := defO 1 b__is_pair_of_tuples
theorem s__is_pair_of_tuples : FnScope ["thing"] ["thing"] (defScope (top 37)) := ⟨rfl, rfl, rfl, by decide +kernel, rfl, by decide +kernel, by decide +kernel⟩
theorem d__is_pair_of_tuples (T : Txt F mg) (h : At F mg "_is_pair_of_tuples" (top 37) ["thing"])     : Dn P w F mg base 1 "_is_pair_of_tuples" 1 f__is_pair_of_tuples :=
  dn_at h s__is_pair_of_tuples fun E f cdv A outer s H hr tk ow => by
    have nd : (["thing"] : List Str).Nodup := s__is_pair_of_tuples.nd
    exact (css_cons (cs_if (ct_w (cw_or (ct_not (ct_truth rfl (ce_isj rfl rfl T.b_isinstance (by decide +kernel) (ce_var 0 rfl (by first | exact .inl rfl | exact .inr (.inl rfl) | exact .inr (.inr rfl))) rfl T.b_tuple (by decide +kernel)))) (cw_or1 (ct_cmp (opr_ne hr) p_ne (nomark _) (ce_lenU rfl rfl T.b_len (ca_cons (ce_var 0 rfl (by first | exact .inl rfl | exact .inr (.inl rfl) | exact .inr (.inr rfl))) ca_nil)) ce_int)))) (css_one (cs_ret ce_bl)) css_nil) (css_one (cs_ret (ce_and rfl (ce_isj rfl rfl T.b_isinstance (by decide +kernel) (ce_ix rfl hr (ce_var 0 rfl (by first | exact .inl rfl | exact .inr (.inl rfl) | exact .inr (.inr rfl))) ce_int) rfl T.b_tuple (by decide +kernel)) (ce_one (ce_isj rfl rfl T.b_isinstance (by decide +kernel) (ce_ix rfl hr (ce_var 0 rfl (by first | exact .inl rfl | exact .inr (.inl rfl) | exact .inr (.inr rfl))) ce_int) rfl T.b_tuple (by decide +kernel)))))))

def b_moments_of : EvS := sRet (xA gSortU2 (xCons (x2 gAdd (xLc (xIter (xVar 0)) (yName 1) (xYes) (x2 gItem (xVar 1) (xC (.int 0))) [1]) (xLc (xIter (xVar 0)) (yName 1) (xYes) (x2 gItem (xVar 1) (xC (.int 1))) [1])) (xNil)))
def f_moments_of : List AV → Hh → Out AV := defO 2 b_moments_of
theorem s_moments_of : FnScope ["calls", "call"] ["calls"] (defScope (top 42)) := ⟨rfl, rfl, rfl, by decide +kernel, rfl, by decide +kernel, by decide +kernel⟩
theorem d_moments_of (T : Txt F mg) (h : At F mg "moments_of" (top 42) ["calls"])     : Dn P w F mg base 1 "moments_of" 1 f_moments_of :=
  dn_at h s_moments_of fun E f cdv A outer s H hr tk ow => by
    have nd : (["calls", "call"] : List Str).Nodup := s_moments_of.nd
    exact (css_one (cs_ret (ce_sorted2 rfl rfl rfl T.b_sorted (ca_cons (ce_bin opr_add (p_add rfl) (ce_lc (own := [("call", 1)]) rfl nd (ci_seq rfl (ce_var 0 rfl (by first | exact .inl rfl | exact .inr (.inl rfl) | exact .inr (.inr rfl)))) (blkOk_by (N := ["calls", "call"]) (sc := (defScope (top 42))) (by decide +kernel)) ⟨_, fun _ _ _ _ _ => (pg_name (i := 1) nd rfl (by first | exact .inl rfl | exact .inr rfl)), (q_name 1)⟩ (by decide) (fun _ _ _ _ _ => cts_nil) (fun _ _ _ _ _ => (ce_ix rfl hr (ce_var 1 rfl (by first | exact .inl rfl | exact .inr (.inl rfl) | exact .inr (.inr rfl))) (ce_globI rfl T.g_BEGIN)))) (ce_lc (own := [("call", 1)]) rfl nd (ci_seq rfl (ce_var 0 rfl (by first | exact .inl rfl | exact .inr (.inl rfl) | exact .inr (.inr rfl)))) (blkOk_by (N := ["calls", "call"]) (sc := (defScope (top 42))) (by decide +kernel)) ⟨_, fun _ _ _ _ _ => (pg_name (i := 1) nd rfl (by first | exact .inl rfl | exact .inr rfl)), (q_name 1)⟩ (by decide) (fun _ _ _ _ _ => cts_nil) (fun _ _ _ _ _ => (ce_ix rfl hr (ce_var 1 rfl (by first | exact .inl rfl | exact .inr (.inl rfl) | exact .inr (.inr rfl))) (ce_globI rfl T.g_END))))) ca_nil))))

def b_give_twice : EvS := sSeq (sAsg (xLc (xIter (xVar 0)) (yTup 4 (yCons (yName 2) (yCons (yName 3) (yCons (yName 4) (yCons (yName 5) (yNil)))))) (xTru (xA (onN 1 f_is_given_once) (xCons (xVar 3) (xNil)))) (xA mkT (xCons (xVar 2) (xCons (xVar 3) (xCons (xVar 4) (xNil))))) [2, 3, 4, 5]) (yName 1)) (sRet (xDup 1))
def f_give_twice : List AV → Hh → Out AV := defO 6 b_give_twice
theorem s_give_twice : FnScope ["steps", "once", "thing", "word", "given", "_"] ["steps"] (defScope (top 43)) := ⟨rfl, rfl, rfl, by decide +kernel, rfl, by decide +kernel, by decide +kernel⟩
theorem d_give_twice (T : Txt F mg) (h : At F mg "give_twice" (top 43) ["steps"]) (d_is_given_once : Dn P w F mg base 1 "is_given_once" 1 f_is_given_once)    : Dn P w F mg base 2 "give_twice" 1 f_give_twice :=
  dn_at h s_give_twice fun E f cdv A outer s H hr tk ow => by
    have nd : (["steps", "once", "thing", "word", "given", "_"] : List Str).Nodup := s_give_twice.nd
    exact (css_cons (by first | exact (cs_setLc (i := 1) (own := [("thing", 2), ("word", 3), ("given", 4), ("_", 5)]) rfl nd rfl rfl (sw_true rfl rfl rfl (by decide +kernel)) (ci_seq rfl (ce_var 0 rfl (by first | exact .inl rfl | exact .inr (.inl rfl) | exact .inr (.inr rfl)))) (blkOk_by (N := ["steps", "once", "thing", "word", "given", "_"]) (sc := (defScope (top 43))) (by decide +kernel)) ⟨_, fun _ _ _ _ _ => (pg_tup rfl (pgs_cons (pg_name (i := 2) nd rfl (by first | exact .inl rfl | exact .inr rfl)) (pgs_cons (pg_name (i := 3) nd rfl (by first | exact .inl rfl | exact .inr rfl)) (pgs_cons (pg_name (i := 4) nd rfl (by first | exact .inl rfl | exact .inr rfl)) (pgs_cons (pg_name (i := 5) nd rfl (by first | exact .inl rfl | exact .inr rfl)) pgs_nil))))), (q_tup (q_cons (q_name 2) (q_cons (q_name 3) (q_cons (q_name 4) (q_cons (q_name 5) q_nil)))))⟩ (by decide) (fun _ _ _ _ _ => (cts_one (ct_truth rfl (ce_call d_is_given_once rfl (by omega) hr takes0 rfl (ca_cons (ce_var 3 rfl (by first | exact .inl rfl | exact .inr (.inl rfl) | exact .inr (.inr rfl))) ca_nil))))) (fun _ _ _ _ _ => (ce_tup (ca_cons (ce_var 2 rfl (by first | exact .inl rfl | exact .inr (.inl rfl) | exact .inr (.inr rfl))) (ca_cons (ce_var 3 rfl (by first | exact .inl rfl | exact .inr (.inl rfl) | exact .inr (.inr rfl))) (ca_cons (ce_var 4 rfl (by first | exact .inl rfl | exact .inr (.inl rfl) | exact .inr (.inr rfl))) ca_nil)))))) | exact (cs_set (i := 1) nd rfl (by first | exact .inl rfl | exact .inr rfl) (ce_lc (own := [("thing", 2), ("word", 3), ("given", 4), ("_", 5)]) rfl nd (ci_seq rfl (ce_var 0 rfl (by first | exact .inl rfl | exact .inr (.inl rfl) | exact .inr (.inr rfl)))) (blkOk_by (N := ["steps", "once", "thing", "word", "given", "_"]) (sc := (defScope (top 43))) (by decide +kernel)) ⟨_, fun _ _ _ _ _ => (pg_tup rfl (pgs_cons (pg_name (i := 2) nd rfl (by first | exact .inl rfl | exact .inr rfl)) (pgs_cons (pg_name (i := 3) nd rfl (by first | exact .inl rfl | exact .inr rfl)) (pgs_cons (pg_name (i := 4) nd rfl (by first | exact .inl rfl | exact .inr rfl)) (pgs_cons (pg_name (i := 5) nd rfl (by first | exact .inl rfl | exact .inr rfl)) pgs_nil))))), (q_tup (q_cons (q_name 2) (q_cons (q_name 3) (q_cons (q_name 4) (q_cons (q_name 5) q_nil)))))⟩ (by decide) (fun _ _ _ _ _ => (cts_one (ct_truth rfl (ce_call d_is_given_once rfl (by omega) hr takes0 rfl (ca_cons (ce_var 3 rfl (by first | exact .inl rfl | exact .inr (.inl rfl) | exact .inr (.inr rfl))) ca_nil))))) (fun _ _ _ _ _ => (ce_tup (ca_cons (ce_var 2 rfl (by first | exact .inl rfl | exact .inr (.inl rfl) | exact .inr (.inr rfl))) (ca_cons (ce_var 3 rfl (by first | exact .inl rfl | exact .inr (.inl rfl) | exact .inr (.inr rfl))) (ca_cons (ce_var 4 rfl (by first | exact .inl rfl | exact .inr (.inl rfl) | exact .inr (.inr rfl))) ca_nil)))))))) (css_one (cs_ret (ce_dup 1 rfl rfl hr rfl (by first | exact .inl rfl | exact .inr (.inl rfl) | exact .inr (.inr rfl)) rfl T.b_len rfl T.b_set))))

def b_plain_sort : EvS := sSeq (sIf (xTru (xIsj "tuple" (xVar 0))) (sRet (xA mkT (xCons (xC (.str "room")) (xCons (xA (g1 gInt) (xCons (x2 gItem (xVar 0) (xC (.int 1))) (xNil))) (xNil))))) (sPass)) (sRet (xSl gCut (xVar 0) (xNoPart) (xNoPart)))
def f_plain_sort : List AV → Hh → Out AV := defO 1 b_plain_sort
theorem s_plain_sort : FnScope ["sort"] ["sort"] (defScope (top 45)) := ⟨rfl, rfl, rfl, by decide +kernel, rfl, by decide +kernel, by decide +kernel⟩
theorem d_plain_sort (T : Txt F mg) (h : At F mg "plain_sort" (top 45) ["sort"])     : Dn P w F mg base 1 "plain_sort" 1 f_plain_sort :=
  dn_at h s_plain_sort fun E f cdv A outer s H hr tk ow => by
    have nd : (["sort"] : List Str).Nodup := s_plain_sort.nd
    exact (css_cons (cs_if (ct_truth rfl (ce_isj rfl rfl T.b_isinstance (by decide +kernel) (ce_var 0 rfl (by first | exact .inl rfl | exact .inr (.inl rfl) | exact .inr (.inr rfl))) rfl T.b_tuple (by decide +kernel))) (css_one (cs_ret (ce_tup (ca_cons ce_str (ca_cons (ce_callTy call_int1 p_int rfl T.b_int (by decide +kernel) (ca_cons (ce_ix rfl hr (ce_var 0 rfl (by first | exact .inl rfl | exact .inr (.inl rfl) | exact .inr (.inr rfl))) ce_int) ca_nil)) ca_nil))))) css_nil) (css_one (cs_ret (ce_sl rfl (ce_var 0 rfl (by first | exact .inl rfl | exact .inr (.inl rfl) | exact .inr (.inr rfl))) co_none co_none))))

def b__plain_or_none : EvS := sSeq (sIf (xTB (x2 (gIs false) (xVar 0) (xC .non))) (sRet (xC .non)) (sPass)) (sRet (xA (g1 gInt) (xCons (xVar 0) (xNil))))
def f__plain_or_none : List AV → Hh → Out AV := defO 1 b__plain_or_none
theorem s__plain_or_none : FnScope ["thing"] ["thing"] (defScope (top 48)) := ⟨rfl, rfl, rfl, by decide +kernel, rfl, by decide +kernel, by decide +kernel⟩
theorem d__plain_or_none (T : Txt F mg) (h : At F mg "_plain_or_none" (top 48) ["thing"])     : Dn P w F mg base 1 "_plain_or_none" 1 f__plain_or_none :=
  dn_at h s__plain_or_none fun E f cdv A outer s H hr tk ow => by
    have nd : (["thing"] : List Str).Nodup := s__plain_or_none.nd
    exact (css_cons (cs_if (ct_cmp op_isN p_is (nomark _) (ce_var 0 rfl (by first | exact .inl rfl | exact .inr (.inl rfl) | exact .inr (.inr rfl))) ce_non) (css_one (cs_ret ce_non)) css_nil) (css_one (cs_ret (ce_callTy call_int1 p_int rfl T.b_int (by decide +kernel) (ca_cons (ce_var 0 rfl (by first | exact .inl rfl | exact .inr (.inl rfl) | exact .inr (.inr rfl))) ca_nil)))))

def b_leads : EvS := sRet (x2 gLt (x2 gItem (xVar 0) (xC (.int 1))) (x2 gItem (xVar 1) (xC (.int 0))))
def f_leads : List AV → Hh → Out AV := defO 2 b_leads
theorem s_leads : FnScope ["call", "other"] ["call", "other"] (defScope (top 51)) := ⟨rfl, rfl, rfl, by decide +kernel, rfl, by decide +kernel, by decide +kernel⟩
theorem d_leads (T : Txt F mg) (h : At F mg "leads" (top 51) ["call", "other"])     : Dn P w F mg base 1 "leads" 2 f_leads :=
  dn_at h s_leads fun E f cdv A outer s H hr tk ow => by
    have nd : (["call", "other"] : List Str).Nodup := s_leads.nd
    exact (css_one (cs_ret (ce_cmp op_lt p_lt (nomark _) (ce_ix rfl hr (ce_var 0 rfl (by first | exact .inl rfl | exact .inr (.inl rfl) | exact .inr (.inr rfl))) (ce_globI rfl T.g_END)) (ce_ix rfl hr (ce_var 1 rfl (by first | exact .inl rfl | exact .inr (.inl rfl) | exact .inr (.inr rfl))) (ce_globI rfl T.g_BEGIN)))))

def b_is_order_of : EvS := sSeq (sIf (xOr (xNot (xTru (xIsj "tuple" (xVar 1)))) (xNot (xTru (xGx true (xIter (xVar 1)) (yName 3) (xYes) (xA (onN 1 f_is_whole) (xCons (xVar 3) (xNil))) [3])))) (sRet (xC (.bl false))) (sPass)) (sSeq (sIf (xTB (x2 (gEqD true) (xA gSortU2 (xCons (xVar 1) (xNil))) (xA gListU2 (xCons (xA gRange (xCons (xA gLenU (xCons (xVar 0) (xNil))) (xNil))) (xNil))))) (sRet (xC (.bl false))) (sPass)) (sRet (xNotT (xGx2 false (xEnumU (xCons (xVar 1) (xNil))) (yTup 2 (yCons (yName 4) (yCons (yName 5) (yNil)))) (xYes) (xIter (xSl gCut (xVar 1) (xPart (x2 gAdd (xVar 4) (xC (.int 1)))) (xNoPart))) (yName 2) (xYes) (xA (onN 2 f_leads) (xCons (x2 gItem (xVar 0) (xVar 2)) (xCons (x2 gItem (xVar 0) (xVar 5)) (xNil)))) [4, 5, 2] [2]))))
def f_is_order_of : List AV → Hh → Out AV := defO 6 b_is_order_of
theorem s_is_order_of : FnScope ["calls", "value", "far", "number", "at", "near"] ["calls", "value"] (defScope (top 52)) := ⟨rfl, rfl, rfl, by decide +kernel, rfl, by decide +kernel, by decide +kernel⟩
theorem d_is_order_of (T : Txt F mg) (h : AtC F mg base "is_order_of" (top 52) ["calls", "value"]) (d_is_whole : Dn P w F mg base 1 "is_whole" 1 f_is_whole) (d_leads : Dn P w F mg base 1 "leads" 2 f_leads)    : Dn P w F mg base 3 "is_order_of" 2 f_is_order_of :=
  dn_atC h s_is_order_of fun E f tc tp A outer s H hr tk ow TB hP => by
    have nd : (["calls", "value", "far", "number", "at", "near"] : List Str).Nodup := s_is_order_of.nd
    exact (css_cons (cs_if (ct_w (cw_or (ct_not (ct_truth rfl (ce_isj rfl rfl T.b_isinstance (by decide +kernel) (ce_var 1 rfl (by first | exact .inl rfl | exact .inr (.inl rfl) | exact .inr (.inr rfl))) rfl T.b_tuple (by decide +kernel)))) (cw_or1 (ct_not (ct_truth rfl (ce_all (own := [("number", 3)]) (P := tp) hP hr rfl T.b_all ⟨TB, rfl, blkOk_by (N := ["calls", "value", "far", "number", "at", "near"]) (sc := (defScope (top 52))) (by decide +kernel), by decide +kernel, by decide +kernel, rfl, nd, rfl, fun _ => rfl⟩ (ci_seq rfl (ce_var 1 rfl (by first | exact .inl rfl | exact .inr (.inl rfl) | exact .inr (.inr rfl)))) ⟨_, fun _ _ _ _ _ _ _ => (pg_name (i := 3) nd rfl (by first | exact .inl rfl | exact .inr rfl)), (q_name 3)⟩ (by decide) (fun _ _ _ _ _ _ hB => cts_nil) (fun _ _ _ _ _ _ hB => (ce_call d_is_whole rfl (by omega) hB takes0 rfl (ca_cons (ce_var 3 rfl (by first | exact .inl rfl | exact .inr (.inl rfl) | exact .inr (.inr rfl))) ca_nil))))))))) (css_one (cs_ret ce_bl)) css_nil) (css_cons (cs_if (ct_cmp (opr_ne hr) p_ne (nomark _) (ce_sorted2 rfl rfl rfl T.b_sorted (ca_cons (ce_var 1 rfl (by first | exact .inl rfl | exact .inr (.inl rfl) | exact .inr (.inr rfl))) ca_nil)) (ce_list2 rfl rfl rfl T.b_list (ca_cons (ce_callTy cr_range1 p_range rfl T.b_range (by decide +kernel) (ca_cons (ce_lenU rfl rfl T.b_len (ca_cons (ce_var 0 rfl (by first | exact .inl rfl | exact .inr (.inl rfl) | exact .inr (.inr rfl))) ca_nil)) ca_nil)) ca_nil))) (css_one (cs_ret ce_bl)) css_nil) (css_one (cs_ret (ce_not rfl (ce_any2 (own := [("at", 4), ("near", 5), ("far", 2)]) (vs1 := [2]) (P := tp) hP hr rfl T.b_any ⟨TB, rfl, blkOk_by (N := ["calls", "value", "far", "number", "at", "near"]) (sc := (defScope (top 52))) (by decide +kernel), by decide +kernel, by decide +kernel, rfl, nd, rfl, fun _ => rfl⟩ (ci_enumU rfl rfl T.b_enumerate (ca_cons (ce_var 1 rfl (by first | exact .inl rfl | exact .inr (.inl rfl) | exact .inr (.inr rfl))) ca_nil)) ⟨_, fun _ _ _ _ _ _ _ => (pg_tup rfl (pgs_cons (pg_name (i := 4) nd rfl (by first | exact .inl rfl | exact .inr rfl)) (pgs_cons (pg_name (i := 5) nd rfl (by first | exact .inl rfl | exact .inr rfl)) pgs_nil))), (q_tup (q_cons (q_name 4) (q_cons (q_name 5) q_nil)))⟩ (by decide) (fun _ _ _ _ _ _ hB => cts_nil) (fun _ _ _ _ _ _ hB => (ci_seq rfl (ce_sl rfl (ce_var 1 rfl (by first | exact .inl rfl | exact .inr (.inl rfl) | exact .inr (.inr rfl))) (co_some (ce_bin opr_add (p_add rfl) (ce_var 4 rfl (by first | exact .inl rfl | exact .inr (.inl rfl) | exact .inr (.inr rfl))) ce_int)) co_none))) ⟨_, fun _ _ _ _ _ _ _ => (pg_name (i := 2) nd rfl (by first | exact .inl rfl | exact .inr rfl)), (q_name 2)⟩ (by decide) (by decide) (fun _ _ _ _ _ _ hB => cts_nil) (fun _ _ _ _ _ _ hB => (ce_call d_leads rfl (by omega) hB takes0 rfl (ca_cons (ce_ix rfl hB (ce_var 0 rfl (by first | exact .inl rfl | exact .inr (.inl rfl) | exact .inr (.inr rfl))) (ce_var 2 rfl (by first | exact .inl rfl | exact .inr (.inl rfl) | exact .inr (.inr rfl)))) (ca_cons (ce_ix rfl hB (ce_var 0 rfl (by first | exact .inl rfl | exact .inr (.inl rfl) | exact .inr (.inr rfl))) (ce_var 5 rfl (by first | exact .inl rfl | exact .inr (.inl rfl) | exact .inr (.inr rfl)))) ca_nil))))))))))

def b_word_of_paper : EvS := sSeq (sIf (xOr (xNot (xTru (xIsj "tuple" (xVar 0)))) (xOr (xTB (x2 (gEqD false) (xA gLenU (xCons (xVar 0) (xNil))) (xC (.int 0)))) (xNot (xTru (xIsj "str" (x2 gItem (xVar 0) (xC (.int 0)))))))) (sRaise "BadPaper" "part" (xCons (xC (.str "form")) (xNil))) (sPass)) (sSeq (sFor (xIter (xVar 1)) (yTup 2 (yCons (yName 2) (yCons (yName 3) (yNil)))) (sIf (xAnd (xTB (x2 (gEqD false) (x2 gItem (xVar 0) (xC (.int 0))) (xVar 2))) (xTB (x2 (gEqD false) (xA gLenU (xCons (xVar 0) (xNil))) (xVar 3)))) (sRet (xVar 2)) (sPass))) (sRaise "BadPaper" "part" (xCons (xC (.str "form")) (xNil))))
def f_word_of_paper : List AV → Hh → Out AV := defO 4 b_word_of_paper
theorem s_word_of_paper : FnScope ["paper", "forms", "word", "size"] ["paper", "forms"] (defScope (top 54)) := ⟨rfl, rfl, rfl, by decide +kernel, rfl, by decide +kernel, by decide +kernel⟩
theorem d_word_of_paper (T : Txt F mg) (h : At F mg "word_of_paper" (top 54) ["paper", "forms"])   (x_BadPaper : Xcl P w F mg base "BadPaper" "part")  : Dn P w F mg base 3 "word_of_paper" 2 f_word_of_paper :=
  dn_at h s_word_of_paper fun E f cdv A outer s H hr tk ow => by
    have nd : (["paper", "forms", "word", "size"] : List Str).Nodup := s_word_of_paper.nd
    exact (css_cons (cs_if (ct_w (cw_or (ct_not (ct_truth rfl (ce_isj rfl rfl T.b_isinstance (by decide +kernel) (ce_var 0 rfl (by first | exact .inl rfl | exact .inr (.inl rfl) | exact .inr (.inr rfl))) rfl T.b_tuple (by decide +kernel)))) (cw_or (ct_cmp (opr_eq hr) p_eq (nomark _) (ce_lenU rfl rfl T.b_len (ca_cons (ce_var 0 rfl (by first | exact .inl rfl | exact .inr (.inl rfl) | exact .inr (.inr rfl))) ca_nil)) ce_int) (cw_or1 (ct_not (ct_truth rfl (ce_isj rfl rfl T.b_isinstance (by decide +kernel) (ce_ix rfl hr (ce_var 0 rfl (by first | exact .inl rfl | exact .inr (.inl rfl) | exact .inr (.inr rfl))) ce_int) rfl T.b_str (by decide +kernel)))))))) (css_one (cs_raise x_BadPaper rfl rfl hr tk rfl (ca_cons ce_str ca_nil))) css_nil) (css_cons (cs_for ow rfl (ci_seq rfl (ce_var 1 rfl (by first | exact .inl rfl | exact .inr (.inl rfl) | exact .inr (.inr rfl)))) (cg_tup rfl rfl (cgs_cons (cg_name 2 nd rfl (by first | exact .inl rfl | exact .inr rfl)) (cgs_cons (cg_name 3 nd rfl (by first | exact .inl rfl | exact .inr rfl)) cgs_nil))) (css_one (cs_if (ct_w (cw_and (ct_cmp (opr_eq hr) p_eq (nomark _) (ce_ix rfl hr (ce_var 0 rfl (by first | exact .inl rfl | exact .inr (.inl rfl) | exact .inr (.inr rfl))) ce_int) (ce_var 2 rfl (by first | exact .inl rfl | exact .inr (.inl rfl) | exact .inr (.inr rfl)))) (cw_and1 (ct_cmp (opr_eq hr) p_eq (nomark _) (ce_lenU rfl rfl T.b_len (ca_cons (ce_var 0 rfl (by first | exact .inl rfl | exact .inr (.inl rfl) | exact .inr (.inr rfl))) ca_nil)) (ce_var 3 rfl (by first | exact .inl rfl | exact .inr (.inl rfl) | exact .inr (.inr rfl))))))) (css_one (cs_ret (ce_var 2 rfl (by first | exact .inl rfl | exact .inr (.inl rfl) | exact .inr (.inr rfl))))) css_nil))) (css_one (cs_raise x_BadPaper rfl rfl hr tk rfl (ca_cons ce_str ca_nil)))))

def b__write : EvS := sRet (xA mkT (xCons (xC (.bl true)) (xCons (xC .non) (xCons (xVar 2) (xNil)))))
def f__write : List AV → Hh → Out AV := defO 3 b__write
theorem s__write : FnScope ["sort", "state", "given"] ["sort", "state", "given"] (defScope (top 56)) := ⟨rfl, rfl, rfl, by decide +kernel, rfl, by decide +kernel, by decide +kernel⟩
theorem d__write (T : Txt F mg) (h : At F mg "_write" (top 56) ["sort", "state", "given"])     : Dn P w F mg base 1 "_write" 3 f__write :=
  dn_at h s__write fun E f cdv A outer s H hr tk ow => by
    have nd : (["sort", "state", "given"] : List Str).Nodup := s__write.nd
    exact (css_one (cs_ret (ce_tup (ca_cons ce_bl (ca_cons ce_non (ca_cons (ce_var 2 rfl (by first | exact .inl rfl | exact .inr (.inl rfl) | exact .inr (.inr rfl))) ca_nil))))))

def b__read : EvS := sRet (xA mkT (xCons (xC (.bl true)) (xCons (xVar 1) (xCons (xVar 1) (xNil)))))
def f__read : List AV → Hh → Out AV := defO 3 b__read
theorem s__read : FnScope ["sort", "state", "given"] ["sort", "state", "given"] (defScope (top 57)) := ⟨rfl, rfl, rfl, by decide +kernel, rfl, by decide +kernel, by decide +kernel⟩
theorem d__read (T : Txt F mg) (h : At F mg "_read" (top 57) ["sort", "state", "given"])     : Dn P w F mg base 1 "_read" 3 f__read :=
  dn_at h s__read fun E f cdv A outer s H hr tk ow => by
    have nd : (["sort", "state", "given"] : List Str).Nodup := s__read.nd
    exact (css_one (cs_ret (ce_tup (ca_cons ce_bl (ca_cons (ce_var 1 rfl (by first | exact .inl rfl | exact .inr (.inl rfl) | exact .inr (.inr rfl))) (ca_cons (ce_var 1 rfl (by first | exact .inl rfl | exact .inr (.inl rfl) | exact .inr (.inr rfl))) ca_nil))))))

def b__put : EvS := sSeq (sIf (xTB (x2 (gEqD false) (xVar 0) (xC (.str "heads")))) (sRet (xA mkT (xCons (xC (.bl true)) (xCons (xC .non) (xCons (xA gTupU (xCons (xA gSortU2 (xCons (x2 gAdd (xVar 1) (xA mkT (xCons (xVar 2) (xNil)))) (xNil))) (xNil))) (xNil)))))) (sPass)) (sRet (xA mkT (xCons (xC (.bl true)) (xCons (xC .non) (xCons (x2 gAdd (xVar 1) (xA mkT (xCons (xVar 2) (xNil)))) (xNil))))))
def f__put : List AV → Hh → Out AV := defO 3 b__put
theorem s__put : FnScope ["sort", "state", "given"] ["sort", "state", "given"] (defScope (top 58)) := ⟨rfl, rfl, rfl, by decide +kernel, rfl, by decide +kernel, by decide +kernel⟩
theorem d__put (T : Txt F mg) (h : At F mg "_put" (top 58) ["sort", "state", "given"])     : Dn P w F mg base 1 "_put" 3 f__put :=
  dn_at h s__put fun E f cdv A outer s H hr tk ow => by
    have nd : (["sort", "state", "given"] : List Str).Nodup := s__put.nd
    exact (css_cons (cs_if (ct_cmp (opr_eq hr) p_eq (nomark _) (ce_var 0 rfl (by first | exact .inl rfl | exact .inr (.inl rfl) | exact .inr (.inr rfl))) ce_str) (css_one (cs_ret (ce_tup (ca_cons ce_bl (ca_cons ce_non (ca_cons (ce_tupleU rfl rfl rfl T.b_tuple (ca_cons (ce_sorted2 rfl rfl rfl T.b_sorted (ca_cons (ce_bin opr_add (p_add rfl) (ce_var 1 rfl (by first | exact .inl rfl | exact .inr (.inl rfl) | exact .inr (.inr rfl))) (ce_tup (ca_cons (ce_var 2 rfl (by first | exact .inl rfl | exact .inr (.inl rfl) | exact .inr (.inr rfl))) ca_nil))) ca_nil)) ca_nil)) ca_nil)))))) css_nil) (css_one (cs_ret (ce_tup (ca_cons ce_bl (ca_cons ce_non (ca_cons (ce_bin opr_add (p_add rfl) (ce_var 1 rfl (by first | exact .inl rfl | exact .inr (.inl rfl) | exact .inr (.inr rfl))) (ce_tup (ca_cons (ce_var 2 rfl (by first | exact .inl rfl | exact .inr (.inl rfl) | exact .inr (.inr rfl))) ca_nil))) ca_nil)))))))

def b__take : EvS := sSeq (sIf (xNot (xTru (xVar 1))) (sRet (xA mkT (xCons (xC (.bl true)) (xCons (xC .non) (xCons (xVar 1) (xNil)))))) (sPass)) (sSeq (sIf (xTB (x2 (gEqD false) (xVar 0) (xC (.str "stack")))) (sRet (xA mkT (xCons (xC (.bl true)) (xCons (x2 gItem (xVar 1) (xNeg (xC (.int 1)))) (xCons (xSl gCut (xVar 1) (xNoPart) (xPart (xNeg (xC (.int 1))))) (xNil)))))) (sPass)) (sRet (xA mkT (xCons (xC (.bl true)) (xCons (x2 gItem (xVar 1) (xC (.int 0))) (xCons (xSl gCut (xVar 1) (xPart (xC (.int 1))) (xNoPart)) (xNil)))))))
def f__take : List AV → Hh → Out AV := defO 3 b__take
theorem s__take : FnScope ["sort", "state", "given"] ["sort", "state", "given"] (defScope (top 59)) := ⟨rfl, rfl, rfl, by decide +kernel, rfl, by decide +kernel, by decide +kernel⟩
theorem d__take (T : Txt F mg) (h : At F mg "_take" (top 59) ["sort", "state", "given"])     : Dn P w F mg base 1 "_take" 3 f__take :=
  dn_at h s__take fun E f cdv A outer s H hr tk ow => by
    have nd : (["sort", "state", "given"] : List Str).Nodup := s__take.nd
    exact (css_cons (cs_if (ct_not (ct_truth rfl (ce_var 1 rfl (by first | exact .inl rfl | exact .inr (.inl rfl) | exact .inr (.inr rfl))))) (css_one (cs_ret (ce_tup (ca_cons ce_bl (ca_cons ce_non (ca_cons (ce_var 1 rfl (by first | exact .inl rfl | exact .inr (.inl rfl) | exact .inr (.inr rfl))) ca_nil)))))) css_nil) (css_cons (cs_if (ct_cmp (opr_eq hr) p_eq (nomark _) (ce_var 0 rfl (by first | exact .inl rfl | exact .inr (.inl rfl) | exact .inr (.inr rfl))) ce_str) (css_one (cs_ret (ce_tup (ca_cons ce_bl (ca_cons (ce_ix rfl hr (ce_var 1 rfl (by first | exact .inl rfl | exact .inr (.inl rfl) | exact .inr (.inr rfl))) (ce_neg ce_int)) (ca_cons (ce_sl rfl (ce_var 1 rfl (by first | exact .inl rfl | exact .inr (.inl rfl) | exact .inr (.inr rfl))) co_none (co_some (ce_neg ce_int))) ca_nil)))))) css_nil) (css_one (cs_ret (ce_tup (ca_cons ce_bl (ca_cons (ce_ix rfl hr (ce_var 1 rfl (by first | exact .inl rfl | exact .inr (.inl rfl) | exact .inr (.inr rfl))) ce_int) (ca_cons (ce_sl rfl (ce_var 1 rfl (by first | exact .inl rfl | exact .inr (.inl rfl) | exact .inr (.inr rfl))) (co_some ce_int) co_none) ca_nil))))))))

def b__enter : EvS := sSeq (sIf (xOr (xTB (x2 gGe (xA gLenU (xCons (xVar 1) (xNil))) (x2 gItem (xVar 0) (xC (.int 1))))) (xTB (x2 (gInU false) (xVar 2) (xVar 1)))) (sRet (xA mkT (xCons (xC (.bl false)) (xCons (xC .non) (xCons (xVar 1) (xNil)))))) (sPass)) (sRet (xA mkT (xCons (xC (.bl true)) (xCons (xC .non) (xCons (xA gTupU (xCons (xA gSortU2 (xCons (x2 gAdd (xVar 1) (xA mkT (xCons (xVar 2) (xNil)))) (xNil))) (xNil))) (xNil))))))
def f__enter : List AV → Hh → Out AV := defO 3 b__enter
theorem s__enter : FnScope ["sort", "state", "given"] ["sort", "state", "given"] (defScope (top 60)) := ⟨rfl, rfl, rfl, by decide +kernel, rfl, by decide +kernel, by decide +kernel⟩
theorem d__enter (T : Txt F mg) (h : At F mg "_enter" (top 60) ["sort", "state", "given"])     : Dn P w F mg base 1 "_enter" 3 f__enter :=
  dn_at h s__enter fun E f cdv A outer s H hr tk ow => by
    have nd : (["sort", "state", "given"] : List Str).Nodup := s__enter.nd
    exact (css_cons (cs_if (ct_w (cw_or (ct_cmp op_ge p_ge (nomark _) (ce_lenU rfl rfl T.b_len (ca_cons (ce_var 1 rfl (by first | exact .inl rfl | exact .inr (.inl rfl) | exact .inr (.inr rfl))) ca_nil)) (ce_ix rfl hr (ce_var 0 rfl (by first | exact .inl rfl | exact .inr (.inl rfl) | exact .inr (.inr rfl))) ce_int)) (cw_or1 (ct_cmp (opr_inU hr) (p_inU rfl false) (by with_unfolding_all rfl) (ce_var 2 rfl (by first | exact .inl rfl | exact .inr (.inl rfl) | exact .inr (.inr rfl))) (ce_var 1 rfl (by first | exact .inl rfl | exact .inr (.inl rfl) | exact .inr (.inr rfl))))))) (css_one (cs_ret (ce_tup (ca_cons ce_bl (ca_cons ce_non (ca_cons (ce_var 1 rfl (by first | exact .inl rfl | exact .inr (.inl rfl) | exact .inr (.inr rfl))) ca_nil)))))) css_nil) (css_one (cs_ret (ce_tup (ca_cons ce_bl (ca_cons ce_non (ca_cons (ce_tupleU rfl rfl rfl T.b_tuple (ca_cons (ce_sorted2 rfl rfl rfl T.b_sorted (ca_cons (ce_bin opr_add (p_add rfl) (ce_var 1 rfl (by first | exact .inl rfl | exact .inr (.inl rfl) | exact .inr (.inr rfl))) (ce_tup (ca_cons (ce_var 2 rfl (by first | exact .inl rfl | exact .inr (.inl rfl) | exact .inr (.inr rfl))) ca_nil))) ca_nil)) ca_nil)) ca_nil)))))))

def b__leave : EvS := sSeq (sIf (xTB (x2 (gInU true) (xVar 2) (xVar 1))) (sRet (xA mkT (xCons (xC (.bl false)) (xCons (xC .non) (xCons (xVar 1) (xNil)))))) (sPass)) (sRet (xA mkT (xCons (xC (.bl true)) (xCons (xC .non) (xCons (xA gTupU (xCons (xLc (xIter (xVar 1)) (yName 3) (xTB (x2 (gEqD true) (xVar 3) (xVar 2))) (xVar 3) [3]) (xNil))) (xNil))))))
def f__leave : List AV → Hh → Out AV := defO 4 b__leave
theorem s__leave : FnScope ["sort", "state", "given", "inside"] ["sort", "state", "given"] (defScope (top 61)) := ⟨rfl, rfl, rfl, by decide +kernel, rfl, by decide +kernel, by decide +kernel⟩
theorem d__leave (T : Txt F mg) (h : At F mg "_leave" (top 61) ["sort", "state", "given"])     : Dn P w F mg base 1 "_leave" 3 f__leave :=
  dn_at h s__leave fun E f cdv A outer s H hr tk ow => by
    have nd : (["sort", "state", "given", "inside"] : List Str).Nodup := s__leave.nd
    exact (css_cons (cs_if (ct_cmp (opr_ninU hr) (p_inU rfl true) (by with_unfolding_all rfl) (ce_var 2 rfl (by first | exact .inl rfl | exact .inr (.inl rfl) | exact .inr (.inr rfl))) (ce_var 1 rfl (by first | exact .inl rfl | exact .inr (.inl rfl) | exact .inr (.inr rfl)))) (css_one (cs_ret (ce_tup (ca_cons ce_bl (ca_cons ce_non (ca_cons (ce_var 1 rfl (by first | exact .inl rfl | exact .inr (.inl rfl) | exact .inr (.inr rfl))) ca_nil)))))) css_nil) (css_one (cs_ret (ce_tup (ca_cons ce_bl (ca_cons ce_non (ca_cons (ce_tupleU rfl rfl rfl T.b_tuple (ca_cons (ce_lc (own := [("inside", 3)]) rfl nd (ci_seq rfl (ce_var 1 rfl (by first | exact .inl rfl | exact .inr (.inl rfl) | exact .inr (.inr rfl)))) (blkOk_by (N := ["sort", "state", "given", "inside"]) (sc := (defScope (top 61))) (by decide +kernel)) ⟨_, fun _ _ _ _ _ => (pg_name (i := 3) nd rfl (by first | exact .inl rfl | exact .inr rfl)), (q_name 3)⟩ (by decide) (fun _ _ _ _ _ => (cts_one (ct_cmp (opr_ne hr) p_ne (nomark _) (ce_var 3 rfl (by first | exact .inl rfl | exact .inr (.inl rfl) | exact .inr (.inr rfl))) (ce_var 2 rfl (by first | exact .inl rfl | exact .inr (.inl rfl) | exact .inr (.inr rfl)))))) (fun _ _ _ _ _ => (ce_var 3 rfl (by first | exact .inl rfl | exact .inr (.inl rfl) | exact .inr (.inr rfl))))) ca_nil)) ca_nil)))))))

def b__add : EvS := sRet (xA mkT (xCons (xC (.bl true)) (xCons (xC .non) (xCons (x2 gAdd (xVar 1) (xC (.int 1))) (xNil)))))
def f__add : List AV → Hh → Out AV := defO 3 b__add
theorem s__add : FnScope ["sort", "state", "given"] ["sort", "state", "given"] (defScope (top 62)) := ⟨rfl, rfl, rfl, by decide +kernel, rfl, by decide +kernel, by decide +kernel⟩
theorem d__add (T : Txt F mg) (h : At F mg "_add" (top 62) ["sort", "state", "given"])     : Dn P w F mg base 1 "_add" 3 f__add :=
  dn_at h s__add fun E f cdv A outer s H hr tk ow => by
    have nd : (["sort", "state", "given"] : List Str).Nodup := s__add.nd
    exact (css_one (cs_ret (ce_tup (ca_cons ce_bl (ca_cons ce_non (ca_cons (ce_bin opr_add (p_add rfl) (ce_var 1 rfl (by first | exact .inl rfl | exact .inr (.inl rfl) | exact .inr (.inr rfl))) ce_int) ca_nil))))))

def b__count : EvS := sRet (xA mkT (xCons (xC (.bl true)) (xCons (xVar 1) (xCons (xVar 1) (xNil)))))
def f__count : List AV → Hh → Out AV := defO 3 b__count
theorem s__count : FnScope ["sort", "state", "given"] ["sort", "state", "given"] (defScope (top 63)) := ⟨rfl, rfl, rfl, by decide +kernel, rfl, by decide +kernel, by decide +kernel⟩
theorem d__count (T : Txt F mg) (h : At F mg "_count" (top 63) ["sort", "state", "given"])     : Dn P w F mg base 1 "_count" 3 f__count :=
  dn_at h s__count fun E f cdv A outer s H hr tk ow => by
    have nd : (["sort", "state", "given"] : List Str).Nodup := s__count.nd
    exact (css_one (cs_ret (ce_tup (ca_cons ce_bl (ca_cons (ce_var 1 rfl (by first | exact .inl rfl | exact .inr (.inl rfl) | exact .inr (.inr rfl))) (ca_cons (ce_var 1 rfl (by first | exact .inl rfl | exact .inr (.inl rfl) | exact .inr (.inr rfl))) ca_nil))))))

def b__draw : EvS := sRet (xA mkT (xCons (xC (.bl true)) (xCons (xVar 1) (xCons (x2 gAdd (xVar 1) (xC (.int 1))) (xNil)))))
def f__draw : List AV → Hh → Out AV := defO 3 b__draw
theorem s__draw : FnScope ["sort", "state", "given"] ["sort", "state", "given"] (defScope (top 64)) := ⟨rfl, rfl, rfl, by decide +kernel, rfl, by decide +kernel, by decide +kernel⟩
theorem d__draw (T : Txt F mg) (h : At F mg "_draw" (top 64) ["sort", "state", "given"])     : Dn P w F mg base 1 "_draw" 3 f__draw :=
  dn_at h s__draw fun E f cdv A outer s H hr tk ow => by
    have nd : (["sort", "state", "given"] : List Str).Nodup := s__draw.nd
    exact (css_one (cs_ret (ce_tup (ca_cons ce_bl (ca_cons (ce_var 1 rfl (by first | exact .inl rfl | exact .inr (.inl rfl) | exact .inr (.inr rfl))) (ca_cons (ce_bin opr_add (p_add rfl) (ce_var 1 rfl (by first | exact .inl rfl | exact .inr (.inl rfl) | exact .inr (.inr rfl))) ce_int) ca_nil))))))

def b__join : EvS := sSeq (sIf (xTB (x2 (gInU false) (xVar 2) (xVar 1))) (sRet (xA mkT (xCons (xC (.bl false)) (xCons (xC .non) (xCons (xVar 1) (xNil)))))) (sPass)) (sRet (xA mkT (xCons (xC (.bl true)) (xCons (xC .non) (xCons (xA gTupU (xCons (xA gSortU2 (xCons (x2 gAdd (xVar 1) (xA mkT (xCons (xVar 2) (xNil)))) (xNil))) (xNil))) (xNil))))))
def f__join : List AV → Hh → Out AV := defO 3 b__join
theorem s__join : FnScope ["sort", "state", "given"] ["sort", "state", "given"] (defScope (top 65)) := ⟨rfl, rfl, rfl, by decide +kernel, rfl, by decide +kernel, by decide +kernel⟩
theorem d__join (T : Txt F mg) (h : At F mg "_join" (top 65) ["sort", "state", "given"])     : Dn P w F mg base 1 "_join" 3 f__join :=
  dn_at h s__join fun E f cdv A outer s H hr tk ow => by
    have nd : (["sort", "state", "given"] : List Str).Nodup := s__join.nd
    exact (css_cons (cs_if (ct_cmp (opr_inU hr) (p_inU rfl false) (by with_unfolding_all rfl) (ce_var 2 rfl (by first | exact .inl rfl | exact .inr (.inl rfl) | exact .inr (.inr rfl))) (ce_var 1 rfl (by first | exact .inl rfl | exact .inr (.inl rfl) | exact .inr (.inr rfl)))) (css_one (cs_ret (ce_tup (ca_cons ce_bl (ca_cons ce_non (ca_cons (ce_var 1 rfl (by first | exact .inl rfl | exact .inr (.inl rfl) | exact .inr (.inr rfl))) ca_nil)))))) css_nil) (css_one (cs_ret (ce_tup (ca_cons ce_bl (ca_cons ce_non (ca_cons (ce_tupleU rfl rfl rfl T.b_tuple (ca_cons (ce_sorted2 rfl rfl rfl T.b_sorted (ca_cons (ce_bin opr_add (p_add rfl) (ce_var 1 rfl (by first | exact .inl rfl | exact .inr (.inl rfl) | exact .inr (.inr rfl))) (ce_tup (ca_cons (ce_var 2 rfl (by first | exact .inl rfl | exact .inr (.inl rfl) | exact .inr (.inr rfl))) ca_nil))) ca_nil)) ca_nil)) ca_nil)))))))

def b__has : EvS := sSeq (sIf (xTB (x2 (gInU false) (xVar 2) (xVar 1))) (sRet (xA mkT (xCons (xC (.bl true)) (xCons (xC (.int 1)) (xCons (xVar 1) (xNil)))))) (sPass)) (sRet (xA mkT (xCons (xC (.bl true)) (xCons (xC (.int 0)) (xCons (xVar 1) (xNil))))))
def f__has : List AV → Hh → Out AV := defO 3 b__has
theorem s__has : FnScope ["sort", "state", "given"] ["sort", "state", "given"] (defScope (top 66)) := ⟨rfl, rfl, rfl, by decide +kernel, rfl, by decide +kernel, by decide +kernel⟩
theorem d__has (T : Txt F mg) (h : At F mg "_has" (top 66) ["sort", "state", "given"])     : Dn P w F mg base 1 "_has" 3 f__has :=
  dn_at h s__has fun E f cdv A outer s H hr tk ow => by
    have nd : (["sort", "state", "given"] : List Str).Nodup := s__has.nd
    exact (css_cons (cs_if (ct_cmp (opr_inU hr) (p_inU rfl false) (by with_unfolding_all rfl) (ce_var 2 rfl (by first | exact .inl rfl | exact .inr (.inl rfl) | exact .inr (.inr rfl))) (ce_var 1 rfl (by first | exact .inl rfl | exact .inr (.inl rfl) | exact .inr (.inr rfl)))) (css_one (cs_ret (ce_tup (ca_cons ce_bl (ca_cons ce_int (ca_cons (ce_var 1 rfl (by first | exact .inl rfl | exact .inr (.inl rfl) | exact .inr (.inr rfl))) ca_nil)))))) css_nil) (css_one (cs_ret (ce_tup (ca_cons ce_bl (ca_cons ce_int (ca_cons (ce_var 1 rfl (by first | exact .inl rfl | exact .inr (.inl rfl) | exact .inr (.inr rfl))) ca_nil)))))))

def b__first_state : EvS := sSeq (sIf (xTB (x2 (gEqD false) (xVar 0) (xC (.str "cell")))) (sRet (xC .non)) (sPass)) (sSeq (sIf (xTB (x2 (gInU false) (xVar 0) (xA mkT (xCons (xC (.str "counter")) (xCons (xC (.str "tickets")) (xNil)))))) (sRet (xC (.int 0))) (sPass)) (sRet (xA mkT (xNil))))
def f__first_state : List AV → Hh → Out AV := defO 1 b__first_state
theorem s__first_state : FnScope ["name"] ["name"] (defScope (top 69)) := ⟨rfl, rfl, rfl, by decide +kernel, rfl, by decide +kernel, by decide +kernel⟩
theorem d__first_state (T : Txt F mg) (h : At F mg "_first_state" (top 69) ["name"])     : Dn P w F mg base 1 "_first_state" 1 f__first_state :=
  dn_at h s__first_state fun E f cdv A outer s H hr tk ow => by
    have nd : (["name"] : List Str).Nodup := s__first_state.nd
    exact (css_cons (cs_if (ct_cmp (opr_eq hr) p_eq (nomark _) (ce_var 0 rfl (by first | exact .inl rfl | exact .inr (.inl rfl) | exact .inr (.inr rfl))) ce_str) (css_one (cs_ret ce_non)) css_nil) (css_cons (cs_if (ct_cmp (opr_inU hr) (p_inU rfl false) (by with_unfolding_all rfl) (ce_var 0 rfl (by first | exact .inl rfl | exact .inr (.inl rfl) | exact .inr (.inr rfl))) (ce_tup (ca_cons ce_str (ca_cons ce_str ca_nil)))) (css_one (cs_ret ce_int)) css_nil) (css_one (cs_ret (ce_tup ca_nil)))))

def b_step : EvS := sSeq (sAsg (x2 gItem (xVar 2) (xC (.int 2))) (yName 3)) (sSeq (sAsg (xIxG t_ACTIONS (x2 gItem (xVar 2) (xC (.int 3)))) (yName 4)) (sSeq (sAsg (xCallV 4 3 [("_add", f__add), ("_count", f__count), ("_draw", f__draw), ("_enter", f__enter), ("_has", f__has), ("_join", f__join), ("_leave", f__leave), ("_put", f__put), ("_read", f__read), ("_take", f__take), ("_write", f__write)] (xCons (x2 gItem (xVar 0) (xVar 3)) (xCons (x2 gItem (xVar 1) (xVar 3)) (xCons (x2 gItem (xVar 2) (xC (.int 4))) (xNil))))) (yTup 3 (yCons (yName 5) (yCons (yName 6) (yCons (yName 7) (yNil)))))) (sRet (xA mkT (xCons (xVar 5) (xCons (xVar 6) (xCons (x2 gAdd (x2 gAdd (xSl gCut (xVar 1) (xNoPart) (xPart (xVar 3))) (xA mkT (xCons (xVar 7) (xNil)))) (xSl gCut (xVar 1) (xPart (x2 gAdd (xVar 3) (xC (.int 1)))) (xNoPart))) (xNil))))))))
def f_step : List AV → Hh → Out AV := defO 8 b_step
theorem s_step : FnScope ["sorts", "states", "call", "thing", "action", "goes", "told", "state"] ["sorts", "states", "call"] (defScope (top 70)) := ⟨rfl, rfl, rfl, by decide +kernel, rfl, by decide +kernel, by decide +kernel⟩
theorem d_step (T : Txt F mg) (h : At F mg "step" (top 70) ["sorts", "states", "call"]) (d__add : Dn P w F mg base 1 "_add" 3 f__add) (d__count : Dn P w F mg base 1 "_count" 3 f__count) (d__draw : Dn P w F mg base 1 "_draw" 3 f__draw) (d__enter : Dn P w F mg base 1 "_enter" 3 f__enter) (d__has : Dn P w F mg base 1 "_has" 3 f__has) (d__join : Dn P w F mg base 1 "_join" 3 f__join) (d__leave : Dn P w F mg base 1 "_leave" 3 f__leave) (d__put : Dn P w F mg base 1 "_put" 3 f__put) (d__read : Dn P w F mg base 1 "_read" 3 f__read) (d__take : Dn P w F mg base 1 "_take" 3 f__take) (d__write : Dn P w F mg base 1 "_write" 3 f__write) (k_ACTIONS : KdOk F w mg "ACTIONS" t_ACTIONS)   : Dn P w F mg base 2 "step" 3 f_step :=
  dn_at h s_step fun E f cdv A outer s H hr tk ow => by
    have nd : (["sorts", "states", "call", "thing", "action", "goes", "told", "state"] : List Str).Nodup := s_step.nd
    exact (css_cons (cs_set (i := 3) nd rfl (by first | exact .inl rfl | exact .inr rfl) (ce_ix rfl hr (ce_var 2 rfl (by first | exact .inl rfl | exact .inr (.inl rfl) | exact .inr (.inr rfl))) (ce_globI rfl T.g_THING))) (css_cons (cs_set (i := 4) nd rfl (by first | exact .inl rfl | exact .inr rfl) (ce_ixG k_ACTIONS rfl rfl (ce_ix rfl hr (ce_var 2 rfl (by first | exact .inl rfl | exact .inr (.inl rfl) | exact .inr (.inr rfl))) (ce_globI rfl T.g_WORD)))) (css_cons (cs_asg (ce_callV (i := 4) (n := 3) (tab := [("_add", f__add), ("_count", f__count), ("_draw", f__draw), ("_enter", f__enter), ("_has", f__has), ("_join", f__join), ("_leave", f__leave), ("_put", f__put), ("_read", f__read), ("_take", f__take), ("_write", f__write)]) rfl T.gl rfl (by first | exact .inl rfl | exact .inr (.inl rfl) | exact .inr (.inr rfl)) (by intro q hq; simp only [List.mem_cons, List.not_mem_nil, or_false] at hq; rcases hq with rfl | rfl | rfl | rfl | rfl | rfl | rfl | rfl | rfl | rfl | rfl; exact ⟨1, by decide, d__add⟩; exact ⟨1, by decide, d__count⟩; exact ⟨1, by decide, d__draw⟩; exact ⟨1, by decide, d__enter⟩; exact ⟨1, by decide, d__has⟩; exact ⟨1, by decide, d__join⟩; exact ⟨1, by decide, d__leave⟩; exact ⟨1, by decide, d__put⟩; exact ⟨1, by decide, d__read⟩; exact ⟨1, by decide, d__take⟩; exact ⟨1, by decide, d__write⟩) hr tk (ca_cons (ce_ix rfl hr (ce_var 0 rfl (by first | exact .inl rfl | exact .inr (.inl rfl) | exact .inr (.inr rfl))) (ce_var 3 rfl (by first | exact .inl rfl | exact .inr (.inl rfl) | exact .inr (.inr rfl)))) (ca_cons (ce_ix rfl hr (ce_var 1 rfl (by first | exact .inl rfl | exact .inr (.inl rfl) | exact .inr (.inr rfl))) (ce_var 3 rfl (by first | exact .inl rfl | exact .inr (.inl rfl) | exact .inr (.inr rfl)))) (ca_cons (ce_ix rfl hr (ce_var 2 rfl (by first | exact .inl rfl | exact .inr (.inl rfl) | exact .inr (.inr rfl))) (ce_globI rfl T.g_GIVEN)) ca_nil)))) (cg_tup rfl rfl (cgs_cons (cg_name 5 nd rfl (by first | exact .inl rfl | exact .inr rfl)) (cgs_cons (cg_name 6 nd rfl (by first | exact .inl rfl | exact .inr rfl)) (cgs_cons (cg_name 7 nd rfl (by first | exact .inl rfl | exact .inr rfl)) cgs_nil))))) (css_one (cs_ret (ce_tup (ca_cons (ce_var 5 rfl (by first | exact .inl rfl | exact .inr (.inl rfl) | exact .inr (.inr rfl))) (ca_cons (ce_var 6 rfl (by first | exact .inl rfl | exact .inr (.inl rfl) | exact .inr (.inr rfl))) (ca_cons (ce_bin opr_add (p_add rfl) (ce_bin opr_add (p_add rfl) (ce_sl rfl (ce_var 1 rfl (by first | exact .inl rfl | exact .inr (.inl rfl) | exact .inr (.inr rfl))) co_none (co_some (ce_var 3 rfl (by first | exact .inl rfl | exact .inr (.inl rfl) | exact .inr (.inr rfl))))) (ce_tup (ca_cons (ce_var 7 rfl (by first | exact .inl rfl | exact .inr (.inl rfl) | exact .inr (.inr rfl))) ca_nil))) (ce_sl rfl (ce_var 1 rfl (by first | exact .inl rfl | exact .inr (.inl rfl) | exact .inr (.inr rfl))) (co_some (ce_bin opr_add (p_add rfl) (ce_var 3 rfl (by first | exact .inl rfl | exact .inr (.inl rfl) | exact .inr (.inr rfl))) ce_int)) co_none)) ca_nil)))))))))

def b__number_of : EvS := sSeq (sFor (xEnumU (xCons (xVar 0) (xNil))) (yTup 2 (yCons (yName 3) (yCons (yName 4) (yNil)))) (sIf (xAnd (xTB (x2 (gEqD false) (x2 gItem (xVar 4) (xC (.int 3))) (xVar 1))) (xTB (x2 (gEqD false) (x2 gItem (xVar 4) (xC (.int 4))) (xVar 2)))) (sRet (xVar 3)) (sPass))) (sRet (xC .non))
def f__number_of : List AV → Hh → Out AV := defO 5 b__number_of
theorem s__number_of : FnScope ["calls", "word", "value", "number", "call"] ["calls", "word", "value"] (defScope (top 77)) := ⟨rfl, rfl, rfl, by decide +kernel, rfl, by decide +kernel, by decide +kernel⟩
theorem d__number_of (T : Txt F mg) (h : At F mg "_number_of" (top 77) ["calls", "word", "value"])     : Dn P w F mg base 1 "_number_of" 3 f__number_of :=
  dn_at h s__number_of fun E f cdv A outer s H hr tk ow => by
    have nd : (["calls", "word", "value", "number", "call"] : List Str).Nodup := s__number_of.nd
    exact (css_cons (cs_for ow rfl (ci_enumU rfl rfl T.b_enumerate (ca_cons (ce_var 0 rfl (by first | exact .inl rfl | exact .inr (.inl rfl) | exact .inr (.inr rfl))) ca_nil)) (cg_tup rfl rfl (cgs_cons (cg_name 3 nd rfl (by first | exact .inl rfl | exact .inr rfl)) (cgs_cons (cg_name 4 nd rfl (by first | exact .inl rfl | exact .inr rfl)) cgs_nil))) (css_one (cs_if (ct_w (cw_and (ct_cmp (opr_eq hr) p_eq (nomark _) (ce_ix rfl hr (ce_var 4 rfl (by first | exact .inl rfl | exact .inr (.inl rfl) | exact .inr (.inr rfl))) (ce_globI rfl T.g_WORD)) (ce_var 1 rfl (by first | exact .inl rfl | exact .inr (.inl rfl) | exact .inr (.inr rfl)))) (cw_and1 (ct_cmp (opr_eq hr) p_eq (nomark _) (ce_ix rfl hr (ce_var 4 rfl (by first | exact .inl rfl | exact .inr (.inl rfl) | exact .inr (.inr rfl))) (ce_globI rfl T.g_GIVEN)) (ce_var 2 rfl (by first | exact .inl rfl | exact .inr (.inl rfl) | exact .inr (.inr rfl))))))) (css_one (cs_ret (ce_var 3 rfl (by first | exact .inl rfl | exact .inr (.inl rfl) | exact .inr (.inr rfl))))) css_nil))) (css_one (cs_ret ce_non)))

def b__values_of : EvS := sRet (xSortSc (xIter (xVar 0)) (yName 1) (xYes) (x2 gItem (xVar 1) (xC (.int 4))) [1])
def f__values_of : List AV → Hh → Out AV := defO 2 b__values_of
theorem s__values_of : FnScope ["calls", "call"] ["calls"] (defScope (top 78)) := ⟨rfl, rfl, rfl, by decide +kernel, rfl, by decide +kernel, by decide +kernel⟩
theorem d__values_of (T : Txt F mg) (h : At F mg "_values_of" (top 78) ["calls"])     : Dn P w F mg base 1 "_values_of" 1 f__values_of :=
  dn_at h s__values_of fun E f cdv A outer s H hr tk ow => by
    have nd : (["calls", "call"] : List Str).Nodup := s__values_of.nd
    exact (css_one (cs_ret (ce_sortSc (own := [("call", 1)]) rfl nd rfl T.b_sorted (ci_seq rfl (ce_var 0 rfl (by first | exact .inl rfl | exact .inr (.inl rfl) | exact .inr (.inr rfl)))) (blkOk_by (N := ["calls", "call"]) (sc := (defScope (top 78))) (by decide +kernel)) ⟨_, fun _ _ _ _ _ => (pg_name (i := 1) nd rfl (by first | exact .inl rfl | exact .inr rfl)), (q_name 1)⟩ (by decide) (fun _ _ _ _ _ => cts_nil) (fun _ _ _ _ _ => (ce_ix rfl hr (ce_var 1 rfl (by first | exact .inl rfl | exact .inr (.inl rfl) | exact .inr (.inr rfl))) (ce_globI rfl T.g_GIVEN))))))

def b__is_strange : EvS := sRet (xAndT (x2 (gEqD false) (x2 gItem (x2 gItem (xVar 0) (xVar 1)) (xC (.int 3))) (xC (.str "leave"))) (x2 (gIs false) (xA (onN 3 f__number_of) (xCons (xVar 0) (xCons (xC (.str "enter")) (xCons (x2 gItem (x2 gItem (xVar 0) (xVar 1)) (xC (.int 4))) (xNil))))) (xC .non)))
def f__is_strange : List AV → Hh → Out AV := defO 2 b__is_strange
theorem s__is_strange : FnScope ["calls", "number"] ["calls", "number"] (defScope (top 79)) := ⟨rfl, rfl, rfl, by decide +kernel, rfl, by decide +kernel, by decide +kernel⟩
theorem d__is_strange (T : Txt F mg) (h : At F mg "_is_strange" (top 79) ["calls", "number"]) (d__number_of : Dn P w F mg base 1 "_number_of" 3 f__number_of)    : Dn P w F mg base 2 "_is_strange" 2 f__is_strange :=
  dn_at h s__is_strange fun E f cdv A outer s H hr tk ow => by
    have nd : (["calls", "number"] : List Str).Nodup := s__is_strange.nd
    exact (css_one (cs_ret (ce_and rfl (ce_cmp (opr_eq hr) p_eq (nomark _) (ce_ix rfl hr (ce_ix rfl hr (ce_var 0 rfl (by first | exact .inl rfl | exact .inr (.inl rfl) | exact .inr (.inr rfl))) (ce_var 1 rfl (by first | exact .inl rfl | exact .inr (.inl rfl) | exact .inr (.inr rfl)))) (ce_globI rfl T.g_WORD)) ce_str) (ce_one (ce_cmp op_isN p_is (nomark _) (ce_call d__number_of rfl (by omega) hr tk rfl (ca_cons (ce_var 0 rfl (by first | exact .inl rfl | exact .inr (.inl rfl) | exact .inr (.inr rfl))) (ca_cons ce_str (ca_cons (ce_ix rfl hr (ce_ix rfl hr (ce_var 0 rfl (by first | exact .inl rfl | exact .inr (.inl rfl) | exact .inr (.inr rfl))) (ce_var 1 rfl (by first | exact .inl rfl | exact .inr (.inl rfl) | exact .inr (.inr rfl)))) (ce_globI rfl T.g_GIVEN)) ca_nil)))) ce_non)))))

def b__is_early : EvS := sSeq (sAsg (xA (onN 3 f__number_of) (xCons (xVar 0) (xCons (xC (.str "enter")) (xCons (x2 gItem (x2 gItem (xVar 0) (xVar 1)) (xC (.int 4))) (xNil))))) (yName 2)) (sRet (xAndT (x2 (gEqD false) (x2 gItem (x2 gItem (xVar 0) (xVar 1)) (xC (.int 3))) (xC (.str "leave"))) (xAndT (x2 (gIs true) (xVar 2) (xC .non)) (xA (onN 2 f_leads) (xCons (x2 gItem (xVar 0) (xVar 1)) (xCons (x2 gItem (xVar 0) (xVar 2)) (xNil)))))))
def f__is_early : List AV → Hh → Out AV := defO 3 b__is_early
theorem s__is_early : FnScope ["calls", "number", "enter"] ["calls", "number"] (defScope (top 80)) := ⟨rfl, rfl, rfl, by decide +kernel, rfl, by decide +kernel, by decide +kernel⟩
theorem d__is_early (T : Txt F mg) (h : At F mg "_is_early" (top 80) ["calls", "number"]) (d__number_of : Dn P w F mg base 1 "_number_of" 3 f__number_of) (d_leads : Dn P w F mg base 1 "leads" 2 f_leads)    : Dn P w F mg base 2 "_is_early" 2 f__is_early :=
  dn_at h s__is_early fun E f cdv A outer s H hr tk ow => by
    have nd : (["calls", "number", "enter"] : List Str).Nodup := s__is_early.nd
    exact (css_cons (cs_set (i := 2) nd rfl (by first | exact .inl rfl | exact .inr rfl) (ce_call d__number_of rfl (by omega) hr tk rfl (ca_cons (ce_var 0 rfl (by first | exact .inl rfl | exact .inr (.inl rfl) | exact .inr (.inr rfl))) (ca_cons ce_str (ca_cons (ce_ix rfl hr (ce_ix rfl hr (ce_var 0 rfl (by first | exact .inl rfl | exact .inr (.inl rfl) | exact .inr (.inr rfl))) (ce_var 1 rfl (by first | exact .inl rfl | exact .inr (.inl rfl) | exact .inr (.inr rfl)))) (ce_globI rfl T.g_GIVEN)) ca_nil))))) (css_one (cs_ret (ce_and rfl (ce_cmp (opr_eq hr) p_eq (nomark _) (ce_ix rfl hr (ce_ix rfl hr (ce_var 0 rfl (by first | exact .inl rfl | exact .inr (.inl rfl) | exact .inr (.inr rfl))) (ce_var 1 rfl (by first | exact .inl rfl | exact .inr (.inl rfl) | exact .inr (.inr rfl)))) (ce_globI rfl T.g_WORD)) ce_str) (ce_and rfl (ce_cmp op_notN p_isnot (nomark _) (ce_var 2 rfl (by first | exact .inl rfl | exact .inr (.inl rfl) | exact .inr (.inr rfl))) ce_non) (ce_one (ce_call d_leads rfl (by omega) hr tk rfl (ca_cons (ce_ix rfl hr (ce_var 0 rfl (by first | exact .inl rfl | exact .inr (.inl rfl) | exact .inr (.inr rfl))) (ce_var 1 rfl (by first | exact .inl rfl | exact .inr (.inl rfl) | exact .inr (.inr rfl)))) (ca_cons (ce_ix rfl hr (ce_var 0 rfl (by first | exact .inl rfl | exact .inr (.inl rfl) | exact .inr (.inr rfl))) (ce_var 2 rfl (by first | exact .inl rfl | exact .inr (.inl rfl) | exact .inr (.inr rfl)))) ca_nil)))))))))

def b_odd_leaves : EvS := sSeq (sAsg (xA gRange (xCons (xA gLenU (xCons (xVar 0) (xNil))) (xNil))) (yName 1)) (sSeq (sAsg (xLc (xIter (xVar 1)) (yName 3) (xTru (xA (onN 2 f__is_strange) (xCons (xVar 0) (xCons (xVar 3) (xNil))))) (xA mkT (xCons (xC (.str "strange")) (xCons (xVar 3) (xNil)))) [3]) (yName 2)) (sRet (x2 gAdd (xVar 2) (xLc (xIter (xVar 1)) (yName 3) (xTru (xA (onN 2 f__is_early) (xCons (xVar 0) (xCons (xVar 3) (xNil))))) (xA mkT (xCons (xC (.str "early")) (xCons (xVar 3) (xNil)))) [3]))))
def f_odd_leaves : List AV → Hh → Out AV := defO 4 b_odd_leaves
theorem s_odd_leaves : FnScope ["calls", "numbers", "strange", "number"] ["calls"] (defScope (top 81)) := ⟨rfl, rfl, rfl, by decide +kernel, rfl, by decide +kernel, by decide +kernel⟩
theorem d_odd_leaves (T : Txt F mg) (h : At F mg "odd_leaves" (top 81) ["calls"]) (d__is_strange : Dn P w F mg base 2 "_is_strange" 2 f__is_strange) (d__is_early : Dn P w F mg base 2 "_is_early" 2 f__is_early)    : Dn P w F mg base 3 "odd_leaves" 1 f_odd_leaves :=
  dn_at h s_odd_leaves fun E f cdv A outer s H hr tk ow => by
    have nd : (["calls", "numbers", "strange", "number"] : List Str).Nodup := s_odd_leaves.nd
    exact (css_cons (cs_set (i := 1) nd rfl (by first | exact .inl rfl | exact .inr rfl) (ce_callTy cr_range1 p_range rfl T.b_range (by decide +kernel) (ca_cons (ce_lenU rfl rfl T.b_len (ca_cons (ce_var 0 rfl (by first | exact .inl rfl | exact .inr (.inl rfl) | exact .inr (.inr rfl))) ca_nil)) ca_nil))) (css_cons (by first | exact (cs_setLc (i := 2) (own := [("number", 3)]) rfl nd rfl rfl (sw_true rfl rfl rfl (by decide +kernel)) (ci_seq rfl (ce_var 1 rfl (by first | exact .inl rfl | exact .inr (.inl rfl) | exact .inr (.inr rfl)))) (blkOk_by (N := ["calls", "numbers", "strange", "number"]) (sc := (defScope (top 81))) (by decide +kernel)) ⟨_, fun _ _ _ _ _ => (pg_name (i := 3) nd rfl (by first | exact .inl rfl | exact .inr rfl)), (q_name 3)⟩ (by decide) (fun _ _ _ _ _ => (cts_one (ct_truth rfl (ce_call d__is_strange rfl (by omega) hr takes0 rfl (ca_cons (ce_var 0 rfl (by first | exact .inl rfl | exact .inr (.inl rfl) | exact .inr (.inr rfl))) (ca_cons (ce_var 3 rfl (by first | exact .inl rfl | exact .inr (.inl rfl) | exact .inr (.inr rfl))) ca_nil)))))) (fun _ _ _ _ _ => (ce_tup (ca_cons ce_str (ca_cons (ce_var 3 rfl (by first | exact .inl rfl | exact .inr (.inl rfl) | exact .inr (.inr rfl))) ca_nil))))) | exact (cs_set (i := 2) nd rfl (by first | exact .inl rfl | exact .inr rfl) (ce_lc (own := [("number", 3)]) rfl nd (ci_seq rfl (ce_var 1 rfl (by first | exact .inl rfl | exact .inr (.inl rfl) | exact .inr (.inr rfl)))) (blkOk_by (N := ["calls", "numbers", "strange", "number"]) (sc := (defScope (top 81))) (by decide +kernel)) ⟨_, fun _ _ _ _ _ => (pg_name (i := 3) nd rfl (by first | exact .inl rfl | exact .inr rfl)), (q_name 3)⟩ (by decide) (fun _ _ _ _ _ => (cts_one (ct_truth rfl (ce_call d__is_strange rfl (by omega) hr takes0 rfl (ca_cons (ce_var 0 rfl (by first | exact .inl rfl | exact .inr (.inl rfl) | exact .inr (.inr rfl))) (ca_cons (ce_var 3 rfl (by first | exact .inl rfl | exact .inr (.inl rfl) | exact .inr (.inr rfl))) ca_nil)))))) (fun _ _ _ _ _ => (ce_tup (ca_cons ce_str (ca_cons (ce_var 3 rfl (by first | exact .inl rfl | exact .inr (.inl rfl) | exact .inr (.inr rfl))) ca_nil))))))) (css_one (cs_ret (ce_bin opr_add (p_add rfl) (ce_var 2 rfl (by first | exact .inl rfl | exact .inr (.inl rfl) | exact .inr (.inr rfl))) (ce_lc (own := [("number", 3)]) rfl nd (ci_seq rfl (ce_var 1 rfl (by first | exact .inl rfl | exact .inr (.inl rfl) | exact .inr (.inr rfl)))) (blkOk_by (N := ["calls", "numbers", "strange", "number"]) (sc := (defScope (top 81))) (by decide +kernel)) ⟨_, fun _ _ _ _ _ => (pg_name (i := 3) nd rfl (by first | exact .inl rfl | exact .inr rfl)), (q_name 3)⟩ (by decide) (fun _ _ _ _ _ => (cts_one (ct_truth rfl (ce_call d__is_early rfl (by omega) hr takes0 rfl (ca_cons (ce_var 0 rfl (by first | exact .inl rfl | exact .inr (.inl rfl) | exact .inr (.inr rfl))) (ca_cons (ce_var 3 rfl (by first | exact .inl rfl | exact .inr (.inl rfl) | exact .inr (.inr rfl))) ca_nil)))))) (fun _ _ _ _ _ => (ce_tup (ca_cons ce_str (ca_cons (ce_var 3 rfl (by first | exact .inl rfl | exact .inr (.inl rfl) | exact .inr (.inr rfl))) ca_nil))))))))))

def b__is_moment : EvS := sRet (xAndT (xA (onN 1 f_is_value) (xCons (xVar 1) (xNil))) (x2 (gInU false) (xVar 1) (xA (onN 1 f_moments_of) (xCons (xVar 0) (xNil)))))
def f__is_moment : List AV → Hh → Out AV := defO 2 b__is_moment
theorem s__is_moment : FnScope ["calls", "thing"] ["calls", "thing"] (defScope (top 83)) := ⟨rfl, rfl, rfl, by decide +kernel, rfl, by decide +kernel, by decide +kernel⟩
theorem d__is_moment (T : Txt F mg) (h : At F mg "_is_moment" (top 83) ["calls", "thing"]) (d_is_value : Dn P w F mg base 2 "is_value" 1 f_is_value) (d_moments_of : Dn P w F mg base 1 "moments_of" 1 f_moments_of)    : Dn P w F mg base 3 "_is_moment" 2 f__is_moment :=
  dn_at h s__is_moment fun E f cdv A outer s H hr tk ow => by
    have nd : (["calls", "thing"] : List Str).Nodup := s__is_moment.nd
    exact (css_one (cs_ret (ce_and rfl (ce_call d_is_value rfl (by omega) hr tk rfl (ca_cons (ce_var 1 rfl (by first | exact .inl rfl | exact .inr (.inl rfl) | exact .inr (.inr rfl))) ca_nil)) (ce_one (ce_cmp (opr_inU hr) (p_inU rfl false) (by with_unfolding_all rfl) (ce_var 1 rfl (by first | exact .inl rfl | exact .inr (.inl rfl) | exact .inr (.inr rfl))) (ce_call d_moments_of rfl (by omega) hr tk rfl (ca_cons (ce_var 0 rfl (by first | exact .inl rfl | exact .inr (.inl rfl) | exact .inr (.inr rfl))) ca_nil)))))))

def b_crowd_of : EvS := sSeq (sAsg (xLc (xIter (xVar 0)) (yName 4) (xAnd (xTB (x2 (gEqD false) (x2 gItem (xVar 4) (xC (.int 3))) (xC (.str "leave")))) (xTB (x2 gLe (x2 gItem (xVar 4) (xC (.int 0))) (xVar 1)))) (x2 gItem (xVar 4) (xC (.int 4))) [4]) (yName 2)) (sSeq (sAsg (xLc (xIter (xVar 0)) (yName 4) (xAnd (xTB (x2 (gEqD false) (x2 gItem (xVar 4) (xC (.int 3))) (xC (.str "enter")))) (xTB (x2 gLe (x2 gItem (xVar 4) (xC (.int 1))) (xVar 1)))) (x2 gItem (xVar 4) (xC (.int 4))) [4]) (yName 3)) (sRet (xA gTupU (xCons (xA gSortU2 (xCons (xLc (xIter (xVar 3)) (yName 5) (xTB (x2 (gInU true) (xVar 5) (xVar 2))) (xVar 5) [5]) (xNil))) (xNil)))))
def f_crowd_of : List AV → Hh → Out AV := defO 6 b_crowd_of
theorem s_crowd_of : FnScope ["calls", "moment", "gone", "came", "call", "value"] ["calls", "moment"] (defScope (top 84)) := ⟨rfl, rfl, rfl, by decide +kernel, rfl, by decide +kernel, by decide +kernel⟩
theorem d_crowd_of (T : Txt F mg) (h : At F mg "crowd_of" (top 84) ["calls", "moment"])     : Dn P w F mg base 1 "crowd_of" 2 f_crowd_of :=
  dn_at h s_crowd_of fun E f cdv A outer s H hr tk ow => by
    have nd : (["calls", "moment", "gone", "came", "call", "value"] : List Str).Nodup := s_crowd_of.nd
    exact (css_cons (by first | exact (cs_setLc (i := 2) (own := [("call", 4)]) rfl nd rfl rfl (sw_true rfl rfl rfl (by decide +kernel)) (ci_seq rfl (ce_var 0 rfl (by first | exact .inl rfl | exact .inr (.inl rfl) | exact .inr (.inr rfl)))) (blkOk_by (N := ["calls", "moment", "gone", "came", "call", "value"]) (sc := (defScope (top 84))) (by decide +kernel)) ⟨_, fun _ _ _ _ _ => (pg_name (i := 4) nd rfl (by first | exact .inl rfl | exact .inr rfl)), (q_name 4)⟩ (by decide) (fun _ _ _ _ _ => (cts_one (ct_w (cw_and (ct_cmp (opr_eq hr) p_eq (nomark _) (ce_ix rfl hr (ce_var 4 rfl (by first | exact .inl rfl | exact .inr (.inl rfl) | exact .inr (.inr rfl))) (ce_globI rfl T.g_WORD)) ce_str) (cw_and1 (ct_cmp op_le p_le (nomark _) (ce_ix rfl hr (ce_var 4 rfl (by first | exact .inl rfl | exact .inr (.inl rfl) | exact .inr (.inr rfl))) (ce_globI rfl T.g_BEGIN)) (ce_var 1 rfl (by first | exact .inl rfl | exact .inr (.inl rfl) | exact .inr (.inr rfl))))))))) (fun _ _ _ _ _ => (ce_ix rfl hr (ce_var 4 rfl (by first | exact .inl rfl | exact .inr (.inl rfl) | exact .inr (.inr rfl))) (ce_globI rfl T.g_GIVEN)))) | exact (cs_set (i := 2) nd rfl (by first | exact .inl rfl | exact .inr rfl) (ce_lc (own := [("call", 4)]) rfl nd (ci_seq rfl (ce_var 0 rfl (by first | exact .inl rfl | exact .inr (.inl rfl) | exact .inr (.inr rfl)))) (blkOk_by (N := ["calls", "moment", "gone", "came", "call", "value"]) (sc := (defScope (top 84))) (by decide +kernel)) ⟨_, fun _ _ _ _ _ => (pg_name (i := 4) nd rfl (by first | exact .inl rfl | exact .inr rfl)), (q_name 4)⟩ (by decide) (fun _ _ _ _ _ => (cts_one (ct_w (cw_and (ct_cmp (opr_eq hr) p_eq (nomark _) (ce_ix rfl hr (ce_var 4 rfl (by first | exact .inl rfl | exact .inr (.inl rfl) | exact .inr (.inr rfl))) (ce_globI rfl T.g_WORD)) ce_str) (cw_and1 (ct_cmp op_le p_le (nomark _) (ce_ix rfl hr (ce_var 4 rfl (by first | exact .inl rfl | exact .inr (.inl rfl) | exact .inr (.inr rfl))) (ce_globI rfl T.g_BEGIN)) (ce_var 1 rfl (by first | exact .inl rfl | exact .inr (.inl rfl) | exact .inr (.inr rfl))))))))) (fun _ _ _ _ _ => (ce_ix rfl hr (ce_var 4 rfl (by first | exact .inl rfl | exact .inr (.inl rfl) | exact .inr (.inr rfl))) (ce_globI rfl T.g_GIVEN)))))) (css_cons (by first | exact (cs_setLc (i := 3) (own := [("call", 4)]) rfl nd rfl rfl (sw_true rfl rfl rfl (by decide +kernel)) (ci_seq rfl (ce_var 0 rfl (by first | exact .inl rfl | exact .inr (.inl rfl) | exact .inr (.inr rfl)))) (blkOk_by (N := ["calls", "moment", "gone", "came", "call", "value"]) (sc := (defScope (top 84))) (by decide +kernel)) ⟨_, fun _ _ _ _ _ => (pg_name (i := 4) nd rfl (by first | exact .inl rfl | exact .inr rfl)), (q_name 4)⟩ (by decide) (fun _ _ _ _ _ => (cts_one (ct_w (cw_and (ct_cmp (opr_eq hr) p_eq (nomark _) (ce_ix rfl hr (ce_var 4 rfl (by first | exact .inl rfl | exact .inr (.inl rfl) | exact .inr (.inr rfl))) (ce_globI rfl T.g_WORD)) ce_str) (cw_and1 (ct_cmp op_le p_le (nomark _) (ce_ix rfl hr (ce_var 4 rfl (by first | exact .inl rfl | exact .inr (.inl rfl) | exact .inr (.inr rfl))) (ce_globI rfl T.g_END)) (ce_var 1 rfl (by first | exact .inl rfl | exact .inr (.inl rfl) | exact .inr (.inr rfl))))))))) (fun _ _ _ _ _ => (ce_ix rfl hr (ce_var 4 rfl (by first | exact .inl rfl | exact .inr (.inl rfl) | exact .inr (.inr rfl))) (ce_globI rfl T.g_GIVEN)))) | exact (cs_set (i := 3) nd rfl (by first | exact .inl rfl | exact .inr rfl) (ce_lc (own := [("call", 4)]) rfl nd (ci_seq rfl (ce_var 0 rfl (by first | exact .inl rfl | exact .inr (.inl rfl) | exact .inr (.inr rfl)))) (blkOk_by (N := ["calls", "moment", "gone", "came", "call", "value"]) (sc := (defScope (top 84))) (by decide +kernel)) ⟨_, fun _ _ _ _ _ => (pg_name (i := 4) nd rfl (by first | exact .inl rfl | exact .inr rfl)), (q_name 4)⟩ (by decide) (fun _ _ _ _ _ => (cts_one (ct_w (cw_and (ct_cmp (opr_eq hr) p_eq (nomark _) (ce_ix rfl hr (ce_var 4 rfl (by first | exact .inl rfl | exact .inr (.inl rfl) | exact .inr (.inr rfl))) (ce_globI rfl T.g_WORD)) ce_str) (cw_and1 (ct_cmp op_le p_le (nomark _) (ce_ix rfl hr (ce_var 4 rfl (by first | exact .inl rfl | exact .inr (.inl rfl) | exact .inr (.inr rfl))) (ce_globI rfl T.g_END)) (ce_var 1 rfl (by first | exact .inl rfl | exact .inr (.inl rfl) | exact .inr (.inr rfl))))))))) (fun _ _ _ _ _ => (ce_ix rfl hr (ce_var 4 rfl (by first | exact .inl rfl | exact .inr (.inl rfl) | exact .inr (.inr rfl))) (ce_globI rfl T.g_GIVEN)))))) (css_one (cs_ret (ce_tupleU rfl rfl rfl T.b_tuple (ca_cons (ce_sorted2 rfl rfl rfl T.b_sorted (ca_cons (ce_lc (own := [("value", 5)]) rfl nd (ci_seq rfl (ce_var 3 rfl (by first | exact .inl rfl | exact .inr (.inl rfl) | exact .inr (.inr rfl)))) (blkOk_by (N := ["calls", "moment", "gone", "came", "call", "value"]) (sc := (defScope (top 84))) (by decide +kernel)) ⟨_, fun _ _ _ _ _ => (pg_name (i := 5) nd rfl (by first | exact .inl rfl | exact .inr rfl)), (q_name 5)⟩ (by decide) (fun _ _ _ _ _ => (cts_one (ct_cmp (opr_ninU hr) (p_inU rfl true) (by with_unfolding_all rfl) (ce_var 5 rfl (by first | exact .inl rfl | exact .inr (.inl rfl) | exact .inr (.inr rfl))) (ce_var 2 rfl (by first | exact .inl rfl | exact .inr (.inl rfl) | exact .inr (.inr rfl)))))) (fun _ _ _ _ _ => (ce_var 5 rfl (by first | exact .inl rfl | exact .inr (.inl rfl) | exact .inr (.inr rfl))))) ca_nil)) ca_nil))))))

def b__is_free : EvS := sSeq (sAsg (xA (onN 3 f__number_of) (xCons (xVar 0) (xCons (xC (.str "enter")) (xCons (xVar 1) (xNil))))) (yName 2)) (sSeq (sAsg (xA (onN 3 f__number_of) (xCons (xVar 0) (xCons (xC (.str "leave")) (xCons (xVar 1) (xNil))))) (yName 3)) (sRet (xAndT (x2 (gIs true) (xVar 2) (xC .non)) (xAndT (x2 (gIs true) (xVar 3) (xC .non)) (x2 gLt (x2 gItem (x2 gItem (xVar 0) (xVar 3)) (xC (.int 0))) (x2 gItem (x2 gItem (xVar 0) (xVar 2)) (xC (.int 1))))))))
def f__is_free : List AV → Hh → Out AV := defO 4 b__is_free
theorem s__is_free : FnScope ["calls", "value", "enter", "leave"] ["calls", "value"] (defScope (top 87)) := ⟨rfl, rfl, rfl, by decide +kernel, rfl, by decide +kernel, by decide +kernel⟩
theorem d__is_free (T : Txt F mg) (h : At F mg "_is_free" (top 87) ["calls", "value"]) (d__number_of : Dn P w F mg base 1 "_number_of" 3 f__number_of)    : Dn P w F mg base 2 "_is_free" 2 f__is_free :=
  dn_at h s__is_free fun E f cdv A outer s H hr tk ow => by
    have nd : (["calls", "value", "enter", "leave"] : List Str).Nodup := s__is_free.nd
    exact (css_cons (cs_set (i := 2) nd rfl (by first | exact .inl rfl | exact .inr rfl) (ce_call d__number_of rfl (by omega) hr tk rfl (ca_cons (ce_var 0 rfl (by first | exact .inl rfl | exact .inr (.inl rfl) | exact .inr (.inr rfl))) (ca_cons ce_str (ca_cons (ce_var 1 rfl (by first | exact .inl rfl | exact .inr (.inl rfl) | exact .inr (.inr rfl))) ca_nil))))) (css_cons (cs_set (i := 3) nd rfl (by first | exact .inl rfl | exact .inr rfl) (ce_call d__number_of rfl (by omega) hr tk rfl (ca_cons (ce_var 0 rfl (by first | exact .inl rfl | exact .inr (.inl rfl) | exact .inr (.inr rfl))) (ca_cons ce_str (ca_cons (ce_var 1 rfl (by first | exact .inl rfl | exact .inr (.inl rfl) | exact .inr (.inr rfl))) ca_nil))))) (css_one (cs_ret (ce_and rfl (ce_cmp op_notN p_isnot (nomark _) (ce_var 2 rfl (by first | exact .inl rfl | exact .inr (.inl rfl) | exact .inr (.inr rfl))) ce_non) (ce_and rfl (ce_cmp op_notN p_isnot (nomark _) (ce_var 3 rfl (by first | exact .inl rfl | exact .inr (.inl rfl) | exact .inr (.inr rfl))) ce_non) (ce_one (ce_cmp op_lt p_lt (nomark _) (ce_ix rfl hr (ce_ix rfl hr (ce_var 0 rfl (by first | exact .inl rfl | exact .inr (.inl rfl) | exact .inr (.inr rfl))) (ce_var 3 rfl (by first | exact .inl rfl | exact .inr (.inl rfl) | exact .inr (.inr rfl)))) (ce_globI rfl T.g_BEGIN)) (ce_ix rfl hr (ce_ix rfl hr (ce_var 0 rfl (by first | exact .inl rfl | exact .inr (.inl rfl) | exact .inr (.inr rfl))) (ce_var 2 rfl (by first | exact .inl rfl | exact .inr (.inl rfl) | exact .inr (.inr rfl)))) (ce_globI rfl T.g_END))))))))))

def b_window_in : EvS := sSeq (sAsg (xLc (xIter (xVar 0)) (yName 5) (xTB (x2 (gEqD false) (x2 gItem (xVar 5) (xC (.int 4))) (xVar 1))) (xVar 5) [5]) (yName 2)) (sSeq (sAsg (xA gMaxU (xCons (xLc (xIter (xVar 2)) (yName 5) (xYes) (x2 gItem (xVar 5) (xC (.int 0))) [5]) (xNil))) (yName 3)) (sSeq (sAsg (xA gMinU (xCons (xLc (xIter (xVar 2)) (yName 5) (xYes) (x2 gItem (xVar 5) (xC (.int 1))) [5]) (xNil))) (yName 4)) (sRet (xLc (xIter (xA (onN 1 f_moments_of) (xCons (xVar 0) (xNil)))) (yName 6) (xTB (xCh gLe gLt (xVar 3) (xVar 6) (xVar 4))) (xVar 6) [6]))))
def f_window_in : List AV → Hh → Out AV := defO 7 b_window_in
theorem s_window_in : FnScope ["calls", "value", "both", "begin", "end", "call", "moment"] ["calls", "value"] (defScope (top 89)) := ⟨rfl, rfl, rfl, by decide +kernel, rfl, by decide +kernel, by decide +kernel⟩
theorem d_window_in (T : Txt F mg) (h : At F mg "window_in" (top 89) ["calls", "value"]) (d_moments_of : Dn P w F mg base 1 "moments_of" 1 f_moments_of)    : Dn P w F mg base 2 "window_in" 2 f_window_in :=
  dn_at h s_window_in fun E f cdv A outer s H hr tk ow => by
    have nd : (["calls", "value", "both", "begin", "end", "call", "moment"] : List Str).Nodup := s_window_in.nd
    exact (css_cons (by first | exact (cs_setLc (i := 2) (own := [("call", 5)]) rfl nd rfl rfl (sw_true rfl rfl rfl (by decide +kernel)) (ci_seq rfl (ce_var 0 rfl (by first | exact .inl rfl | exact .inr (.inl rfl) | exact .inr (.inr rfl)))) (blkOk_by (N := ["calls", "value", "both", "begin", "end", "call", "moment"]) (sc := (defScope (top 89))) (by decide +kernel)) ⟨_, fun _ _ _ _ _ => (pg_name (i := 5) nd rfl (by first | exact .inl rfl | exact .inr rfl)), (q_name 5)⟩ (by decide) (fun _ _ _ _ _ => (cts_one (ct_cmp (opr_eq hr) p_eq (nomark _) (ce_ix rfl hr (ce_var 5 rfl (by first | exact .inl rfl | exact .inr (.inl rfl) | exact .inr (.inr rfl))) (ce_globI rfl T.g_GIVEN)) (ce_var 1 rfl (by first | exact .inl rfl | exact .inr (.inl rfl) | exact .inr (.inr rfl)))))) (fun _ _ _ _ _ => (ce_var 5 rfl (by first | exact .inl rfl | exact .inr (.inl rfl) | exact .inr (.inr rfl))))) | exact (cs_set (i := 2) nd rfl (by first | exact .inl rfl | exact .inr rfl) (ce_lc (own := [("call", 5)]) rfl nd (ci_seq rfl (ce_var 0 rfl (by first | exact .inl rfl | exact .inr (.inl rfl) | exact .inr (.inr rfl)))) (blkOk_by (N := ["calls", "value", "both", "begin", "end", "call", "moment"]) (sc := (defScope (top 89))) (by decide +kernel)) ⟨_, fun _ _ _ _ _ => (pg_name (i := 5) nd rfl (by first | exact .inl rfl | exact .inr rfl)), (q_name 5)⟩ (by decide) (fun _ _ _ _ _ => (cts_one (ct_cmp (opr_eq hr) p_eq (nomark _) (ce_ix rfl hr (ce_var 5 rfl (by first | exact .inl rfl | exact .inr (.inl rfl) | exact .inr (.inr rfl))) (ce_globI rfl T.g_GIVEN)) (ce_var 1 rfl (by first | exact .inl rfl | exact .inr (.inl rfl) | exact .inr (.inr rfl)))))) (fun _ _ _ _ _ => (ce_var 5 rfl (by first | exact .inl rfl | exact .inr (.inl rfl) | exact .inr (.inr rfl))))))) (css_cons (cs_set (i := 3) nd rfl (by first | exact .inl rfl | exact .inr rfl) (ce_max rfl rfl rfl T.b_max (ca_cons (ce_lc (own := [("call", 5)]) rfl nd (ci_seq rfl (ce_var 2 rfl (by first | exact .inl rfl | exact .inr (.inl rfl) | exact .inr (.inr rfl)))) (blkOk_by (N := ["calls", "value", "both", "begin", "end", "call", "moment"]) (sc := (defScope (top 89))) (by decide +kernel)) ⟨_, fun _ _ _ _ _ => (pg_name (i := 5) nd rfl (by first | exact .inl rfl | exact .inr rfl)), (q_name 5)⟩ (by decide) (fun _ _ _ _ _ => cts_nil) (fun _ _ _ _ _ => (ce_ix rfl hr (ce_var 5 rfl (by first | exact .inl rfl | exact .inr (.inl rfl) | exact .inr (.inr rfl))) (ce_globI rfl T.g_BEGIN)))) ca_nil))) (css_cons (cs_set (i := 4) nd rfl (by first | exact .inl rfl | exact .inr rfl) (ce_min rfl rfl rfl T.b_min (ca_cons (ce_lc (own := [("call", 5)]) rfl nd (ci_seq rfl (ce_var 2 rfl (by first | exact .inl rfl | exact .inr (.inl rfl) | exact .inr (.inr rfl)))) (blkOk_by (N := ["calls", "value", "both", "begin", "end", "call", "moment"]) (sc := (defScope (top 89))) (by decide +kernel)) ⟨_, fun _ _ _ _ _ => (pg_name (i := 5) nd rfl (by first | exact .inl rfl | exact .inr rfl)), (q_name 5)⟩ (by decide) (fun _ _ _ _ _ => cts_nil) (fun _ _ _ _ _ => (ce_ix rfl hr (ce_var 5 rfl (by first | exact .inl rfl | exact .inr (.inl rfl) | exact .inr (.inr rfl))) (ce_globI rfl T.g_END)))) ca_nil))) (css_one (cs_ret (ce_lc (own := [("moment", 6)]) rfl nd (ci_seq rfl (ce_call d_moments_of rfl (by omega) hr tk rfl (ca_cons (ce_var 0 rfl (by first | exact .inl rfl | exact .inr (.inl rfl) | exact .inr (.inr rfl))) ca_nil))) (blkOk_by (N := ["calls", "value", "both", "begin", "end", "call", "moment"]) (sc := (defScope (top 89))) (by decide +kernel)) ⟨_, fun _ _ _ _ _ => (pg_name (i := 6) nd rfl (by first | exact .inl rfl | exact .inr rfl)), (q_name 6)⟩ (by decide) (fun _ _ _ _ _ => (cts_one (ct_cmp2 op_le op_lt p_le p_lt (ce_var 3 rfl (by first | exact .inl rfl | exact .inr (.inl rfl) | exact .inr (.inr rfl))) (ce_var 6 rfl (by first | exact .inl rfl | exact .inr (.inl rfl) | exact .inr (.inr rfl))) (ce_var 4 rfl (by first | exact .inl rfl | exact .inr (.inl rfl) | exact .inr (.inr rfl)))))) (fun _ _ _ _ _ => (ce_var 6 rfl (by first | exact .inl rfl | exact .inr (.inl rfl) | exact .inr (.inr rfl))))))))))

def b__is_covered : EvS := sRet (xGx true (xIter (xA (onN 2 f_window_in) (xCons (xVar 0) (xCons (xVar 2) (xNil))))) (yName 3) (xYes) (x2 gGe (xA gLenU (xCons (xA (onN 2 f_crowd_of) (xCons (xVar 0) (xCons (xVar 3) (xNil)))) (xNil))) (xVar 1)) [3])
def f__is_covered : List AV → Hh → Out AV := defO 4 b__is_covered
theorem s__is_covered : FnScope ["calls", "size", "value", "moment"] ["calls", "size", "value"] (defScope (top 92)) := ⟨rfl, rfl, rfl, by decide +kernel, rfl, by decide +kernel, by decide +kernel⟩
theorem d__is_covered (T : Txt F mg) (h : AtC F mg base "_is_covered" (top 92) ["calls", "size", "value"]) (d_window_in : Dn P w F mg base 2 "window_in" 2 f_window_in) (d_crowd_of : Dn P w F mg base 1 "crowd_of" 2 f_crowd_of)    : Dn P w F mg base 4 "_is_covered" 3 f__is_covered :=
  dn_atC h s__is_covered fun E f tc tp A outer s H hr tk ow TB hP => by
    have nd : (["calls", "size", "value", "moment"] : List Str).Nodup := s__is_covered.nd
    exact (css_one (cs_ret (ce_all (own := [("moment", 3)]) (P := tp) hP hr rfl T.b_all ⟨TB, rfl, blkOk_by (N := ["calls", "size", "value", "moment"]) (sc := (defScope (top 92))) (by decide +kernel), by decide +kernel, by decide +kernel, rfl, nd, rfl, fun _ => rfl⟩ (ci_seq rfl (ce_call d_window_in rfl (by omega) hr tk rfl (ca_cons (ce_var 0 rfl (by first | exact .inl rfl | exact .inr (.inl rfl) | exact .inr (.inr rfl))) (ca_cons (ce_var 2 rfl (by first | exact .inl rfl | exact .inr (.inl rfl) | exact .inr (.inr rfl))) ca_nil)))) ⟨_, fun _ _ _ _ _ _ _ => (pg_name (i := 3) nd rfl (by first | exact .inl rfl | exact .inr rfl)), (q_name 3)⟩ (by decide) (fun _ _ _ _ _ _ hB => cts_nil) (fun _ _ _ _ _ _ hB => (ce_cmp op_ge p_ge (nomark _) (ce_lenU rfl rfl T.b_len (ca_cons (ce_call d_crowd_of rfl (by omega) hB takes0 rfl (ca_cons (ce_var 0 rfl (by first | exact .inl rfl | exact .inr (.inl rfl) | exact .inr (.inr rfl))) (ca_cons (ce_var 3 rfl (by first | exact .inl rfl | exact .inr (.inl rfl) | exact .inr (.inr rfl))) ca_nil))) ca_nil)) (ce_var 1 rfl (by first | exact .inl rfl | exact .inr (.inl rfl) | exact .inr (.inr rfl))))))))

def b__roomy_moment : EvS := sRet (xA gMinU (xCons (xLc (xIter (xA (onN 2 f_window_in) (xCons (xVar 0) (xCons (xVar 2) (xNil))))) (yName 3) (xTB (x2 gLt (xA gLenU (xCons (xA (onN 2 f_crowd_of) (xCons (xVar 0) (xCons (xVar 3) (xNil)))) (xNil))) (xVar 1))) (xVar 3) [3]) (xNil)))
def f__roomy_moment : List AV → Hh → Out AV := defO 4 b__roomy_moment
theorem s__roomy_moment : FnScope ["calls", "size", "value", "moment"] ["calls", "size", "value"] (defScope (top 94)) := ⟨rfl, rfl, rfl, by decide +kernel, rfl, by decide +kernel, by decide +kernel⟩
theorem d__roomy_moment (T : Txt F mg) (h : At F mg "_roomy_moment" (top 94) ["calls", "size", "value"]) (d_window_in : Dn P w F mg base 2 "window_in" 2 f_window_in) (d_crowd_of : Dn P w F mg base 1 "crowd_of" 2 f_crowd_of)    : Dn P w F mg base 3 "_roomy_moment" 3 f__roomy_moment :=
  dn_at h s__roomy_moment fun E f cdv A outer s H hr tk ow => by
    have nd : (["calls", "size", "value", "moment"] : List Str).Nodup := s__roomy_moment.nd
    exact (css_one (cs_ret (ce_min rfl rfl rfl T.b_min (ca_cons (ce_lc (own := [("moment", 3)]) rfl nd (ci_seq rfl (ce_call d_window_in rfl (by omega) hr tk rfl (ca_cons (ce_var 0 rfl (by first | exact .inl rfl | exact .inr (.inl rfl) | exact .inr (.inr rfl))) (ca_cons (ce_var 2 rfl (by first | exact .inl rfl | exact .inr (.inl rfl) | exact .inr (.inr rfl))) ca_nil)))) (blkOk_by (N := ["calls", "size", "value", "moment"]) (sc := (defScope (top 94))) (by decide +kernel)) ⟨_, fun _ _ _ _ _ => (pg_name (i := 3) nd rfl (by first | exact .inl rfl | exact .inr rfl)), (q_name 3)⟩ (by decide) (fun _ _ _ _ _ => (cts_one (ct_cmp op_lt p_lt (nomark _) (ce_lenU rfl rfl T.b_len (ca_cons (ce_call d_crowd_of rfl (by omega) hr takes0 rfl (ca_cons (ce_var 0 rfl (by first | exact .inl rfl | exact .inr (.inl rfl) | exact .inr (.inr rfl))) (ca_cons (ce_var 3 rfl (by first | exact .inl rfl | exact .inr (.inl rfl) | exact .inr (.inr rfl))) ca_nil))) ca_nil)) (ce_var 1 rfl (by first | exact .inl rfl | exact .inr (.inl rfl) | exact .inr (.inr rfl)))))) (fun _ _ _ _ _ => (ce_var 3 rfl (by first | exact .inl rfl | exact .inr (.inl rfl) | exact .inr (.inr rfl))))) ca_nil))))

def b__values_over : EvS := sSeq (sAsg (xA mkL (xCons (xVar 1) (xNil))) (yName 2)) (sSeq (sFor (xIter (xA (onN 2 f_window_in) (xCons (xVar 0) (xCons (xVar 1) (xNil))))) (yName 3) (sDrop (xBad))) (sRet (xVar 2)))
def f__values_over : List AV → Hh → Out AV := defO 4 b__values_over
theorem s__values_over : FnScope ["calls", "value", "values", "moment"] ["calls", "value"] (defScope (top 98)) := ⟨rfl, rfl, rfl, by decide +kernel, rfl, by decide +kernel, by decide +kernel⟩
theorem d__values_over (T : Txt F mg) (h : At F mg "_values_over" (top 98) ["calls", "value"]) (d_window_in : Dn P w F mg base 2 "window_in" 2 f_window_in)    : Dn P w F mg base 3 "_values_over" 2 f__values_over :=
  dn_at h s__values_over fun E f cdv A outer s H hr tk ow => by
    have nd : (["calls", "value", "values", "moment"] : List Str).Nodup := s__values_over.nd
    exact (css_cons (cs_set (i := 2) nd rfl (by first | exact .inl rfl | exact .inr rfl) (ce_lst (ca_cons (ce_var 1 rfl (by first | exact .inl rfl | exact .inr (.inl rfl) | exact .inr (.inr rfl))) ca_nil))) (css_cons (cs_for ow rfl (ci_seq rfl (ce_call d_window_in rfl (by omega) hr tk rfl (ca_cons (ce_var 0 rfl (by first | exact .inl rfl | exact .inr (.inl rfl) | exact .inr (.inr rfl))) (ca_cons (ce_var 1 rfl (by first | exact .inl rfl | exact .inr (.inl rfl) | exact .inr (.inr rfl))) ca_nil)))) (cg_name 3 nd rfl (by first | exact .inl rfl | exact .inr rfl)) (css_one (cs_expr ce_bad))) (css_one (cs_ret (ce_var 2 rfl (by first | exact .inl rfl | exact .inr (.inl rfl) | exact .inr (.inr rfl)))))))

def b__law_mixed : EvS := sSeq (sAsg (x2 gMod (xA (g1 gInt) (xCons (xVar 0) (xNil))) (xC (.int 2147483647))) (yName 0)) (sRet (x2 gMod (x2 gMulU (x2 gMod (x2 gAdd (x2 gAdd (x2 gMulU (xVar 0) (x2 gAdd (xC (.int 48271)) (x2 gMulU (x2 gMulU (xC (.int 2)) (xVar 1)) (xVar 1)))) (x2 gMulU (xC (.int 69621)) (xVar 1))) (xC (.int 11))) (xC (.int 2147483647))) (xC (.int 69621))) (xC (.int 2147483629))))
def f__law_mixed : List AV → Hh → Out AV := defO 2 b__law_mixed
theorem s__law_mixed : FnScope ["_law_cell", "_law_k"] ["_law_cell", "_law_k"] (defScope (top 103)) := ⟨rfl, rfl, rfl, by decide +kernel, rfl, by decide +kernel, by decide +kernel⟩
theorem d__law_mixed (T : Txt F mg) (h : At F mg "_law_mixed" (top 103) ["_law_cell", "_law_k"])     : Dn P w F mg base 1 "_law_mixed" 2 f__law_mixed :=
  dn_at h s__law_mixed fun E f cdv A outer s H hr tk ow => by
    have nd : (["_law_cell", "_law_k"] : List Str).Nodup := s__law_mixed.nd
    exact (css_cons (cs_set (i := 0) nd rfl (by first | exact .inl rfl | exact .inr rfl) (ce_bin op_mod p_mod (ce_callTy call_int1 p_int rfl T.b_int (by decide +kernel) (ca_cons (ce_var 0 rfl (by first | exact .inl rfl | exact .inr (.inl rfl) | exact .inr (.inr rfl))) ca_nil)) ce_int)) (css_one (cs_ret (ce_bin op_mod p_mod (ce_bin opr_mulU (p_mulU rfl) (ce_bin op_mod p_mod (ce_bin opr_add (p_add rfl) (ce_bin opr_add (p_add rfl) (ce_bin opr_mulU (p_mulU rfl) (ce_var 0 rfl (by first | exact .inl rfl | exact .inr (.inl rfl) | exact .inr (.inr rfl))) (ce_bin opr_add (p_add rfl) ce_int (ce_bin opr_mulU (p_mulU rfl) (ce_bin opr_mulU (p_mulU rfl) ce_int (ce_var 1 rfl (by first | exact .inl rfl | exact .inr (.inl rfl) | exact .inr (.inr rfl)))) (ce_var 1 rfl (by first | exact .inl rfl | exact .inr (.inl rfl) | exact .inr (.inr rfl)))))) (ce_bin opr_mulU (p_mulU rfl) ce_int (ce_var 1 rfl (by first | exact .inl rfl | exact .inr (.inl rfl) | exact .inr (.inr rfl))))) ce_int) ce_int) ce_int) ce_int))))

def b__law_begin : EvS := sSeq (sAsg (xIf (xTB (x2 (gEqD true) (xVar 0) (xA mkL (xNil)))) (xA gListU2 (xCons (xVar 0) (xNil))) (xA mkL (xCons (xC (.int 0)) (xNil)))) (yName 1)) (sRet (xDisp [(xC (.str "cells"), xVar 1), (xC (.str "lefts"), xLc (xIter (xVar 1)) (yName 2) (xYes) (xIf (xTB (x2 gGe (xVar 2) (x2 gPow (xC (.int 10)) (xC (.int 18))))) (xVar 2) (xC (.int 0))) [2]), (xC (.str "at"), xC (.int 0)), (xC (.str "room"), xC (.int 0))]))
def f__law_begin : List AV → Hh → Out AV := defO 3 b__law_begin
theorem s__law_begin : FnScope ["_law_script", "_law_cells_so", "_law_cell"] ["_law_script"] (defScope (top 104)) := ⟨rfl, rfl, rfl, by decide +kernel, rfl, by decide +kernel, by decide +kernel⟩
theorem d__law_begin (T : Txt F mg) (h : At F mg "_law_begin" (top 104) ["_law_script"])     : Dn P w F mg base 1 "_law_begin" 1 f__law_begin :=
  dn_at h s__law_begin fun E f cdv A outer s H hr tk ow => by
    have nd : (["_law_script", "_law_cells_so", "_law_cell"] : List Str).Nodup := s__law_begin.nd
    exact (css_cons (cs_set (i := 1) nd rfl (by first | exact .inl rfl | exact .inr rfl) (ce_if (ct_cmp (opr_ne hr) p_ne (nomark _) (ce_var 0 rfl (by first | exact .inl rfl | exact .inr (.inl rfl) | exact .inr (.inr rfl))) (ce_lst ca_nil)) (ce_list2 rfl rfl rfl T.b_list (ca_cons (ce_var 0 rfl (by first | exact .inl rfl | exact .inr (.inl rfl) | exact .inr (.inr rfl))) ca_nil)) (ce_lst (ca_cons ce_int ca_nil)))) (css_one (cs_ret (ce (pe_disp (pps_cons ce_str (ce_var 1 rfl (by first | exact .inl rfl | exact .inr (.inl rfl) | exact .inr (.inr rfl))) (pps_cons ce_str (ce_lc (own := [("_law_cell", 2)]) rfl nd (ci_seq rfl (ce_var 1 rfl (by first | exact .inl rfl | exact .inr (.inl rfl) | exact .inr (.inr rfl)))) (blkOk_by (N := ["_law_script", "_law_cells_so", "_law_cell"]) (sc := (defScope (top 104))) (by decide +kernel)) ⟨_, fun _ _ _ _ _ => (pg_name (i := 2) nd rfl (by first | exact .inl rfl | exact .inr rfl)), (q_name 2)⟩ (by decide) (fun _ _ _ _ _ => cts_nil) (fun _ _ _ _ _ => (ce_if (ct_cmp op_ge p_ge (nomark _) (ce_var 2 rfl (by first | exact .inl rfl | exact .inr (.inl rfl) | exact .inr (.inr rfl))) (ce_bin op_pow p_pow ce_int ce_int)) (ce_var 2 rfl (by first | exact .inl rfl | exact .inr (.inl rfl) | exact .inr (.inr rfl))) ce_int))) (pps_cons ce_str ce_int (pps_cons ce_str ce_int pps_nil)))) rfl rfl (by simp) (by decide)) (x_disp (.cons (rdE_ok _) (rdE_ok _) (.cons (rdE_ok _) (rdE_ok _) (.cons (rdE_ok _) (rdE_ok _) (.cons (rdE_ok _) (rdE_ok _) .nil)))))))))

def b__law_draw : EvS := sSeq (sAsg (x2 gItem (xVar 0) (xC (.str "at"))) (yName 2)) (sSeq (sPutU (xVar 0) (xC (.str "at")) (x2 gAdd (xVar 2) (xC (.int 1)))) (sSeq (sAsg (x2 gMod (xA (g1 gInt) (xCons (xVar 2) (xNil))) (xA (g1 gLen) (xCons (x2 gItem (xVar 0) (xC (.str "cells"))) (xNil)))) (yName 3)) (sSeq (sAsg (x2 gItem (x2 gItem (xVar 0) (xC (.str "lefts"))) (xVar 3)) (yName 4)) (sSeq (sIf (xTB (x2 gGt (xVar 4) (xC (.int 0)))) (sSeq (sPutU (x2 gItem (xVar 0) (xC (.str "lefts"))) (xVar 3) (x2 gFDiv (xVar 4) (xVar 1))) (sRet (x2 gMod (xA (g1 gInt) (xCons (xVar 4) (xNil))) (xVar 1)))) (sPass)) (sSeq (sAsg (xA (onN 2 f__law_mixed) (xCons (xA (onN 2 f__law_mixed) (xCons (x2 gItem (x2 gItem (xVar 0) (xC (.str "cells"))) (xVar 3)) (xCons (xVar 2) (xNil)))) (xCons (x2 gAdd (xC (.int 40)) (xVar 2)) (xNil)))) (yName 5)) (sRet (x2 gMod (x2 gFDiv (xA (g1 gInt) (xCons (x2 gAdd (x2 gMulU (xVar 5) (xC (.int 2147483647))) (xA (onN 2 f__law_mixed) (xCons (xVar 5) (xCons (x2 gAdd (xC (.int 7)) (xVar 2)) (xNil))))) (xNil))) (xC (.int 64))) (xVar 1))))))))
def f__law_draw : List AV → Hh → Out AV := defO 6 b__law_draw
theorem s__law_draw : FnScope ["_law_state", "_law_many", "_law_at", "_law_place", "_law_left", "_law_number"] ["_law_state", "_law_many"] (defScope (top 105)) := ⟨rfl, rfl, rfl, by decide +kernel, rfl, by decide +kernel, by decide +kernel⟩
theorem d__law_draw (T : Txt F mg) (h : At F mg "_law_draw" (top 105) ["_law_state", "_law_many"]) (d__law_mixed : Dn P w F mg base 1 "_law_mixed" 2 f__law_mixed)    : Dn P w F mg base 2 "_law_draw" 2 f__law_draw :=
  dn_at h s__law_draw fun E f cdv A outer s H hr tk ow => by
    have nd : (["_law_state", "_law_many", "_law_at", "_law_place", "_law_left", "_law_number"] : List Str).Nodup := s__law_draw.nd
    exact (css_cons (cs_set (i := 2) nd rfl (by first | exact .inl rfl | exact .inr rfl) (ce_ix rfl hr (ce_var 0 rfl (by first | exact .inl rfl | exact .inr (.inl rfl) | exact .inr (.inr rfl))) ce_str)) (css_cons (cs_putU hr (ce_var 0 rfl (by first | exact .inl rfl | exact .inr (.inl rfl) | exact .inr (.inr rfl))) ce_str (ce_bin opr_add (p_add rfl) (ce_var 2 rfl (by first | exact .inl rfl | exact .inr (.inl rfl) | exact .inr (.inr rfl))) ce_int)) (css_cons (cs_set (i := 3) nd rfl (by first | exact .inl rfl | exact .inr rfl) (ce_bin op_mod p_mod (ce_callTy call_int1 p_int rfl T.b_int (by decide +kernel) (ca_cons (ce_var 2 rfl (by first | exact .inl rfl | exact .inr (.inl rfl) | exact .inr (.inr rfl))) ca_nil)) (ce_callB call_len_seq p_len rfl T.b_len (by decide +kernel) (ca_cons (ce_ix rfl hr (ce_var 0 rfl (by first | exact .inl rfl | exact .inr (.inl rfl) | exact .inr (.inr rfl))) ce_str) ca_nil)))) (css_cons (cs_set (i := 4) nd rfl (by first | exact .inl rfl | exact .inr rfl) (ce_ix rfl hr (ce_ix rfl hr (ce_var 0 rfl (by first | exact .inl rfl | exact .inr (.inl rfl) | exact .inr (.inr rfl))) ce_str) (ce_var 3 rfl (by first | exact .inl rfl | exact .inr (.inl rfl) | exact .inr (.inr rfl))))) (css_cons (cs_if (ct_cmp op_gt p_gt (nomark _) (ce_var 4 rfl (by first | exact .inl rfl | exact .inr (.inl rfl) | exact .inr (.inr rfl))) ce_int) (css_cons (cs_putU hr (ce_ix rfl hr (ce_var 0 rfl (by first | exact .inl rfl | exact .inr (.inl rfl) | exact .inr (.inr rfl))) ce_str) (ce_var 3 rfl (by first | exact .inl rfl | exact .inr (.inl rfl) | exact .inr (.inr rfl))) (ce_bin op_fdiv p_fdiv (ce_var 4 rfl (by first | exact .inl rfl | exact .inr (.inl rfl) | exact .inr (.inr rfl))) (ce_var 1 rfl (by first | exact .inl rfl | exact .inr (.inl rfl) | exact .inr (.inr rfl))))) (css_one (cs_ret (ce_bin op_mod p_mod (ce_callTy call_int1 p_int rfl T.b_int (by decide +kernel) (ca_cons (ce_var 4 rfl (by first | exact .inl rfl | exact .inr (.inl rfl) | exact .inr (.inr rfl))) ca_nil)) (ce_var 1 rfl (by first | exact .inl rfl | exact .inr (.inl rfl) | exact .inr (.inr rfl))))))) css_nil) (css_cons (cs_set (i := 5) nd rfl (by first | exact .inl rfl | exact .inr rfl) (ce_call d__law_mixed rfl (by omega) hr tk rfl (ca_cons (ce_call d__law_mixed rfl (by omega) hr tk rfl (ca_cons (ce_ix rfl hr (ce_ix rfl hr (ce_var 0 rfl (by first | exact .inl rfl | exact .inr (.inl rfl) | exact .inr (.inr rfl))) ce_str) (ce_var 3 rfl (by first | exact .inl rfl | exact .inr (.inl rfl) | exact .inr (.inr rfl)))) (ca_cons (ce_var 2 rfl (by first | exact .inl rfl | exact .inr (.inl rfl) | exact .inr (.inr rfl))) ca_nil))) (ca_cons (ce_bin opr_add (p_add rfl) ce_int (ce_var 2 rfl (by first | exact .inl rfl | exact .inr (.inl rfl) | exact .inr (.inr rfl)))) ca_nil)))) (css_one (cs_ret (ce_bin op_mod p_mod (ce_bin op_fdiv p_fdiv (ce_callTy call_int1 p_int rfl T.b_int (by decide +kernel) (ca_cons (ce_bin opr_add (p_add rfl) (ce_bin opr_mulU (p_mulU rfl) (ce_var 5 rfl (by first | exact .inl rfl | exact .inr (.inl rfl) | exact .inr (.inr rfl))) ce_int) (ce_call d__law_mixed rfl (by omega) hr tk rfl (ca_cons (ce_var 5 rfl (by first | exact .inl rfl | exact .inr (.inl rfl) | exact .inr (.inr rfl))) (ca_cons (ce_bin opr_add (p_add rfl) ce_int (ce_var 2 rfl (by first | exact .inl rfl | exact .inr (.inl rfl) | exact .inr (.inr rfl)))) ca_nil)))) ca_nil)) ce_int) (ce_var 1 rfl (by first | exact .inl rfl | exact .inr (.inl rfl) | exact .inr (.inr rfl))))))))))))

def b__law_heard : EvS := sSeq (sIf (xTru (xA (gIsV isq) (xCons (xVar 4) (xCons (xC (.gl "BadPaper")) (xNil))))) (sRet (xA mkT (xCons (xC (.str "paper")) (xCons (xFld flq "part" (xVar 4)) (xNil))))) (sPass)) (sSeq (sAsg (xA mkL (xCons (xA mkT (xCons (xC (.str "history")) (xCons (xA (gIsV isq) (xCons (xVar 4) (xCons (xC (.gl "BadHistory")) (xNil)))) (xNil)))) (xCons (xA mkT (xCons (xC (.str "value")) (xCons (xA (gIsV isq) (xCons (xVar 4) (xCons (xC (.gl "BadValue")) (xNil)))) (xNil)))) (xNil)))) (yName 1)) (sSeq (sAsg (x2 gAdd (xVar 1) (xA mkL (xCons (xA mkT (xCons (xC (.str "number")) (xCons (xA (gIsV isq) (xCons (xVar 4) (xCons (xC (.gl "BadNumber")) (xNil)))) (xNil)))) (xCons (xA mkT (xCons (xC (.str "moment")) (xCons (xA (gIsV isq) (xCons (xVar 4) (xCons (xC (.gl "BadMoment")) (xNil)))) (xNil)))) (xNil))))) (yName 1)) (sSeq (sAsg (xLc (xIter (xVar 1)) (yTup 2 (yCons (yName 5) (yCons (yName 6) (yNil)))) (xTru (xVar 6)) (xVar 5) [5, 6]) (yName 2)) (sSeq (sIf (xTB (x2 (gIs false) (xVar 4) (xC .non))) (sRet (xA mkL (xCons (xVar 3) (xNil)))) (sPass)) (sRet (xIf (xTB (x2 (gEqD false) (xA (g1 gLen) (xCons (xVar 2) (xNil))) (xC (.int 1)))) (xA mkT (xCons (x2 gItem (xVar 2) (xC (.int 0))) (xCons (xFld flq "given" (xVar 4)) (xNil)))) (xA mkT (xCons (xC (.str "else")) (xCons (xC (.int 0)) (xNil))))))))))
def f__law_heard (θ : Hh → Out AV) (h : Hh) : Out AV := heardF 8 3 4 7 subq b__law_heard θ h
theorem s__law_heard : FnScope ["_law_call", "_law_kinds", "_law_words", "_law_found", "_law_caught", "_law_word", "_law_is_so", "error"] ["_law_call"] (defScope (top 106)) := ⟨rfl, rfl, rfl, by decide +kernel, rfl, by decide +kernel, by decide +kernel⟩
theorem hr__law_heard {k : Nat} (T : Txt F mg) (g : Addr) (cdv : Value) (A : Around) (outer : List Env) (s : Shared) (H : Hp) (hr : Room k (A.deeper (envOfC "_law_heard" (defScope (top 106)) s.heap.objs.size g cdv))) : CSs (cxOf (L2.CX P w) P w F.K mg base ["_law_call", "_law_kinds", "_law_words", "_law_found", "_law_caught", "_law_word", "_law_is_so", "error"] "_law_heard" (defScope (top 106)) g cdv A outer s H (fun _ _ _ => False)) F (fun _ _ _ _ => False) ((defBody (top 106)).drop 2) b__law_heard := by
    have nd : (["_law_call", "_law_kinds", "_law_words", "_law_found", "_law_caught", "_law_word", "_law_is_so", "error"] : List Str).Nodup := s__law_heard.nd
    exact (css_cons (cs_if (ct_truth rfl (ce_isV T.is_ rfl rfl T.b_isinstance (ca_cons (ce_var 4 rfl (by first | exact .inl rfl | exact .inr (.inl rfl) | exact .inr (.inr rfl))) (ca_cons (ce_cls rfl T.c_BadPaper) ca_nil)))) (css_one (cs_ret (ce_tup (ca_cons ce_str (ca_cons (ce_fld T.fl_ rfl (ce_var 4 rfl (by first | exact .inl rfl | exact .inr (.inl rfl) | exact .inr (.inr rfl)))) ca_nil))))) css_nil) (css_cons (cs_set (i := 1) nd rfl (by first | exact .inl rfl | exact .inr rfl) (ce_lst (ca_cons (ce_tup (ca_cons ce_str (ca_cons (ce_isV T.is_ rfl rfl T.b_isinstance (ca_cons (ce_var 4 rfl (by first | exact .inl rfl | exact .inr (.inl rfl) | exact .inr (.inr rfl))) (ca_cons (ce_cls rfl T.c_BadHistory) ca_nil))) ca_nil))) (ca_cons (ce_tup (ca_cons ce_str (ca_cons (ce_isV T.is_ rfl rfl T.b_isinstance (ca_cons (ce_var 4 rfl (by first | exact .inl rfl | exact .inr (.inl rfl) | exact .inr (.inr rfl))) (ca_cons (ce_cls rfl T.c_BadValue) ca_nil))) ca_nil))) ca_nil)))) (css_cons (cs_set (i := 1) nd rfl (by first | exact .inl rfl | exact .inr rfl) (ce_bin opr_add (p_add rfl) (ce_var 1 rfl (by first | exact .inl rfl | exact .inr (.inl rfl) | exact .inr (.inr rfl))) (ce_lst (ca_cons (ce_tup (ca_cons ce_str (ca_cons (ce_isV T.is_ rfl rfl T.b_isinstance (ca_cons (ce_var 4 rfl (by first | exact .inl rfl | exact .inr (.inl rfl) | exact .inr (.inr rfl))) (ca_cons (ce_cls rfl T.c_BadNumber) ca_nil))) ca_nil))) (ca_cons (ce_tup (ca_cons ce_str (ca_cons (ce_isV T.is_ rfl rfl T.b_isinstance (ca_cons (ce_var 4 rfl (by first | exact .inl rfl | exact .inr (.inl rfl) | exact .inr (.inr rfl))) (ca_cons (ce_cls rfl T.c_BadMoment) ca_nil))) ca_nil))) ca_nil))))) (css_cons (by first | exact (cs_setLc (i := 2) (own := [("_law_word", 5), ("_law_is_so", 6)]) rfl nd rfl rfl (sw_true rfl rfl rfl (by decide +kernel)) (ci_seq rfl (ce_var 1 rfl (by first | exact .inl rfl | exact .inr (.inl rfl) | exact .inr (.inr rfl)))) (blkOk_by (N := ["_law_call", "_law_kinds", "_law_words", "_law_found", "_law_caught", "_law_word", "_law_is_so", "error"]) (sc := (defScope (top 106))) (by decide +kernel)) ⟨_, fun _ _ _ _ _ => (pg_tup rfl (pgs_cons (pg_name (i := 5) nd rfl (by first | exact .inl rfl | exact .inr rfl)) (pgs_cons (pg_name (i := 6) nd rfl (by first | exact .inl rfl | exact .inr rfl)) pgs_nil))), (q_tup (q_cons (q_name 5) (q_cons (q_name 6) q_nil)))⟩ (by decide) (fun _ _ _ _ _ => (cts_one (ct_truth rfl (ce_var 6 rfl (by first | exact .inl rfl | exact .inr (.inl rfl) | exact .inr (.inr rfl)))))) (fun _ _ _ _ _ => (ce_var 5 rfl (by first | exact .inl rfl | exact .inr (.inl rfl) | exact .inr (.inr rfl))))) | exact (cs_set (i := 2) nd rfl (by first | exact .inl rfl | exact .inr rfl) (ce_lc (own := [("_law_word", 5), ("_law_is_so", 6)]) rfl nd (ci_seq rfl (ce_var 1 rfl (by first | exact .inl rfl | exact .inr (.inl rfl) | exact .inr (.inr rfl)))) (blkOk_by (N := ["_law_call", "_law_kinds", "_law_words", "_law_found", "_law_caught", "_law_word", "_law_is_so", "error"]) (sc := (defScope (top 106))) (by decide +kernel)) ⟨_, fun _ _ _ _ _ => (pg_tup rfl (pgs_cons (pg_name (i := 5) nd rfl (by first | exact .inl rfl | exact .inr rfl)) (pgs_cons (pg_name (i := 6) nd rfl (by first | exact .inl rfl | exact .inr rfl)) pgs_nil))), (q_tup (q_cons (q_name 5) (q_cons (q_name 6) q_nil)))⟩ (by decide) (fun _ _ _ _ _ => (cts_one (ct_truth rfl (ce_var 6 rfl (by first | exact .inl rfl | exact .inr (.inl rfl) | exact .inr (.inr rfl)))))) (fun _ _ _ _ _ => (ce_var 5 rfl (by first | exact .inl rfl | exact .inr (.inl rfl) | exact .inr (.inr rfl))))))) (css_cons (cs_if (ct_cmp op_isN p_is (nomark _) (ce_var 4 rfl (by first | exact .inl rfl | exact .inr (.inl rfl) | exact .inr (.inr rfl))) ce_non) (css_one (cs_ret (ce_lst (ca_cons (ce_var 3 rfl (by first | exact .inl rfl | exact .inr (.inl rfl) | exact .inr (.inr rfl))) ca_nil)))) css_nil) (css_one (cs_ret (ce_if (ct_cmp (opr_eq hr) p_eq (nomark _) (ce_callB call_len_seq p_len rfl T.b_len (by decide +kernel) (ca_cons (ce_var 2 rfl (by first | exact .inl rfl | exact .inr (.inl rfl) | exact .inr (.inr rfl))) ca_nil)) ce_int) (ce_tup (ca_cons (ce_ix rfl hr (ce_var 2 rfl (by first | exact .inl rfl | exact .inr (.inl rfl) | exact .inr (.inr rfl))) ce_int) (ca_cons (ce_fld T.fl_ rfl (ce_var 4 rfl (by first | exact .inl rfl | exact .inr (.inl rfl) | exact .inr (.inr rfl)))) ca_nil))) (ce_tup (ca_cons ce_str (ca_cons ce_int ca_nil)))))))))))

def b_can_be_given : EvS := sRet (xA (onN 2 f__has_form) (xCons (xVar 1) (xCons (x2 gItem (xIxG t_FORMS_kinds (xVar 0)) (xC (.int 0))) (xNil))))
def f_can_be_given : List AV → Hh → Out AV := defO 2 b_can_be_given
theorem s_can_be_given : FnScope ["word", "thing"] ["word", "thing"] (defScope (top 23)) := ⟨rfl, rfl, rfl, by decide +kernel, rfl, by decide +kernel, by decide +kernel⟩
theorem d_can_be_given (T : Txt F mg) (h : At F mg "can_be_given" (top 23) ["word", "thing"]) (d__has_form : Dn P w F mg base 3 "_has_form" 2 f__has_form) (k_FORMS_kinds : KdOk F w mg "FORMS_kinds" t_FORMS_kinds)   : Dn P w F mg base 4 "can_be_given" 2 f_can_be_given :=
  dn_at h s_can_be_given fun E f cdv A outer s H hr tk ow => by
    have nd : (["word", "thing"] : List Str).Nodup := s_can_be_given.nd
    exact (css_one (cs_ret (ce_call d__has_form rfl (by omega) hr tk rfl (ca_cons (ce_var 1 rfl (by first | exact .inl rfl | exact .inr (.inl rfl) | exact .inr (.inr rfl))) (ca_cons (ce_ix rfl hr (ce_ixG k_FORMS_kinds rfl rfl (ce_var 0 rfl (by first | exact .inl rfl | exact .inr (.inl rfl) | exact .inr (.inr rfl)))) ce_int) ca_nil)))))

def b_can_be_told : EvS := sRet (xA (onN 2 f__has_form) (xCons (xVar 1) (xCons (x2 gItem (xIxG t_FORMS_kinds (xVar 0)) (xC (.int 1))) (xNil))))
def f_can_be_told : List AV → Hh → Out AV := defO 2 b_can_be_told
theorem s_can_be_told : FnScope ["word", "thing"] ["word", "thing"] (defScope (top 24)) := ⟨rfl, rfl, rfl, by decide +kernel, rfl, by decide +kernel, by decide +kernel⟩
theorem d_can_be_told (T : Txt F mg) (h : At F mg "can_be_told" (top 24) ["word", "thing"]) (d__has_form : Dn P w F mg base 3 "_has_form" 2 f__has_form) (k_FORMS_kinds : KdOk F w mg "FORMS_kinds" t_FORMS_kinds)   : Dn P w F mg base 4 "can_be_told" 2 f_can_be_told :=
  dn_at h s_can_be_told fun E f cdv A outer s H hr tk ow => by
    have nd : (["word", "thing"] : List Str).Nodup := s_can_be_told.nd
    exact (css_one (cs_ret (ce_call d__has_form rfl (by omega) hr tk rfl (ca_cons (ce_var 1 rfl (by first | exact .inl rfl | exact .inr (.inl rfl) | exact .inr (.inr rfl))) (ca_cons (ce_ix rfl hr (ce_ixG k_FORMS_kinds rfl rfl (ce_var 0 rfl (by first | exact .inl rfl | exact .inr (.inl rfl) | exact .inr (.inr rfl)))) ce_int) ca_nil)))))

def b_is_asking : EvS := sSeq (sAsg (xVar 1) (yTup 3 (yCons (yName 2) (yCons (yName 3) (yCons (yName 4) (yNil)))))) (sSeq (sIf (xOr (xNot (xTru (xA (onN 2 f_is_number_below) (xCons (xVar 2) (xCons (xA gLenU (xCons (xVar 0) (xNil))) (xNil)))))) (xNot (xTru (xA (onN 2 f_is_word_of) (xCons (xVar 3) (xCons (x2 gItem (xVar 0) (xVar 2)) (xNil))))))) (sRet (xC (.bl false))) (sPass)) (sRet (xA (onN 2 f_can_be_given) (xCons (xVar 3) (xCons (xVar 4) (xNil))))))
def f_is_asking : List AV → Hh → Out AV := defO 5 b_is_asking
theorem s_is_asking : FnScope ["sorts", "thing", "place", "word", "given"] ["sorts", "thing"] (defScope (top 40)) := ⟨rfl, rfl, rfl, by decide +kernel, rfl, by decide +kernel, by decide +kernel⟩
theorem d_is_asking (T : Txt F mg) (h : At F mg "is_asking" (top 40) ["sorts", "thing"]) (d_is_number_below : Dn P w F mg base 2 "is_number_below" 2 f_is_number_below) (d_is_word_of : Dn P w F mg base 2 "is_word_of" 2 f_is_word_of) (d_can_be_given : Dn P w F mg base 4 "can_be_given" 2 f_can_be_given)    : Dn P w F mg base 5 "is_asking" 2 f_is_asking :=
  dn_at h s_is_asking fun E f cdv A outer s H hr tk ow => by
    have nd : (["sorts", "thing", "place", "word", "given"] : List Str).Nodup := s_is_asking.nd
    exact (css_cons (cs_asg (ce_var 1 rfl (by first | exact .inl rfl | exact .inr (.inl rfl) | exact .inr (.inr rfl))) (cg_tup rfl rfl (cgs_cons (cg_name 2 nd rfl (by first | exact .inl rfl | exact .inr rfl)) (cgs_cons (cg_name 3 nd rfl (by first | exact .inl rfl | exact .inr rfl)) (cgs_cons (cg_name 4 nd rfl (by first | exact .inl rfl | exact .inr rfl)) cgs_nil))))) (css_cons (cs_if (ct_w (cw_or (ct_not (ct_truth rfl (ce_call d_is_number_below rfl (by omega) hr tk rfl (ca_cons (ce_var 2 rfl (by first | exact .inl rfl | exact .inr (.inl rfl) | exact .inr (.inr rfl))) (ca_cons (ce_lenU rfl rfl T.b_len (ca_cons (ce_var 0 rfl (by first | exact .inl rfl | exact .inr (.inl rfl) | exact .inr (.inr rfl))) ca_nil)) ca_nil))))) (cw_or1 (ct_not (ct_truth rfl (ce_call d_is_word_of rfl (by omega) hr tk rfl (ca_cons (ce_var 3 rfl (by first | exact .inl rfl | exact .inr (.inl rfl) | exact .inr (.inr rfl))) (ca_cons (ce_ix rfl hr (ce_var 0 rfl (by first | exact .inl rfl | exact .inr (.inl rfl) | exact .inr (.inr rfl))) (ce_var 2 rfl (by first | exact .inl rfl | exact .inr (.inl rfl) | exact .inr (.inr rfl)))) ca_nil)))))))) (css_one (cs_ret ce_bl)) css_nil) (css_one (cs_ret (ce_call d_can_be_given rfl (by omega) hr tk rfl (ca_cons (ce_var 3 rfl (by first | exact .inl rfl | exact .inr (.inl rfl) | exact .inr (.inr rfl))) (ca_cons (ce_var 4 rfl (by first | exact .inl rfl | exact .inr (.inl rfl) | exact .inr (.inr rfl))) ca_nil)))))))

def b__keep_moments : EvS := sRet (xAndT (xA (onN 1 f_is_ascending) (xCons (xLc (xIter (xVar 0)) (yName 1) (xYes) (x2 gItem (xVar 1) (xC (.int 0))) [1]) (xNil))) (xA (onN 1 f_is_ascending) (xCons (xA (onN 1 f_moments_of) (xCons (xVar 0) (xNil))) (xNil))))
def f__keep_moments : List AV → Hh → Out AV := defO 2 b__keep_moments
theorem s__keep_moments : FnScope ["calls", "call"] ["calls"] (defScope (top 41)) := ⟨rfl, rfl, rfl, by decide +kernel, rfl, by decide +kernel, by decide +kernel⟩
theorem d__keep_moments (T : Txt F mg) (h : At F mg "_keep_moments" (top 41) ["calls"]) (d_is_ascending : Dn P w F mg base 2 "is_ascending" 1 f_is_ascending) (d_moments_of : Dn P w F mg base 1 "moments_of" 1 f_moments_of)    : Dn P w F mg base 3 "_keep_moments" 1 f__keep_moments :=
  dn_at h s__keep_moments fun E f cdv A outer s H hr tk ow => by
    have nd : (["calls", "call"] : List Str).Nodup := s__keep_moments.nd
    exact (css_one (cs_ret (ce_and rfl (ce_call d_is_ascending rfl (by omega) hr tk rfl (ca_cons (ce_lc (own := [("call", 1)]) rfl nd (ci_seq rfl (ce_var 0 rfl (by first | exact .inl rfl | exact .inr (.inl rfl) | exact .inr (.inr rfl)))) (blkOk_by (N := ["calls", "call"]) (sc := (defScope (top 41))) (by decide +kernel)) ⟨_, fun _ _ _ _ _ => (pg_name (i := 1) nd rfl (by first | exact .inl rfl | exact .inr rfl)), (q_name 1)⟩ (by decide) (fun _ _ _ _ _ => cts_nil) (fun _ _ _ _ _ => (ce_ix rfl hr (ce_var 1 rfl (by first | exact .inl rfl | exact .inr (.inl rfl) | exact .inr (.inr rfl))) (ce_globI rfl T.g_BEGIN)))) ca_nil)) (ce_one (ce_call d_is_ascending rfl (by omega) hr tk rfl (ca_cons (ce_call d_moments_of rfl (by omega) hr tk rfl (ca_cons (ce_var 0 rfl (by first | exact .inl rfl | exact .inr (.inl rfl) | exact .inr (.inr rfl))) ca_nil)) ca_nil))))))

def b_plain_step : EvS := sSeq (sAsg (xVar 0) (yTup 4 (yCons (yName 1) (yCons (yName 2) (yCons (yName 3) (yCons (yName 4) (yNil))))))) (sRet (xA mkT (xCons (xA (g1 gInt) (xCons (xVar 1) (xNil))) (xCons (xSl gCut (xVar 2) (xNoPart) (xNoPart)) (xCons (xA (onN 1 f__plain_or_none) (xCons (xVar 3) (xNil))) (xCons (xA (onN 1 f__plain_or_none) (xCons (xVar 4) (xNil))) (xNil)))))))
def f_plain_step : List AV → Hh → Out AV := defO 5 b_plain_step
theorem s_plain_step : FnScope ["step", "thing", "word", "given", "told"] ["step"] (defScope (top 47)) := ⟨rfl, rfl, rfl, by decide +kernel, rfl, by decide +kernel, by decide +kernel⟩
theorem d_plain_step (T : Txt F mg) (h : At F mg "plain_step" (top 47) ["step"]) (d__plain_or_none : Dn P w F mg base 1 "_plain_or_none" 1 f__plain_or_none)    : Dn P w F mg base 2 "plain_step" 1 f_plain_step :=
  dn_at h s_plain_step fun E f cdv A outer s H hr tk ow => by
    have nd : (["step", "thing", "word", "given", "told"] : List Str).Nodup := s_plain_step.nd
    exact (css_cons (cs_asg (ce_var 0 rfl (by first | exact .inl rfl | exact .inr (.inl rfl) | exact .inr (.inr rfl))) (cg_tup rfl rfl (cgs_cons (cg_name 1 nd rfl (by first | exact .inl rfl | exact .inr rfl)) (cgs_cons (cg_name 2 nd rfl (by first | exact .inl rfl | exact .inr rfl)) (cgs_cons (cg_name 3 nd rfl (by first | exact .inl rfl | exact .inr rfl)) (cgs_cons (cg_name 4 nd rfl (by first | exact .inl rfl | exact .inr rfl)) cgs_nil)))))) (css_one (cs_ret (ce_tup (ca_cons (ce_callTy call_int1 p_int rfl T.b_int (by decide +kernel) (ca_cons (ce_var 1 rfl (by first | exact .inl rfl | exact .inr (.inl rfl) | exact .inr (.inr rfl))) ca_nil)) (ca_cons (ce_sl rfl (ce_var 2 rfl (by first | exact .inl rfl | exact .inr (.inl rfl) | exact .inr (.inr rfl))) co_none co_none) (ca_cons (ce_call d__plain_or_none rfl (by omega) hr tk rfl (ca_cons (ce_var 3 rfl (by first | exact .inl rfl | exact .inr (.inl rfl) | exact .inr (.inr rfl))) ca_nil)) (ca_cons (ce_call d__plain_or_none rfl (by omega) hr tk rfl (ca_cons (ce_var 4 rfl (by first | exact .inl rfl | exact .inr (.inl rfl) | exact .inr (.inr rfl))) ca_nil)) ca_nil))))))))

def b_first_states : EvS := sRet (xA gTupU (xCons (xLc (xIter (xVar 0)) (yName 1) (xYes) (xA (onN 1 f__first_state) (xCons (xA (onN 1 f_name_of) (xCons (xVar 1) (xNil))) (xNil))) [1]) (xNil)))
def f_first_states : List AV → Hh → Out AV := defO 2 b_first_states
theorem s_first_states : FnScope ["sorts", "sort"] ["sorts"] (defScope (top 68)) := ⟨rfl, rfl, rfl, by decide +kernel, rfl, by decide +kernel, by decide +kernel⟩
theorem d_first_states (T : Txt F mg) (h : At F mg "first_states" (top 68) ["sorts"]) (d_name_of : Dn P w F mg base 1 "name_of" 1 f_name_of) (d__first_state : Dn P w F mg base 1 "_first_state" 1 f__first_state)    : Dn P w F mg base 2 "first_states" 1 f_first_states :=
  dn_at h s_first_states fun E f cdv A outer s H hr tk ow => by
    have nd : (["sorts", "sort"] : List Str).Nodup := s_first_states.nd
    exact (css_one (cs_ret (ce_tupleU rfl rfl rfl T.b_tuple (ca_cons (ce_lc (own := [("sort", 1)]) rfl nd (ci_seq rfl (ce_var 0 rfl (by first | exact .inl rfl | exact .inr (.inl rfl) | exact .inr (.inr rfl)))) (blkOk_by (N := ["sorts", "sort"]) (sc := (defScope (top 68))) (by decide +kernel)) ⟨_, fun _ _ _ _ _ => (pg_name (i := 1) nd rfl (by first | exact .inl rfl | exact .inr rfl)), (q_name 1)⟩ (by decide) (fun _ _ _ _ _ => cts_nil) (fun _ _ _ _ _ => (ce_call d__first_state rfl (by omega) hr takes0 rfl (ca_cons (ce_call d_name_of rfl (by omega) hr takes0 rfl (ca_cons (ce_var 1 rfl (by first | exact .inl rfl | exact .inr (.inl rfl) | exact .inr (.inr rfl))) ca_nil)) ca_nil)))) ca_nil))))

def b_states_told : EvS := sSeq (sAsg (xA (onN 1 f_first_states) (xCons (xVar 0) (xNil))) (yName 3)) (sSeq (sFor (xIter (xVar 2)) (yName 4) (sSeq (sAsg (xA (onN 3 f_step) (xCons (xVar 0) (xCons (xVar 3) (xCons (x2 gItem (xVar 1) (xVar 4)) (xNil))))) (yTup 3 (yCons (yName 5) (yCons (yName 6) (yCons (yName 3) (yNil)))))) (sIf (xOr (xNot (xTru (xVar 5))) (xTB (x2 (gEqD true) (xVar 6) (x2 gItem (x2 gItem (xVar 1) (xVar 4)) (xC (.int 5)))))) (sRet (xC .non)) (sPass)))) (sRet (xVar 3)))
def f_states_told : List AV → Hh → Out AV := defO 7 b_states_told
theorem s_states_told : FnScope ["sorts", "calls", "order", "states", "number", "goes", "told"] ["sorts", "calls", "order"] (defScope (top 71)) := ⟨rfl, rfl, rfl, by decide +kernel, rfl, by decide +kernel, by decide +kernel⟩
theorem d_states_told (T : Txt F mg) (h : At F mg "states_told" (top 71) ["sorts", "calls", "order"]) (d_first_states : Dn P w F mg base 2 "first_states" 1 f_first_states) (d_step : Dn P w F mg base 2 "step" 3 f_step)    : Dn P w F mg base 3 "states_told" 3 f_states_told :=
  dn_at h s_states_told fun E f cdv A outer s H hr tk ow => by
    have nd : (["sorts", "calls", "order", "states", "number", "goes", "told"] : List Str).Nodup := s_states_told.nd
    exact (css_cons (cs_set (i := 3) nd rfl (by first | exact .inl rfl | exact .inr rfl) (ce_call d_first_states rfl (by omega) hr tk rfl (ca_cons (ce_var 0 rfl (by first | exact .inl rfl | exact .inr (.inl rfl) | exact .inr (.inr rfl))) ca_nil))) (css_cons (cs_for ow rfl (ci_seq rfl (ce_var 2 rfl (by first | exact .inl rfl | exact .inr (.inl rfl) | exact .inr (.inr rfl)))) (cg_name 4 nd rfl (by first | exact .inl rfl | exact .inr rfl)) (css_cons (cs_asg (ce_call d_step rfl (by omega) hr tk rfl (ca_cons (ce_var 0 rfl (by first | exact .inl rfl | exact .inr (.inl rfl) | exact .inr (.inr rfl))) (ca_cons (ce_var 3 rfl (by first | exact .inl rfl | exact .inr (.inl rfl) | exact .inr (.inr rfl))) (ca_cons (ce_ix rfl hr (ce_var 1 rfl (by first | exact .inl rfl | exact .inr (.inl rfl) | exact .inr (.inr rfl))) (ce_var 4 rfl (by first | exact .inl rfl | exact .inr (.inl rfl) | exact .inr (.inr rfl)))) ca_nil)))) (cg_tup rfl rfl (cgs_cons (cg_name 5 nd rfl (by first | exact .inl rfl | exact .inr rfl)) (cgs_cons (cg_name 6 nd rfl (by first | exact .inl rfl | exact .inr rfl)) (cgs_cons (cg_name 3 nd rfl (by first | exact .inl rfl | exact .inr rfl)) cgs_nil))))) (css_one (cs_if (ct_w (cw_or (ct_not (ct_truth rfl (ce_var 5 rfl (by first | exact .inl rfl | exact .inr (.inl rfl) | exact .inr (.inr rfl))))) (cw_or1 (ct_cmp (opr_ne hr) p_ne (nomark _) (ce_var 6 rfl (by first | exact .inl rfl | exact .inr (.inl rfl) | exact .inr (.inr rfl))) (ce_ix rfl hr (ce_ix rfl hr (ce_var 1 rfl (by first | exact .inl rfl | exact .inr (.inl rfl) | exact .inr (.inr rfl))) (ce_var 4 rfl (by first | exact .inl rfl | exact .inr (.inl rfl) | exact .inr (.inr rfl)))) (ce_globI rfl T.g_TOLD)))))) (css_one (cs_ret ce_non)) css_nil)))) (css_one (cs_ret (ce_var 3 rfl (by first | exact .inl rfl | exact .inr (.inl rfl) | exact .inr (.inr rfl)))))))

def b_explains : EvS := sRet (xAndT (xA (onN 2 f_is_order_of) (xCons (xVar 1) (xCons (xVar 2) (xNil)))) (x2 (gIs true) (xA (onN 3 f_states_told) (xCons (xVar 0) (xCons (xVar 1) (xCons (xVar 2) (xNil))))) (xC .non)))
def f_explains : List AV → Hh → Out AV := defO 3 b_explains
theorem s_explains : FnScope ["sorts", "calls", "value"] ["sorts", "calls", "value"] (defScope (top 72)) := ⟨rfl, rfl, rfl, by decide +kernel, rfl, by decide +kernel, by decide +kernel⟩
theorem d_explains (T : Txt F mg) (h : At F mg "explains" (top 72) ["sorts", "calls", "value"]) (d_is_order_of : Dn P w F mg base 3 "is_order_of" 2 f_is_order_of) (d_states_told : Dn P w F mg base 3 "states_told" 3 f_states_told)    : Dn P w F mg base 4 "explains" 3 f_explains :=
  dn_at h s_explains fun E f cdv A outer s H hr tk ow => by
    have nd : (["sorts", "calls", "value"] : List Str).Nodup := s_explains.nd
    exact (css_one (cs_ret (ce_and rfl (ce_call d_is_order_of rfl (by omega) hr tk rfl (ca_cons (ce_var 1 rfl (by first | exact .inl rfl | exact .inr (.inl rfl) | exact .inr (.inr rfl))) (ca_cons (ce_var 2 rfl (by first | exact .inl rfl | exact .inr (.inl rfl) | exact .inr (.inr rfl))) ca_nil))) (ce_one (ce_cmp op_notN p_isnot (nomark _) (ce_call d_states_told rfl (by omega) hr tk rfl (ca_cons (ce_var 0 rfl (by first | exact .inl rfl | exact .inr (.inl rfl) | exact .inr (.inr rfl))) (ca_cons (ce_var 1 rfl (by first | exact .inl rfl | exact .inr (.inl rfl) | exact .inr (.inr rfl))) (ca_cons (ce_var 2 rfl (by first | exact .inl rfl | exact .inr (.inl rfl) | exact .inr (.inr rfl))) ca_nil)))) ce_non)))))

def b_free_of : EvS := sRet (xLc (xIter (xA (onN 1 f__values_of) (xCons (xVar 0) (xNil)))) (yName 1) (xTru (xA (onN 2 f__is_free) (xCons (xVar 0) (xCons (xVar 1) (xNil))))) (xVar 1) [1])
def f_free_of : List AV → Hh → Out AV := defO 2 b_free_of
theorem s_free_of : FnScope ["calls", "value"] ["calls"] (defScope (top 86)) := ⟨rfl, rfl, rfl, by decide +kernel, rfl, by decide +kernel, by decide +kernel⟩
theorem d_free_of (T : Txt F mg) (h : At F mg "free_of" (top 86) ["calls"]) (d__values_of : Dn P w F mg base 1 "_values_of" 1 f__values_of) (d__is_free : Dn P w F mg base 2 "_is_free" 2 f__is_free)    : Dn P w F mg base 3 "free_of" 1 f_free_of :=
  dn_at h s_free_of fun E f cdv A outer s H hr tk ow => by
    have nd : (["calls", "value"] : List Str).Nodup := s_free_of.nd
    exact (css_one (cs_ret (ce_lc (own := [("value", 1)]) rfl nd (ci_seq rfl (ce_call d__values_of rfl (by omega) hr tk rfl (ca_cons (ce_var 0 rfl (by first | exact .inl rfl | exact .inr (.inl rfl) | exact .inr (.inr rfl))) ca_nil))) (blkOk_by (N := ["calls", "value"]) (sc := (defScope (top 86))) (by decide +kernel)) ⟨_, fun _ _ _ _ _ => (pg_name (i := 1) nd rfl (by first | exact .inl rfl | exact .inr rfl)), (q_name 1)⟩ (by decide) (fun _ _ _ _ _ => (cts_one (ct_truth rfl (ce_call d__is_free rfl (by omega) hr takes0 rfl (ca_cons (ce_var 0 rfl (by first | exact .inl rfl | exact .inr (.inl rfl) | exact .inr (.inr rfl))) (ca_cons (ce_var 1 rfl (by first | exact .inl rfl | exact .inr (.inl rfl) | exact .inr (.inr rfl))) ca_nil)))))) (fun _ _ _ _ _ => (ce_var 1 rfl (by first | exact .inl rfl | exact .inr (.inl rfl) | exact .inr (.inr rfl)))))))

def b_room_flaws : EvS := sSeq (sAsg (xA (onN 1 f_odd_leaves) (xCons (xVar 0) (xNil))) (yName 2)) (sSeq (sIf (xTru (xVar 2)) (sRet (xVar 2)) (sPass)) (sSeq (sAsg (xLc (xIter (xA (onN 1 f_moments_of) (xCons (xVar 0) (xNil)))) (yName 4) (xTB (x2 gGt (xA gLenU (xCons (xA (onN 2 f_crowd_of) (xCons (xVar 0) (xCons (xVar 4) (xNil)))) (xNil))) (xVar 1))) (xA mkT (xCons (xC (.str "crowd")) (xCons (xVar 4) (xNil)))) [4]) (yName 3)) (sRet (x2 gAdd (xVar 3) (xLc (xIter (xA (onN 1 f_free_of) (xCons (xVar 0) (xNil)))) (yName 5) (xTru (xA (onN 3 f__is_covered) (xCons (xVar 0) (xCons (xVar 1) (xCons (xVar 5) (xNil)))))) (xA mkT (xCons (xC (.str "covered")) (xCons (xVar 5) (xNil)))) [5])))))
def f_room_flaws : List AV → Hh → Out AV := defO 6 b_room_flaws
theorem s_room_flaws : FnScope ["calls", "size", "odd", "crowds", "moment", "value"] ["calls", "size"] (defScope (top 91)) := ⟨rfl, rfl, rfl, by decide +kernel, rfl, by decide +kernel, by decide +kernel⟩
theorem d_room_flaws (T : Txt F mg) (h : At F mg "room_flaws" (top 91) ["calls", "size"]) (d_odd_leaves : Dn P w F mg base 3 "odd_leaves" 1 f_odd_leaves) (d_moments_of : Dn P w F mg base 1 "moments_of" 1 f_moments_of) (d_crowd_of : Dn P w F mg base 1 "crowd_of" 2 f_crowd_of) (d_free_of : Dn P w F mg base 3 "free_of" 1 f_free_of) (d__is_covered : Dn P w F mg base 4 "_is_covered" 3 f__is_covered)    : Dn P w F mg base 5 "room_flaws" 2 f_room_flaws :=
  dn_at h s_room_flaws fun E f cdv A outer s H hr tk ow => by
    have nd : (["calls", "size", "odd", "crowds", "moment", "value"] : List Str).Nodup := s_room_flaws.nd
    exact (css_cons (cs_set (i := 2) nd rfl (by first | exact .inl rfl | exact .inr rfl) (ce_call d_odd_leaves rfl (by omega) hr tk rfl (ca_cons (ce_var 0 rfl (by first | exact .inl rfl | exact .inr (.inl rfl) | exact .inr (.inr rfl))) ca_nil))) (css_cons (cs_if (ct_truth rfl (ce_var 2 rfl (by first | exact .inl rfl | exact .inr (.inl rfl) | exact .inr (.inr rfl)))) (css_one (cs_ret (ce_var 2 rfl (by first | exact .inl rfl | exact .inr (.inl rfl) | exact .inr (.inr rfl))))) css_nil) (css_cons (by first | exact (cs_setLc (i := 3) (own := [("moment", 4)]) rfl nd rfl rfl (sw_true rfl rfl rfl (by decide +kernel)) (ci_seq rfl (ce_call d_moments_of rfl (by omega) hr tk rfl (ca_cons (ce_var 0 rfl (by first | exact .inl rfl | exact .inr (.inl rfl) | exact .inr (.inr rfl))) ca_nil))) (blkOk_by (N := ["calls", "size", "odd", "crowds", "moment", "value"]) (sc := (defScope (top 91))) (by decide +kernel)) ⟨_, fun _ _ _ _ _ => (pg_name (i := 4) nd rfl (by first | exact .inl rfl | exact .inr rfl)), (q_name 4)⟩ (by decide) (fun _ _ _ _ _ => (cts_one (ct_cmp op_gt p_gt (nomark _) (ce_lenU rfl rfl T.b_len (ca_cons (ce_call d_crowd_of rfl (by omega) hr takes0 rfl (ca_cons (ce_var 0 rfl (by first | exact .inl rfl | exact .inr (.inl rfl) | exact .inr (.inr rfl))) (ca_cons (ce_var 4 rfl (by first | exact .inl rfl | exact .inr (.inl rfl) | exact .inr (.inr rfl))) ca_nil))) ca_nil)) (ce_var 1 rfl (by first | exact .inl rfl | exact .inr (.inl rfl) | exact .inr (.inr rfl)))))) (fun _ _ _ _ _ => (ce_tup (ca_cons ce_str (ca_cons (ce_var 4 rfl (by first | exact .inl rfl | exact .inr (.inl rfl) | exact .inr (.inr rfl))) ca_nil))))) | exact (cs_set (i := 3) nd rfl (by first | exact .inl rfl | exact .inr rfl) (ce_lc (own := [("moment", 4)]) rfl nd (ci_seq rfl (ce_call d_moments_of rfl (by omega) hr tk rfl (ca_cons (ce_var 0 rfl (by first | exact .inl rfl | exact .inr (.inl rfl) | exact .inr (.inr rfl))) ca_nil))) (blkOk_by (N := ["calls", "size", "odd", "crowds", "moment", "value"]) (sc := (defScope (top 91))) (by decide +kernel)) ⟨_, fun _ _ _ _ _ => (pg_name (i := 4) nd rfl (by first | exact .inl rfl | exact .inr rfl)), (q_name 4)⟩ (by decide) (fun _ _ _ _ _ => (cts_one (ct_cmp op_gt p_gt (nomark _) (ce_lenU rfl rfl T.b_len (ca_cons (ce_call d_crowd_of rfl (by omega) hr takes0 rfl (ca_cons (ce_var 0 rfl (by first | exact .inl rfl | exact .inr (.inl rfl) | exact .inr (.inr rfl))) (ca_cons (ce_var 4 rfl (by first | exact .inl rfl | exact .inr (.inl rfl) | exact .inr (.inr rfl))) ca_nil))) ca_nil)) (ce_var 1 rfl (by first | exact .inl rfl | exact .inr (.inl rfl) | exact .inr (.inr rfl)))))) (fun _ _ _ _ _ => (ce_tup (ca_cons ce_str (ca_cons (ce_var 4 rfl (by first | exact .inl rfl | exact .inr (.inl rfl) | exact .inr (.inr rfl))) ca_nil))))))) (css_one (cs_ret (ce_bin opr_add (p_add rfl) (ce_var 3 rfl (by first | exact .inl rfl | exact .inr (.inl rfl) | exact .inr (.inr rfl))) (ce_lc (own := [("value", 5)]) rfl nd (ci_seq rfl (ce_call d_free_of rfl (by omega) hr tk rfl (ca_cons (ce_var 0 rfl (by first | exact .inl rfl | exact .inr (.inl rfl) | exact .inr (.inr rfl))) ca_nil))) (blkOk_by (N := ["calls", "size", "odd", "crowds", "moment", "value"]) (sc := (defScope (top 91))) (by decide +kernel)) ⟨_, fun _ _ _ _ _ => (pg_name (i := 5) nd rfl (by first | exact .inl rfl | exact .inr rfl)), (q_name 5)⟩ (by decide) (fun _ _ _ _ _ => (cts_one (ct_truth rfl (ce_call d__is_covered rfl (by omega) hr takes0 rfl (ca_cons (ce_var 0 rfl (by first | exact .inl rfl | exact .inr (.inl rfl) | exact .inr (.inr rfl))) (ca_cons (ce_var 1 rfl (by first | exact .inl rfl | exact .inr (.inl rfl) | exact .inr (.inr rfl))) (ca_cons (ce_var 5 rfl (by first | exact .inl rfl | exact .inr (.inl rfl) | exact .inr (.inr rfl))) ca_nil))))))) (fun _ _ _ _ _ => (ce_tup (ca_cons ce_str (ca_cons (ce_var 5 rfl (by first | exact .inl rfl | exact .inr (.inl rfl) | exact .inr (.inr rfl))) ca_nil)))))))))))

def b__order_of : EvS := sSeq (sAsg (xA mkL (xNil)) (yName 2)) (sSeq (sFor (xEnumU (xCons (xVar 0) (xNil))) (yTup 2 (yCons (yName 3) (yCons (yName 4) (yNil)))) (sIf (xTru (xA (onN 2 f__is_free) (xCons (xVar 0) (xCons (x2 gItem (xVar 4) (xC (.int 4))) (xNil))))) (sDrop (xApp (xVar 2) (xCons (xA mkT (xCons (xA (onN 3 f__roomy_moment) (xCons (xVar 0) (xCons (xVar 1) (xCons (x2 gItem (xVar 4) (xC (.int 4))) (xNil))))) (xCons (xC (.int 1)) (xCons (x2 gItem (xVar 4) (xC (.int 4))) (xCons (x2 gItem (xVar 4) (xC (.int 3))) (xCons (xVar 3) (xNil))))))) (xNil)))) (sIf (xTB (x2 (gEqD false) (x2 gItem (xVar 4) (xC (.int 3))) (xC (.str "enter")))) (sDrop (xApp (xVar 2) (xCons (xA mkT (xCons (x2 gItem (xVar 4) (xC (.int 1))) (xCons (xC (.int 0)) (xCons (x2 gItem (xVar 4) (xC (.int 4))) (xCons (x2 gItem (xVar 4) (xC (.int 3))) (xCons (xVar 3) (xNil))))))) (xNil)))) (sDrop (xApp (xVar 2) (xCons (xA mkT (xCons (x2 gItem (xVar 4) (xC (.int 0))) (xCons (xC (.int 0)) (xCons (x2 gItem (xVar 4) (xC (.int 4))) (xCons (x2 gItem (xVar 4) (xC (.int 3))) (xCons (xVar 3) (xNil))))))) (xNil))))))) (sRet (xA gTupU (xCons (xLc (xIter (xA gSortU2 (xCons (xVar 2) (xNil)))) (yName 5) (xYes) (x2 gItem (xVar 5) (xNeg (xC (.int 1)))) [5]) (xNil)))))
def f__order_of : List AV → Hh → Out AV := defO 6 b__order_of
theorem s__order_of : FnScope ["calls", "size", "places", "number", "call", "place"] ["calls", "size"] (defScope (top 93)) := ⟨rfl, rfl, rfl, by decide +kernel, rfl, by decide +kernel, by decide +kernel⟩
theorem d__order_of (T : Txt F mg) (h : At F mg "_order_of" (top 93) ["calls", "size"]) (d__is_free : Dn P w F mg base 2 "_is_free" 2 f__is_free) (d__roomy_moment : Dn P w F mg base 3 "_roomy_moment" 3 f__roomy_moment)    : Dn P w F mg base 4 "_order_of" 2 f__order_of :=
  dn_at h s__order_of fun E f cdv A outer s H hr tk ow => by
    have nd : (["calls", "size", "places", "number", "call", "place"] : List Str).Nodup := s__order_of.nd
    exact (css_cons (cs_set (i := 2) nd rfl (by first | exact .inl rfl | exact .inr rfl) (ce_lst ca_nil)) (css_cons (cs_for ow rfl (ci_enumU rfl rfl T.b_enumerate (ca_cons (ce_var 0 rfl (by first | exact .inl rfl | exact .inr (.inl rfl) | exact .inr (.inr rfl))) ca_nil)) (cg_tup rfl rfl (cgs_cons (cg_name 3 nd rfl (by first | exact .inl rfl | exact .inr rfl)) (cgs_cons (cg_name 4 nd rfl (by first | exact .inl rfl | exact .inr rfl)) cgs_nil))) (css_one (cs_if (ct_truth rfl (ce_call d__is_free rfl (by omega) hr tk rfl (ca_cons (ce_var 0 rfl (by first | exact .inl rfl | exact .inr (.inl rfl) | exact .inr (.inr rfl))) (ca_cons (ce_ix rfl hr (ce_var 4 rfl (by first | exact .inl rfl | exact .inr (.inl rfl) | exact .inr (.inr rfl))) (ce_globI rfl T.g_GIVEN)) ca_nil)))) (css_one (cs_expr (ce_append rfl (ce_var 2 rfl (by first | exact .inl rfl | exact .inr (.inl rfl) | exact .inr (.inr rfl))) (ca_cons (ce_tup (ca_cons (ce_call d__roomy_moment rfl (by omega) hr tk rfl (ca_cons (ce_var 0 rfl (by first | exact .inl rfl | exact .inr (.inl rfl) | exact .inr (.inr rfl))) (ca_cons (ce_var 1 rfl (by first | exact .inl rfl | exact .inr (.inl rfl) | exact .inr (.inr rfl))) (ca_cons (ce_ix rfl hr (ce_var 4 rfl (by first | exact .inl rfl | exact .inr (.inl rfl) | exact .inr (.inr rfl))) (ce_globI rfl T.g_GIVEN)) ca_nil)))) (ca_cons ce_int (ca_cons (ce_ix rfl hr (ce_var 4 rfl (by first | exact .inl rfl | exact .inr (.inl rfl) | exact .inr (.inr rfl))) (ce_globI rfl T.g_GIVEN)) (ca_cons (ce_ix rfl hr (ce_var 4 rfl (by first | exact .inl rfl | exact .inr (.inl rfl) | exact .inr (.inr rfl))) (ce_globI rfl T.g_WORD)) (ca_cons (ce_var 3 rfl (by first | exact .inl rfl | exact .inr (.inl rfl) | exact .inr (.inr rfl))) ca_nil)))))) ca_nil)))) (css_one (cs_if (ct_cmp (opr_eq hr) p_eq (nomark _) (ce_ix rfl hr (ce_var 4 rfl (by first | exact .inl rfl | exact .inr (.inl rfl) | exact .inr (.inr rfl))) (ce_globI rfl T.g_WORD)) ce_str) (css_one (cs_expr (ce_append rfl (ce_var 2 rfl (by first | exact .inl rfl | exact .inr (.inl rfl) | exact .inr (.inr rfl))) (ca_cons (ce_tup (ca_cons (ce_ix rfl hr (ce_var 4 rfl (by first | exact .inl rfl | exact .inr (.inl rfl) | exact .inr (.inr rfl))) (ce_globI rfl T.g_END)) (ca_cons ce_int (ca_cons (ce_ix rfl hr (ce_var 4 rfl (by first | exact .inl rfl | exact .inr (.inl rfl) | exact .inr (.inr rfl))) (ce_globI rfl T.g_GIVEN)) (ca_cons (ce_ix rfl hr (ce_var 4 rfl (by first | exact .inl rfl | exact .inr (.inl rfl) | exact .inr (.inr rfl))) (ce_globI rfl T.g_WORD)) (ca_cons (ce_var 3 rfl (by first | exact .inl rfl | exact .inr (.inl rfl) | exact .inr (.inr rfl))) ca_nil)))))) ca_nil)))) (css_one (cs_expr (ce_append rfl (ce_var 2 rfl (by first | exact .inl rfl | exact .inr (.inl rfl) | exact .inr (.inr rfl))) (ca_cons (ce_tup (ca_cons (ce_ix rfl hr (ce_var 4 rfl (by first | exact .inl rfl | exact .inr (.inl rfl) | exact .inr (.inr rfl))) (ce_globI rfl T.g_BEGIN)) (ca_cons ce_int (ca_cons (ce_ix rfl hr (ce_var 4 rfl (by first | exact .inl rfl | exact .inr (.inl rfl) | exact .inr (.inr rfl))) (ce_globI rfl T.g_GIVEN)) (ca_cons (ce_ix rfl hr (ce_var 4 rfl (by first | exact .inl rfl | exact .inr (.inl rfl) | exact .inr (.inr rfl))) (ce_globI rfl T.g_WORD)) (ca_cons (ce_var 3 rfl (by first | exact .inl rfl | exact .inr (.inl rfl) | exact .inr (.inr rfl))) ca_nil)))))) ca_nil))))))))) (css_one (cs_ret (ce_tupleU rfl rfl rfl T.b_tuple (ca_cons (ce_lc (own := [("place", 5)]) rfl nd (ci_seq rfl (ce_sorted2 rfl rfl rfl T.b_sorted (ca_cons (ce_var 2 rfl (by first | exact .inl rfl | exact .inr (.inl rfl) | exact .inr (.inr rfl))) ca_nil))) (blkOk_by (N := ["calls", "size", "places", "number", "call", "place"]) (sc := (defScope (top 93))) (by decide +kernel)) ⟨_, fun _ _ _ _ _ => (pg_name (i := 5) nd rfl (by first | exact .inl rfl | exact .inr rfl)), (q_name 5)⟩ (by decide) (fun _ _ _ _ _ => cts_nil) (fun _ _ _ _ _ => (ce_ix rfl hr (ce_var 5 rfl (by first | exact .inl rfl | exact .inr (.inl rfl) | exact .inr (.inr rfl))) (ce_neg ce_int)))) ca_nil))))))

def b__holds : EvS := sSeq (sIf (xTB (x2 (gEqD false) (xVar 2) (xC (.str "order")))) (sRet (xA (onN 3 f_explains) (xCons (xA mkT (xCons (xA mkT (xCons (xC (.str "room")) (xCons (xVar 1) (xNil)))) (xNil))) (xCons (xVar 0) (xCons (xVar 3) (xNil)))))) (sPass)) (sSeq (sIf (xTB (x2 (gEqD false) (xVar 2) (xC (.str "crowd")))) (sRet (xAndT (xA (onN 2 f__is_moment) (xCons (xVar 0) (xCons (xVar 3) (xNil)))) (x2 gGt (xA gLenU (xCons (xA (onN 2 f_crowd_of) (xCons (xVar 0) (xCons (xVar 3) (xNil)))) (xNil))) (xVar 1)))) (sPass)) (sSeq (sIf (xTB (x2 (gEqD false) (xVar 2) (xC (.str "covered")))) (sSeq (sIf (xOr (xNot (xTru (xA (onN 1 f_is_value) (xCons (xVar 3) (xNil))))) (xNot (xTru (xA (onN 2 f__is_free) (xCons (xVar 0) (xCons (xVar 3) (xNil))))))) (sRet (xC (.bl false))) (sPass)) (sRet (xAndT (xNotT (xA (onN 2 f__is_early) (xCons (xVar 0) (xCons (xA (onN 3 f__number_of) (xCons (xVar 0) (xCons (xC (.str "leave")) (xCons (xVar 3) (xNil))))) (xNil))))) (xA (onN 3 f__is_covered) (xCons (xVar 0) (xCons (xVar 1) (xCons (xVar 3) (xNil)))))))) (sPass)) (sSeq (sIf (xNot (xTru (xA (onN 2 f_is_number_below) (xCons (xVar 3) (xCons (xA gLenU (xCons (xVar 0) (xNil))) (xNil)))))) (sRet (xC (.bl false))) (sPass)) (sSeq (sIf (xTB (x2 (gEqD false) (xVar 2) (xC (.str "strange")))) (sRet (xA (onN 2 f__is_strange) (xCons (xVar 0) (xCons (xVar 3) (xNil))))) (sPass)) (sRet (xA (onN 2 f__is_early) (xCons (xVar 0) (xCons (xVar 3) (xNil)))))))))
def f__holds : List AV → Hh → Out AV := defO 4 b__holds
theorem s__holds : FnScope ["calls", "size", "word", "thing"] ["calls", "size", "word", "thing"] (defScope (top 96)) := ⟨rfl, rfl, rfl, by decide +kernel, rfl, by decide +kernel, by decide +kernel⟩
theorem d__holds (T : Txt F mg) (h : At F mg "_holds" (top 96) ["calls", "size", "word", "thing"]) (d_explains : Dn P w F mg base 4 "explains" 3 f_explains) (d__is_moment : Dn P w F mg base 3 "_is_moment" 2 f__is_moment) (d_crowd_of : Dn P w F mg base 1 "crowd_of" 2 f_crowd_of) (d_is_value : Dn P w F mg base 2 "is_value" 1 f_is_value) (d__is_free : Dn P w F mg base 2 "_is_free" 2 f__is_free) (d__number_of : Dn P w F mg base 1 "_number_of" 3 f__number_of) (d__is_early : Dn P w F mg base 2 "_is_early" 2 f__is_early) (d__is_covered : Dn P w F mg base 4 "_is_covered" 3 f__is_covered) (d_is_number_below : Dn P w F mg base 2 "is_number_below" 2 f_is_number_below) (d__is_strange : Dn P w F mg base 2 "_is_strange" 2 f__is_strange)    : Dn P w F mg base 5 "_holds" 4 f__holds :=
  dn_at h s__holds fun E f cdv A outer s H hr tk ow => by
    have nd : (["calls", "size", "word", "thing"] : List Str).Nodup := s__holds.nd
    exact (css_cons (cs_if (ct_cmp (opr_eq hr) p_eq (nomark _) (ce_var 2 rfl (by first | exact .inl rfl | exact .inr (.inl rfl) | exact .inr (.inr rfl))) ce_str) (css_one (cs_ret (ce_call d_explains rfl (by omega) hr tk rfl (ca_cons (ce_tup (ca_cons (ce_tup (ca_cons ce_str (ca_cons (ce_var 1 rfl (by first | exact .inl rfl | exact .inr (.inl rfl) | exact .inr (.inr rfl))) ca_nil))) ca_nil)) (ca_cons (ce_var 0 rfl (by first | exact .inl rfl | exact .inr (.inl rfl) | exact .inr (.inr rfl))) (ca_cons (ce_var 3 rfl (by first | exact .inl rfl | exact .inr (.inl rfl) | exact .inr (.inr rfl))) ca_nil)))))) css_nil) (css_cons (cs_if (ct_cmp (opr_eq hr) p_eq (nomark _) (ce_var 2 rfl (by first | exact .inl rfl | exact .inr (.inl rfl) | exact .inr (.inr rfl))) ce_str) (css_one (cs_ret (ce_and rfl (ce_call d__is_moment rfl (by omega) hr tk rfl (ca_cons (ce_var 0 rfl (by first | exact .inl rfl | exact .inr (.inl rfl) | exact .inr (.inr rfl))) (ca_cons (ce_var 3 rfl (by first | exact .inl rfl | exact .inr (.inl rfl) | exact .inr (.inr rfl))) ca_nil))) (ce_one (ce_cmp op_gt p_gt (nomark _) (ce_lenU rfl rfl T.b_len (ca_cons (ce_call d_crowd_of rfl (by omega) hr tk rfl (ca_cons (ce_var 0 rfl (by first | exact .inl rfl | exact .inr (.inl rfl) | exact .inr (.inr rfl))) (ca_cons (ce_var 3 rfl (by first | exact .inl rfl | exact .inr (.inl rfl) | exact .inr (.inr rfl))) ca_nil))) ca_nil)) (ce_var 1 rfl (by first | exact .inl rfl | exact .inr (.inl rfl) | exact .inr (.inr rfl)))))))) css_nil) (css_cons (cs_if (ct_cmp (opr_eq hr) p_eq (nomark _) (ce_var 2 rfl (by first | exact .inl rfl | exact .inr (.inl rfl) | exact .inr (.inr rfl))) ce_str) (css_cons (cs_if (ct_w (cw_or (ct_not (ct_truth rfl (ce_call d_is_value rfl (by omega) hr tk rfl (ca_cons (ce_var 3 rfl (by first | exact .inl rfl | exact .inr (.inl rfl) | exact .inr (.inr rfl))) ca_nil)))) (cw_or1 (ct_not (ct_truth rfl (ce_call d__is_free rfl (by omega) hr tk rfl (ca_cons (ce_var 0 rfl (by first | exact .inl rfl | exact .inr (.inl rfl) | exact .inr (.inr rfl))) (ca_cons (ce_var 3 rfl (by first | exact .inl rfl | exact .inr (.inl rfl) | exact .inr (.inr rfl))) ca_nil)))))))) (css_one (cs_ret ce_bl)) css_nil) (css_one (cs_ret (ce_and rfl (ce_not rfl (ce_call d__is_early rfl (by omega) hr tk rfl (ca_cons (ce_var 0 rfl (by first | exact .inl rfl | exact .inr (.inl rfl) | exact .inr (.inr rfl))) (ca_cons (ce_call d__number_of rfl (by omega) hr tk rfl (ca_cons (ce_var 0 rfl (by first | exact .inl rfl | exact .inr (.inl rfl) | exact .inr (.inr rfl))) (ca_cons ce_str (ca_cons (ce_var 3 rfl (by first | exact .inl rfl | exact .inr (.inl rfl) | exact .inr (.inr rfl))) ca_nil)))) ca_nil)))) (ce_one (ce_call d__is_covered rfl (by omega) hr tk rfl (ca_cons (ce_var 0 rfl (by first | exact .inl rfl | exact .inr (.inl rfl) | exact .inr (.inr rfl))) (ca_cons (ce_var 1 rfl (by first | exact .inl rfl | exact .inr (.inl rfl) | exact .inr (.inr rfl))) (ca_cons (ce_var 3 rfl (by first | exact .inl rfl | exact .inr (.inl rfl) | exact .inr (.inr rfl))) ca_nil))))))))) css_nil) (css_cons (cs_if (ct_not (ct_truth rfl (ce_call d_is_number_below rfl (by omega) hr tk rfl (ca_cons (ce_var 3 rfl (by first | exact .inl rfl | exact .inr (.inl rfl) | exact .inr (.inr rfl))) (ca_cons (ce_lenU rfl rfl T.b_len (ca_cons (ce_var 0 rfl (by first | exact .inl rfl | exact .inr (.inl rfl) | exact .inr (.inr rfl))) ca_nil)) ca_nil))))) (css_one (cs_ret ce_bl)) css_nil) (css_cons (cs_if (ct_cmp (opr_eq hr) p_eq (nomark _) (ce_var 2 rfl (by first | exact .inl rfl | exact .inr (.inl rfl) | exact .inr (.inr rfl))) ce_str) (css_one (cs_ret (ce_call d__is_strange rfl (by omega) hr tk rfl (ca_cons (ce_var 0 rfl (by first | exact .inl rfl | exact .inr (.inl rfl) | exact .inr (.inr rfl))) (ca_cons (ce_var 3 rfl (by first | exact .inl rfl | exact .inr (.inl rfl) | exact .inr (.inr rfl))) ca_nil))))) css_nil) (css_one (cs_ret (ce_call d__is_early rfl (by omega) hr tk rfl (ca_cons (ce_var 0 rfl (by first | exact .inl rfl | exact .inr (.inl rfl) | exact .inr (.inr rfl))) (ca_cons (ce_var 3 rfl (by first | exact .inl rfl | exact .inr (.inl rfl) | exact .inr (.inr rfl))) ca_nil))))))))))

def b_is_step : EvS := sSeq (sIf (xOr (xNot (xTru (xIsj "tuple" (xVar 1)))) (xTB (x2 (gEqD true) (xA gLenU (xCons (xVar 1) (xNil))) (x2 gSub (xC (.int 6)) (xC (.int 2)))))) (sRet (xC (.bl false))) (sPass)) (sRet (xAndT (xA (onN 2 f_is_asking) (xCons (xVar 0) (xCons (xSl gCut (xVar 1) (xNoPart) (xPart (xC (.int 3)))) (xNil)))) (xA (onN 2 f_can_be_told) (xCons (x2 gItem (xVar 1) (xC (.int 1))) (xCons (x2 gItem (xVar 1) (xC (.int 3))) (xNil))))))
def f_is_step : List AV → Hh → Out AV := defO 2 b_is_step
theorem s_is_step : FnScope ["sorts", "thing"] ["sorts", "thing"] (defScope (top 39)) := ⟨rfl, rfl, rfl, by decide +kernel, rfl, by decide +kernel, by decide +kernel⟩
theorem d_is_step (T : Txt F mg) (h : At F mg "is_step" (top 39) ["sorts", "thing"]) (d_is_asking : Dn P w F mg base 5 "is_asking" 2 f_is_asking) (d_can_be_told : Dn P w F mg base 4 "can_be_told" 2 f_can_be_told)    : Dn P w F mg base 6 "is_step" 2 f_is_step :=
  dn_at h s_is_step fun E f cdv A outer s H hr tk ow => by
    have nd : (["sorts", "thing"] : List Str).Nodup := s_is_step.nd
    exact (css_cons (cs_if (ct_w (cw_or (ct_not (ct_truth rfl (ce_isj rfl rfl T.b_isinstance (by decide +kernel) (ce_var 1 rfl (by first | exact .inl rfl | exact .inr (.inl rfl) | exact .inr (.inr rfl))) rfl T.b_tuple (by decide +kernel)))) (cw_or1 (ct_cmp (opr_ne hr) p_ne (nomark _) (ce_lenU rfl rfl T.b_len (ca_cons (ce_var 1 rfl (by first | exact .inl rfl | exact .inr (.inl rfl) | exact .inr (.inr rfl))) ca_nil)) (ce_bin op_sub p_sub (ce_globI rfl T.g_PARTS_OF_CALL) (ce_globI rfl T.g_THING)))))) (css_one (cs_ret ce_bl)) css_nil) (css_one (cs_ret (ce_and rfl (ce_call d_is_asking rfl (by omega) hr tk rfl (ca_cons (ce_var 0 rfl (by first | exact .inl rfl | exact .inr (.inl rfl) | exact .inr (.inr rfl))) (ca_cons (ce_sl rfl (ce_var 1 rfl (by first | exact .inl rfl | exact .inr (.inl rfl) | exact .inr (.inr rfl))) co_none (co_some ce_int)) ca_nil))) (ce_one (ce_call d_can_be_told rfl (by omega) hr tk rfl (ca_cons (ce_ix rfl hr (ce_var 1 rfl (by first | exact .inl rfl | exact .inr (.inl rfl) | exact .inr (.inr rfl))) ce_int) (ca_cons (ce_ix rfl hr (ce_var 1 rfl (by first | exact .inl rfl | exact .inr (.inl rfl) | exact .inr (.inr rfl))) ce_int) ca_nil))))))))

def b_plain_call : EvS := sRet (x2 gAdd (xA mkT (xCons (xA (g1 gInt) (xCons (x2 gItem (xVar 0) (xC (.int 0))) (xNil))) (xCons (xA (g1 gInt) (xCons (x2 gItem (xVar 0) (xC (.int 1))) (xNil))) (xNil)))) (xA (onN 1 f_plain_step) (xCons (xSl gCut (xVar 0) (xPart (xC (.int 2))) (xNoPart)) (xNil))))
def f_plain_call : List AV → Hh → Out AV := defO 1 b_plain_call
theorem s_plain_call : FnScope ["call"] ["call"] (defScope (top 46)) := ⟨rfl, rfl, rfl, by decide +kernel, rfl, by decide +kernel, by decide +kernel⟩
theorem d_plain_call (T : Txt F mg) (h : At F mg "plain_call" (top 46) ["call"]) (d_plain_step : Dn P w F mg base 2 "plain_step" 1 f_plain_step)    : Dn P w F mg base 3 "plain_call" 1 f_plain_call :=
  dn_at h s_plain_call fun E f cdv A outer s H hr tk ow => by
    have nd : (["call"] : List Str).Nodup := s_plain_call.nd
    exact (css_one (cs_ret (ce_bin opr_add (p_add rfl) (ce_tup (ca_cons (ce_callTy call_int1 p_int rfl T.b_int (by decide +kernel) (ca_cons (ce_ix rfl hr (ce_var 0 rfl (by first | exact .inl rfl | exact .inr (.inl rfl) | exact .inr (.inr rfl))) (ce_globI rfl T.g_BEGIN)) ca_nil)) (ca_cons (ce_callTy call_int1 p_int rfl T.b_int (by decide +kernel) (ca_cons (ce_ix rfl hr (ce_var 0 rfl (by first | exact .inl rfl | exact .inr (.inl rfl) | exact .inr (.inr rfl))) (ce_globI rfl T.g_END)) ca_nil)) ca_nil))) (ce_call d_plain_step rfl (by omega) hr tk rfl (ca_cons (ce_sl rfl (ce_var 0 rfl (by first | exact .inl rfl | exact .inr (.inl rfl) | exact .inr (.inr rfl))) (co_some (ce_globI rfl T.g_THING)) co_none) ca_nil)))))

def b__is_call : EvS := sSeq (sIf (xOr (xNot (xTru (xIsj "tuple" (xVar 1)))) (xTB (x2 (gEqD true) (xA gLenU (xCons (xVar 1) (xNil))) (xC (.int 6))))) (sRet (xC (.bl false))) (sPass)) (sSeq (sAsg (xSl gCut (xVar 1) (xNoPart) (xPart (xC (.int 2)))) (yTup 2 (yCons (yName 2) (yCons (yName 3) (yNil))))) (sSeq (sIf (xOr (xNot (xTru (xA (onN 1 f_is_value) (xCons (xVar 2) (xNil))))) (xOr (xNot (xTru (xA (onN 1 f_is_value) (xCons (xVar 3) (xNil))))) (xTB (x2 gGe (xVar 2) (xVar 3))))) (sRet (xC (.bl false))) (sPass)) (sRet (xA (onN 2 f_is_step) (xCons (xVar 0) (xCons (xSl gCut (xVar 1) (xPart (xC (.int 2))) (xNoPart)) (xNil)))))))
def f__is_call : List AV → Hh → Out AV := defO 4 b__is_call
theorem s__is_call : FnScope ["sorts", "thing", "begin", "end"] ["sorts", "thing"] (defScope (top 38)) := ⟨rfl, rfl, rfl, by decide +kernel, rfl, by decide +kernel, by decide +kernel⟩
theorem d__is_call (T : Txt F mg) (h : At F mg "_is_call" (top 38) ["sorts", "thing"]) (d_is_value : Dn P w F mg base 2 "is_value" 1 f_is_value) (d_is_step : Dn P w F mg base 6 "is_step" 2 f_is_step)    : Dn P w F mg base 7 "_is_call" 2 f__is_call :=
  dn_at h s__is_call fun E f cdv A outer s H hr tk ow => by
    have nd : (["sorts", "thing", "begin", "end"] : List Str).Nodup := s__is_call.nd
    exact (css_cons (cs_if (ct_w (cw_or (ct_not (ct_truth rfl (ce_isj rfl rfl T.b_isinstance (by decide +kernel) (ce_var 1 rfl (by first | exact .inl rfl | exact .inr (.inl rfl) | exact .inr (.inr rfl))) rfl T.b_tuple (by decide +kernel)))) (cw_or1 (ct_cmp (opr_ne hr) p_ne (nomark _) (ce_lenU rfl rfl T.b_len (ca_cons (ce_var 1 rfl (by first | exact .inl rfl | exact .inr (.inl rfl) | exact .inr (.inr rfl))) ca_nil)) (ce_globI rfl T.g_PARTS_OF_CALL))))) (css_one (cs_ret ce_bl)) css_nil) (css_cons (cs_asg (ce_sl rfl (ce_var 1 rfl (by first | exact .inl rfl | exact .inr (.inl rfl) | exact .inr (.inr rfl))) co_none (co_some (ce_globI rfl T.g_THING))) (cg_tup rfl rfl (cgs_cons (cg_name 2 nd rfl (by first | exact .inl rfl | exact .inr rfl)) (cgs_cons (cg_name 3 nd rfl (by first | exact .inl rfl | exact .inr rfl)) cgs_nil)))) (css_cons (cs_if (ct_w (cw_or (ct_not (ct_truth rfl (ce_call d_is_value rfl (by omega) hr tk rfl (ca_cons (ce_var 2 rfl (by first | exact .inl rfl | exact .inr (.inl rfl) | exact .inr (.inr rfl))) ca_nil)))) (cw_or (ct_not (ct_truth rfl (ce_call d_is_value rfl (by omega) hr tk rfl (ca_cons (ce_var 3 rfl (by first | exact .inl rfl | exact .inr (.inl rfl) | exact .inr (.inr rfl))) ca_nil)))) (cw_or1 (ct_cmp op_ge p_ge (nomark _) (ce_var 2 rfl (by first | exact .inl rfl | exact .inr (.inl rfl) | exact .inr (.inr rfl))) (ce_var 3 rfl (by first | exact .inl rfl | exact .inr (.inl rfl) | exact .inr (.inr rfl)))))))) (css_one (cs_ret ce_bl)) css_nil) (css_one (cs_ret (ce_call d_is_step rfl (by omega) hr tk rfl (ca_cons (ce_var 0 rfl (by first | exact .inl rfl | exact .inr (.inl rfl) | exact .inr (.inr rfl))) (ca_cons (ce_sl rfl (ce_var 1 rfl (by first | exact .inl rfl | exact .inr (.inl rfl) | exact .inr (.inr rfl))) (co_some (ce_globI rfl T.g_THING)) co_none) ca_nil))))))))

def b_need_history : EvS := sSeq (sIf (xNot (xTru (xA (onN 1 f__is_pair_of_tuples) (xCons (xVar 0) (xNil))))) (sRaise "BadHistory" "given" (xCons (xC (.str "form")) (xNil))) (sPass)) (sSeq (sAsg (xVar 0) (yTup 2 (yCons (yName 1) (yCons (yName 2) (yNil))))) (sSeq (sIf (xNot (xTru (xA (onN 1 f_are_sorts) (xCons (xVar 1) (xNil))))) (sRaise "BadHistory" "given" (xCons (xC (.str "sorts")) (xNil))) (sPass)) (sSeq (sIf (xOr (xTB (x2 gGt (xA gLenU (xCons (xVar 2) (xNil))) (xC (.int 10)))) (xNot (xTru (xGx true (xIter (xVar 2)) (yName 3) (xYes) (xA (onN 2 f__is_call) (xCons (xVar 1) (xCons (xVar 3) (xNil)))) [3])))) (sRaise "BadHistory" "given" (xCons (xC (.str "calls")) (xNil))) (sPass)) (sSeq (sIf (xNot (xTru (xA (onN 1 f__keep_moments) (xCons (xVar 2) (xNil))))) (sRaise "BadHistory" "given" (xCons (xC (.str "moments")) (xNil))) (sPass)) (sSeq (sIf (xTru (xA (onN 1 f_give_twice) (xCons (xLc (xIter (xVar 2)) (yName 3) (xYes) (xSl gCut (xVar 3) (xPart (xC (.int 2))) (xNoPart)) [3]) (xNil)))) (sRaise "BadHistory" "given" (xCons (xC (.str "twice")) (xNil))) (sPass)) (sRet (xVar 0)))))))
def f_need_history : List AV → Hh → Out AV := defO 4 b_need_history
theorem s_need_history : FnScope ["thing", "sorts", "calls", "call"] ["thing"] (defScope (top 36)) := ⟨rfl, rfl, rfl, by decide +kernel, rfl, by decide +kernel, by decide +kernel⟩
theorem d_need_history (T : Txt F mg) (h : AtC F mg base "need_history" (top 36) ["thing"]) (d__is_pair_of_tuples : Dn P w F mg base 1 "_is_pair_of_tuples" 1 f__is_pair_of_tuples) (d_are_sorts : Dn P w F mg base 5 "are_sorts" 1 f_are_sorts) (d__is_call : Dn P w F mg base 7 "_is_call" 2 f__is_call) (d__keep_moments : Dn P w F mg base 3 "_keep_moments" 1 f__keep_moments) (d_give_twice : Dn P w F mg base 2 "give_twice" 1 f_give_twice)  (x_BadHistory : Xcl P w F mg base "BadHistory" "given")  : Dn P w F mg base 9 "need_history" 1 f_need_history :=
  dn_atC h s_need_history fun E f tc tp A outer s H hr tk ow TB hP => by
    have nd : (["thing", "sorts", "calls", "call"] : List Str).Nodup := s_need_history.nd
    exact (css_cons (cs_if (ct_not (ct_truth rfl (ce_call d__is_pair_of_tuples rfl (by omega) hr tk rfl (ca_cons (ce_var 0 rfl (by first | exact .inl rfl | exact .inr (.inl rfl) | exact .inr (.inr rfl))) ca_nil)))) (css_one (cs_raise x_BadHistory rfl rfl hr tk rfl (ca_cons ce_str ca_nil))) css_nil) (css_cons (cs_asg (ce_var 0 rfl (by first | exact .inl rfl | exact .inr (.inl rfl) | exact .inr (.inr rfl))) (cg_tup rfl rfl (cgs_cons (cg_name 1 nd rfl (by first | exact .inl rfl | exact .inr rfl)) (cgs_cons (cg_name 2 nd rfl (by first | exact .inl rfl | exact .inr rfl)) cgs_nil)))) (css_cons (cs_if (ct_not (ct_truth rfl (ce_call d_are_sorts rfl (by omega) hr tk rfl (ca_cons (ce_var 1 rfl (by first | exact .inl rfl | exact .inr (.inl rfl) | exact .inr (.inr rfl))) ca_nil)))) (css_one (cs_raise x_BadHistory rfl rfl hr tk rfl (ca_cons ce_str ca_nil))) css_nil) (css_cons (cs_if (ct_w (cw_or (ct_cmp op_gt p_gt (nomark _) (ce_lenU rfl rfl T.b_len (ca_cons (ce_var 2 rfl (by first | exact .inl rfl | exact .inr (.inl rfl) | exact .inr (.inr rfl))) ca_nil)) (ce_globI rfl T.g_MOST_CALLS)) (cw_or1 (ct_not (ct_truth rfl (ce_all (own := [("call", 3)]) (P := tp) hP hr rfl T.b_all ⟨TB, rfl, blkOk_by (N := ["thing", "sorts", "calls", "call"]) (sc := (defScope (top 36))) (by decide +kernel), by decide +kernel, by decide +kernel, rfl, nd, rfl, fun _ => rfl⟩ (ci_seq rfl (ce_var 2 rfl (by first | exact .inl rfl | exact .inr (.inl rfl) | exact .inr (.inr rfl)))) ⟨_, fun _ _ _ _ _ _ _ => (pg_name (i := 3) nd rfl (by first | exact .inl rfl | exact .inr rfl)), (q_name 3)⟩ (by decide) (fun _ _ _ _ _ _ hB => cts_nil) (fun _ _ _ _ _ _ hB => (ce_call d__is_call rfl (by omega) hB takes0 rfl (ca_cons (ce_var 1 rfl (by first | exact .inl rfl | exact .inr (.inl rfl) | exact .inr (.inr rfl))) (ca_cons (ce_var 3 rfl (by first | exact .inl rfl | exact .inr (.inl rfl) | exact .inr (.inr rfl))) ca_nil)))))))))) (css_one (cs_raise x_BadHistory rfl rfl hr tk rfl (ca_cons ce_str ca_nil))) css_nil) (css_cons (cs_if (ct_not (ct_truth rfl (ce_call d__keep_moments rfl (by omega) hr tk rfl (ca_cons (ce_var 2 rfl (by first | exact .inl rfl | exact .inr (.inl rfl) | exact .inr (.inr rfl))) ca_nil)))) (css_one (cs_raise x_BadHistory rfl rfl hr tk rfl (ca_cons ce_str ca_nil))) css_nil) (css_cons (cs_if (ct_truth rfl (ce_call d_give_twice rfl (by omega) hr tk rfl (ca_cons (ce_lc (own := [("call", 3)]) rfl nd (ci_seq rfl (ce_var 2 rfl (by first | exact .inl rfl | exact .inr (.inl rfl) | exact .inr (.inr rfl)))) (blkOk_by (N := ["thing", "sorts", "calls", "call"]) (sc := (defScope (top 36))) (by decide +kernel)) ⟨_, fun _ _ _ _ _ => (pg_name (i := 3) nd rfl (by first | exact .inl rfl | exact .inr rfl)), (q_name 3)⟩ (by decide) (fun _ _ _ _ _ => cts_nil) (fun _ _ _ _ _ => (ce_sl rfl (ce_var 3 rfl (by first | exact .inl rfl | exact .inr (.inl rfl) | exact .inr (.inr rfl))) (co_some (ce_globI rfl T.g_THING)) co_none))) ca_nil))) (css_one (cs_raise x_BadHistory rfl rfl hr tk rfl (ca_cons ce_str ca_nil))) css_nil) (css_one (cs_ret (ce_var 0 rfl (by first | exact .inl rfl | exact .inr (.inl rfl) | exact .inr (.inr rfl)))))))))))

def b_plain_history : EvS := sSeq (sAsg (xA (onN 1 f_need_history) (xCons (xVar 0) (xNil))) (yTup 2 (yCons (yName 1) (yCons (yName 2) (yNil))))) (sRet (xA mkT (xCons (xA gTupU (xCons (xLc (xIter (xVar 1)) (yName 3) (xYes) (xA (onN 1 f_plain_sort) (xCons (xVar 3) (xNil))) [3]) (xNil))) (xCons (xA gTupU (xCons (xLc (xIter (xVar 2)) (yName 4) (xYes) (xA (onN 1 f_plain_call) (xCons (xVar 4) (xNil))) [4]) (xNil))) (xNil)))))
def f_plain_history : List AV → Hh → Out AV := defO 5 b_plain_history
theorem s_plain_history : FnScope ["history", "sorts", "calls", "sort", "call"] ["history"] (defScope (top 44)) := ⟨rfl, rfl, rfl, by decide +kernel, rfl, by decide +kernel, by decide +kernel⟩
theorem d_plain_history (T : Txt F mg) (h : At F mg "plain_history" (top 44) ["history"]) (d_need_history : Dn P w F mg base 9 "need_history" 1 f_need_history) (d_plain_call : Dn P w F mg base 3 "plain_call" 1 f_plain_call) (d_plain_sort : Dn P w F mg base 1 "plain_sort" 1 f_plain_sort)    : Dn P w F mg base 10 "plain_history" 1 f_plain_history :=
  dn_at h s_plain_history fun E f cdv A outer s H hr tk ow => by
    have nd : (["history", "sorts", "calls", "sort", "call"] : List Str).Nodup := s_plain_history.nd
    exact (css_cons (cs_asg (ce_call d_need_history rfl (by omega) hr tk rfl (ca_cons (ce_var 0 rfl (by first | exact .inl rfl | exact .inr (.inl rfl) | exact .inr (.inr rfl))) ca_nil)) (cg_tup rfl rfl (cgs_cons (cg_name 1 nd rfl (by first | exact .inl rfl | exact .inr rfl)) (cgs_cons (cg_name 2 nd rfl (by first | exact .inl rfl | exact .inr rfl)) cgs_nil)))) (css_one (cs_ret (ce_tup (ca_cons (ce_tupleU rfl rfl rfl T.b_tuple (ca_cons (ce_lc (own := [("sort", 3)]) rfl nd (ci_seq rfl (ce_var 1 rfl (by first | exact .inl rfl | exact .inr (.inl rfl) | exact .inr (.inr rfl)))) (blkOk_by (N := ["history", "sorts", "calls", "sort", "call"]) (sc := (defScope (top 44))) (by decide +kernel)) ⟨_, fun _ _ _ _ _ => (pg_name (i := 3) nd rfl (by first | exact .inl rfl | exact .inr rfl)), (q_name 3)⟩ (by decide) (fun _ _ _ _ _ => cts_nil) (fun _ _ _ _ _ => (ce_call d_plain_sort rfl (by omega) hr takes0 rfl (ca_cons (ce_var 3 rfl (by first | exact .inl rfl | exact .inr (.inl rfl) | exact .inr (.inr rfl))) ca_nil)))) ca_nil)) (ca_cons (ce_tupleU rfl rfl rfl T.b_tuple (ca_cons (ce_lc (own := [("call", 4)]) rfl nd (ci_seq rfl (ce_var 2 rfl (by first | exact .inl rfl | exact .inr (.inl rfl) | exact .inr (.inr rfl)))) (blkOk_by (N := ["history", "sorts", "calls", "sort", "call"]) (sc := (defScope (top 44))) (by decide +kernel)) ⟨_, fun _ _ _ _ _ => (pg_name (i := 4) nd rfl (by first | exact .inl rfl | exact .inr rfl)), (q_name 4)⟩ (by decide) (fun _ _ _ _ _ => cts_nil) (fun _ _ _ _ _ => (ce_call d_plain_call rfl (by omega) hr takes0 rfl (ca_cons (ce_var 4 rfl (by first | exact .inl rfl | exact .inr (.inl rfl) | exact .inr (.inr rfl))) ca_nil)))) ca_nil)) ca_nil))))))

def b_lone_thing : EvS := sSeq (sAsg (xA (onN 1 f_plain_history) (xCons (xVar 0) (xNil))) (yTup 2 (yCons (yName 2) (yCons (yName 3) (yNil))))) (sSeq (sIf (xOr (xTB (x2 (gEqD true) (xA gLenU (xCons (xVar 2) (xNil))) (xC (.int 1)))) (xTB (x2 (gInU true) (xA (onN 1 f_name_of) (xCons (x2 gItem (xVar 2) (xC (.int 0))) (xNil))) (xVar 1)))) (sRaise "BadHistory" "given" (xCons (xC (.str "sort")) (xNil))) (sPass)) (sRet (xA mkT (xCons (x2 gItem (xVar 2) (xC (.int 0))) (xCons (xVar 3) (xNil))))))
def f_lone_thing : List AV → Hh → Out AV := defO 4 b_lone_thing
theorem s_lone_thing : FnScope ["history", "names", "sorts", "calls"] ["history", "names"] (defScope (top 49)) := ⟨rfl, rfl, rfl, by decide +kernel, rfl, by decide +kernel, by decide +kernel⟩
theorem d_lone_thing (T : Txt F mg) (h : At F mg "lone_thing" (top 49) ["history", "names"]) (d_plain_history : Dn P w F mg base 10 "plain_history" 1 f_plain_history) (d_name_of : Dn P w F mg base 1 "name_of" 1 f_name_of)  (x_BadHistory : Xcl P w F mg base "BadHistory" "given")  : Dn P w F mg base 11 "lone_thing" 2 f_lone_thing :=
  dn_at h s_lone_thing fun E f cdv A outer s H hr tk ow => by
    have nd : (["history", "names", "sorts", "calls"] : List Str).Nodup := s_lone_thing.nd
    exact (css_cons (cs_asg (ce_call d_plain_history rfl (by omega) hr tk rfl (ca_cons (ce_var 0 rfl (by first | exact .inl rfl | exact .inr (.inl rfl) | exact .inr (.inr rfl))) ca_nil)) (cg_tup rfl rfl (cgs_cons (cg_name 2 nd rfl (by first | exact .inl rfl | exact .inr rfl)) (cgs_cons (cg_name 3 nd rfl (by first | exact .inl rfl | exact .inr rfl)) cgs_nil)))) (css_cons (cs_if (ct_w (cw_or (ct_cmp (opr_ne hr) p_ne (nomark _) (ce_lenU rfl rfl T.b_len (ca_cons (ce_var 2 rfl (by first | exact .inl rfl | exact .inr (.inl rfl) | exact .inr (.inr rfl))) ca_nil)) ce_int) (cw_or1 (ct_cmp (opr_ninU hr) (p_inU rfl true) (by with_unfolding_all rfl) (ce_call d_name_of rfl (by omega) hr tk rfl (ca_cons (ce_ix rfl hr (ce_var 2 rfl (by first | exact .inl rfl | exact .inr (.inl rfl) | exact .inr (.inr rfl))) ce_int) ca_nil)) (ce_var 1 rfl (by first | exact .inl rfl | exact .inr (.inl rfl) | exact .inr (.inr rfl))))))) (css_one (cs_raise x_BadHistory rfl rfl hr tk rfl (ca_cons ce_str ca_nil))) css_nil) (css_one (cs_ret (ce_tup (ca_cons (ce_ix rfl hr (ce_var 2 rfl (by first | exact .inl rfl | exact .inr (.inl rfl) | exact .inr (.inr rfl))) ce_int) (ca_cons (ce_var 3 rfl (by first | exact .inl rfl | exact .inr (.inl rfl) | exact .inr (.inr rfl))) ca_nil)))))))

def b_lone_calls : EvS := sRet (x2 gItem (xA (onN 2 f_lone_thing) (xCons (xVar 0) (xCons (xVar 1) (xNil)))) (xC (.int 1)))
def f_lone_calls : List AV → Hh → Out AV := defO 2 b_lone_calls
theorem s_lone_calls : FnScope ["history", "names"] ["history", "names"] (defScope (top 50)) := ⟨rfl, rfl, rfl, by decide +kernel, rfl, by decide +kernel, by decide +kernel⟩
theorem d_lone_calls (T : Txt F mg) (h : At F mg "lone_calls" (top 50) ["history", "names"]) (d_lone_thing : Dn P w F mg base 11 "lone_thing" 2 f_lone_thing)    : Dn P w F mg base 12 "lone_calls" 2 f_lone_calls :=
  dn_at h s_lone_calls fun E f cdv A outer s H hr tk ow => by
    have nd : (["history", "names"] : List Str).Nodup := s_lone_calls.nd
    exact (css_one (cs_ret (ce_ix rfl hr (ce_call d_lone_thing rfl (by omega) hr tk rfl (ca_cons (ce_var 0 rfl (by first | exact .inl rfl | exact .inr (.inl rfl) | exact .inr (.inr rfl))) (ca_cons (ce_var 1 rfl (by first | exact .inl rfl | exact .inr (.inl rfl) | exact .inr (.inr rfl))) ca_nil))) ce_int)))

def b_room_calls : EvS := sRet (xA (onN 2 f_lone_calls) (xCons (xVar 0) (xCons (xA mkT (xCons (xC (.str "room")) (xNil))) (xNil))))
def f_room_calls : List AV → Hh → Out AV := defO 1 b_room_calls
theorem s_room_calls : FnScope ["history"] ["history"] (defScope (top 75)) := ⟨rfl, rfl, rfl, by decide +kernel, rfl, by decide +kernel, by decide +kernel⟩
theorem d_room_calls (T : Txt F mg) (h : At F mg "room_calls" (top 75) ["history"]) (d_lone_calls : Dn P w F mg base 12 "lone_calls" 2 f_lone_calls)    : Dn P w F mg base 13 "room_calls" 1 f_room_calls :=
  dn_at h s_room_calls fun E f cdv A outer s H hr tk ow => by
    have nd : (["history"] : List Str).Nodup := s_room_calls.nd
    exact (css_one (cs_ret (ce_call d_lone_calls rfl (by omega) hr tk rfl (ca_cons (ce_var 0 rfl (by first | exact .inl rfl | exact .inr (.inl rfl) | exact .inr (.inr rfl))) (ca_cons (ce_tup (ca_cons ce_str ca_nil)) ca_nil)))))

def b__size_of : EvS := sRet (x2 gItem (x2 gItem (x2 gItem (xA (onN 1 f_plain_history) (xCons (xVar 0) (xNil))) (xC (.int 0))) (xC (.int 0))) (xC (.int 1)))
def f__size_of : List AV → Hh → Out AV := defO 1 b__size_of
theorem s__size_of : FnScope ["history"] ["history"] (defScope (top 76)) := ⟨rfl, rfl, rfl, by decide +kernel, rfl, by decide +kernel, by decide +kernel⟩
theorem d__size_of (T : Txt F mg) (h : At F mg "_size_of" (top 76) ["history"]) (d_plain_history : Dn P w F mg base 10 "plain_history" 1 f_plain_history)    : Dn P w F mg base 11 "_size_of" 1 f__size_of :=
  dn_at h s__size_of fun E f cdv A outer s H hr tk ow => by
    have nd : (["history"] : List Str).Nodup := s__size_of.nd
    exact (css_one (cs_ret (ce_ix rfl hr (ce_ix rfl hr (ce_ix rfl hr (ce_call d_plain_history rfl (by omega) hr tk rfl (ca_cons (ce_var 0 rfl (by first | exact .inl rfl | exact .inr (.inl rfl) | exact .inr (.inr rfl))) ca_nil)) ce_int) ce_int) ce_int)))

def b_crowd_behind : EvS := sSeq (sAsg (xA (onN 1 f_room_calls) (xCons (xVar 0) (xNil))) (yName 2)) (sSeq (sIf (xNot (xTru (xA (onN 2 f__is_moment) (xCons (xVar 2) (xCons (xVar 1) (xNil)))))) (sRaise "BadMoment" "given" (xCons (xVar 1) (xNil))) (sPass)) (sRet (xA (onN 2 f_crowd_of) (xCons (xVar 2) (xCons (xVar 1) (xNil))))))
def f_crowd_behind : List AV → Hh → Out AV := defO 3 b_crowd_behind
theorem s_crowd_behind : FnScope ["history", "moment", "calls"] ["history", "moment"] (defScope (top 82)) := ⟨rfl, rfl, rfl, by decide +kernel, rfl, by decide +kernel, by decide +kernel⟩
theorem d_crowd_behind (T : Txt F mg) (h : At F mg "crowd_behind" (top 82) ["history", "moment"]) (d_room_calls : Dn P w F mg base 13 "room_calls" 1 f_room_calls) (d__is_moment : Dn P w F mg base 3 "_is_moment" 2 f__is_moment) (d_crowd_of : Dn P w F mg base 1 "crowd_of" 2 f_crowd_of)  (x_BadMoment : Xcl P w F mg base "BadMoment" "given")  : Dn P w F mg base 14 "crowd_behind" 2 f_crowd_behind :=
  dn_at h s_crowd_behind fun E f cdv A outer s H hr tk ow => by
    have nd : (["history", "moment", "calls"] : List Str).Nodup := s_crowd_behind.nd
    exact (css_cons (cs_set (i := 2) nd rfl (by first | exact .inl rfl | exact .inr rfl) (ce_call d_room_calls rfl (by omega) hr tk rfl (ca_cons (ce_var 0 rfl (by first | exact .inl rfl | exact .inr (.inl rfl) | exact .inr (.inr rfl))) ca_nil))) (css_cons (cs_if (ct_not (ct_truth rfl (ce_call d__is_moment rfl (by omega) hr tk rfl (ca_cons (ce_var 2 rfl (by first | exact .inl rfl | exact .inr (.inl rfl) | exact .inr (.inr rfl))) (ca_cons (ce_var 1 rfl (by first | exact .inl rfl | exact .inr (.inl rfl) | exact .inr (.inr rfl))) ca_nil))))) (css_one (cs_raise x_BadMoment rfl rfl hr tk rfl (ca_cons (ce_var 1 rfl (by first | exact .inl rfl | exact .inr (.inl rfl) | exact .inr (.inr rfl))) ca_nil))) css_nil) (css_one (cs_ret (ce_call d_crowd_of rfl (by omega) hr tk rfl (ca_cons (ce_var 2 rfl (by first | exact .inl rfl | exact .inr (.inl rfl) | exact .inr (.inr rfl))) (ca_cons (ce_var 1 rfl (by first | exact .inl rfl | exact .inr (.inl rfl) | exact .inr (.inr rfl))) ca_nil)))))))

def b_free_values : EvS := sRet (xA gTupU (xCons (xA (onN 1 f_free_of) (xCons (xA (onN 1 f_room_calls) (xCons (xVar 0) (xNil))) (xNil))) (xNil)))
def f_free_values : List AV → Hh → Out AV := defO 1 b_free_values
theorem s_free_values : FnScope ["history"] ["history"] (defScope (top 85)) := ⟨rfl, rfl, rfl, by decide +kernel, rfl, by decide +kernel, by decide +kernel⟩
theorem d_free_values (T : Txt F mg) (h : At F mg "free_values" (top 85) ["history"]) (d_room_calls : Dn P w F mg base 13 "room_calls" 1 f_room_calls) (d_free_of : Dn P w F mg base 3 "free_of" 1 f_free_of)    : Dn P w F mg base 14 "free_values" 1 f_free_values :=
  dn_at h s_free_values fun E f cdv A outer s H hr tk ow => by
    have nd : (["history"] : List Str).Nodup := s_free_values.nd
    exact (css_one (cs_ret (ce_tupleU rfl rfl rfl T.b_tuple (ca_cons (ce_call d_free_of rfl (by omega) hr tk rfl (ca_cons (ce_call d_room_calls rfl (by omega) hr tk rfl (ca_cons (ce_var 0 rfl (by first | exact .inl rfl | exact .inr (.inl rfl) | exact .inr (.inr rfl))) ca_nil)) ca_nil)) ca_nil))))

def b_window_of : EvS := sSeq (sAsg (xA (onN 1 f_room_calls) (xCons (xVar 0) (xNil))) (yName 2)) (sSeq (sIf (xOr (xNot (xTru (xA (onN 1 f_is_value) (xCons (xVar 1) (xNil))))) (xNot (xTru (xA (onN 2 f__is_free) (xCons (xVar 2) (xCons (xVar 1) (xNil))))))) (sRaise "BadValue" "given" (xCons (xVar 1) (xNil))) (sPass)) (sRet (xA gTupU (xCons (xA (onN 2 f_window_in) (xCons (xVar 2) (xCons (xVar 1) (xNil)))) (xNil)))))
def f_window_of : List AV → Hh → Out AV := defO 3 b_window_of
theorem s_window_of : FnScope ["history", "some", "calls"] ["history", "some"] (defScope (top 88)) := ⟨rfl, rfl, rfl, by decide +kernel, rfl, by decide +kernel, by decide +kernel⟩
theorem d_window_of (T : Txt F mg) (h : At F mg "window_of" (top 88) ["history", "some"]) (d_room_calls : Dn P w F mg base 13 "room_calls" 1 f_room_calls) (d_is_value : Dn P w F mg base 2 "is_value" 1 f_is_value) (d__is_free : Dn P w F mg base 2 "_is_free" 2 f__is_free) (d_window_in : Dn P w F mg base 2 "window_in" 2 f_window_in)  (x_BadValue : Xcl P w F mg base "BadValue" "given")  : Dn P w F mg base 14 "window_of" 2 f_window_of :=
  dn_at h s_window_of fun E f cdv A outer s H hr tk ow => by
    have nd : (["history", "some", "calls"] : List Str).Nodup := s_window_of.nd
    exact (css_cons (cs_set (i := 2) nd rfl (by first | exact .inl rfl | exact .inr rfl) (ce_call d_room_calls rfl (by omega) hr tk rfl (ca_cons (ce_var 0 rfl (by first | exact .inl rfl | exact .inr (.inl rfl) | exact .inr (.inr rfl))) ca_nil))) (css_cons (cs_if (ct_w (cw_or (ct_not (ct_truth rfl (ce_call d_is_value rfl (by omega) hr tk rfl (ca_cons (ce_var 1 rfl (by first | exact .inl rfl | exact .inr (.inl rfl) | exact .inr (.inr rfl))) ca_nil)))) (cw_or1 (ct_not (ct_truth rfl (ce_call d__is_free rfl (by omega) hr tk rfl (ca_cons (ce_var 2 rfl (by first | exact .inl rfl | exact .inr (.inl rfl) | exact .inr (.inr rfl))) (ca_cons (ce_var 1 rfl (by first | exact .inl rfl | exact .inr (.inl rfl) | exact .inr (.inr rfl))) ca_nil)))))))) (css_one (cs_raise x_BadValue rfl rfl hr tk rfl (ca_cons (ce_var 1 rfl (by first | exact .inl rfl | exact .inr (.inl rfl) | exact .inr (.inr rfl))) ca_nil))) css_nil) (css_one (cs_ret (ce_tupleU rfl rfl rfl T.b_tuple (ca_cons (ce_call d_window_in rfl (by omega) hr tk rfl (ca_cons (ce_var 2 rfl (by first | exact .inl rfl | exact .inr (.inl rfl) | exact .inr (.inr rfl))) (ca_cons (ce_var 1 rfl (by first | exact .inl rfl | exact .inr (.inl rfl) | exact .inr (.inr rfl))) ca_nil))) ca_nil))))))

def b_room_paper : EvS := sSeq (sAsg (xA (onN 1 f_room_calls) (xCons (xVar 0) (xNil))) (yName 1)) (sSeq (sAsg (xA (onN 2 f_room_flaws) (xCons (xVar 1) (xCons (xA (onN 1 f__size_of) (xCons (xVar 0) (xNil))) (xNil)))) (yName 2)) (sSeq (sIf (xTru (xVar 2)) (sRet (x2 gItem (xVar 2) (xC (.int 0)))) (sPass)) (sRet (xA mkT (xCons (xC (.str "order")) (xCons (xA (onN 2 f__order_of) (xCons (xVar 1) (xCons (xA (onN 1 f__size_of) (xCons (xVar 0) (xNil))) (xNil)))) (xNil)))))))
def f_room_paper : List AV → Hh → Out AV := defO 3 b_room_paper
theorem s_room_paper : FnScope ["history", "calls", "flaws"] ["history"] (defScope (top 90)) := ⟨rfl, rfl, rfl, by decide +kernel, rfl, by decide +kernel, by decide +kernel⟩
theorem d_room_paper (T : Txt F mg) (h : At F mg "room_paper" (top 90) ["history"]) (d_room_calls : Dn P w F mg base 13 "room_calls" 1 f_room_calls) (d__size_of : Dn P w F mg base 11 "_size_of" 1 f__size_of) (d_room_flaws : Dn P w F mg base 5 "room_flaws" 2 f_room_flaws) (d__order_of : Dn P w F mg base 4 "_order_of" 2 f__order_of)    : Dn P w F mg base 14 "room_paper" 1 f_room_paper :=
  dn_at h s_room_paper fun E f cdv A outer s H hr tk ow => by
    have nd : (["history", "calls", "flaws"] : List Str).Nodup := s_room_paper.nd
    exact (css_cons (cs_set (i := 1) nd rfl (by first | exact .inl rfl | exact .inr rfl) (ce_call d_room_calls rfl (by omega) hr tk rfl (ca_cons (ce_var 0 rfl (by first | exact .inl rfl | exact .inr (.inl rfl) | exact .inr (.inr rfl))) ca_nil))) (css_cons (cs_set (i := 2) nd rfl (by first | exact .inl rfl | exact .inr rfl) (ce_call d_room_flaws rfl (by omega) hr tk rfl (ca_cons (ce_var 1 rfl (by first | exact .inl rfl | exact .inr (.inl rfl) | exact .inr (.inr rfl))) (ca_cons (ce_call d__size_of rfl (by omega) hr tk rfl (ca_cons (ce_var 0 rfl (by first | exact .inl rfl | exact .inr (.inl rfl) | exact .inr (.inr rfl))) ca_nil)) ca_nil)))) (css_cons (cs_if (ct_truth rfl (ce_var 2 rfl (by first | exact .inl rfl | exact .inr (.inl rfl) | exact .inr (.inr rfl)))) (css_one (cs_ret (ce_ix rfl hr (ce_var 2 rfl (by first | exact .inl rfl | exact .inr (.inl rfl) | exact .inr (.inr rfl))) ce_int))) css_nil) (css_one (cs_ret (ce_tup (ca_cons ce_str (ca_cons (ce_call d__order_of rfl (by omega) hr tk rfl (ca_cons (ce_var 1 rfl (by first | exact .inl rfl | exact .inr (.inl rfl) | exact .inr (.inr rfl))) (ca_cons (ce_call d__size_of rfl (by omega) hr tk rfl (ca_cons (ce_var 0 rfl (by first | exact .inl rfl | exact .inr (.inl rfl) | exact .inr (.inr rfl))) ca_nil)) ca_nil))) ca_nil))))))))

def b_check_room : EvS := sSeq (sAsg (xA (onN 1 f_room_calls) (xCons (xVar 0) (xNil))) (yName 2)) (sSeq (sAsg (xA (onN 2 f_word_of_paper) (xCons (xVar 1) (xCons (xC (.kt [(.kt [(.str "order"), (.int (2))]), (.kt [(.str "strange"), (.int (2))]), (.kt [(.str "early"), (.int (2))]), (.kt [(.str "crowd"), (.int (2))]), (.kt [(.str "covered"), (.int (2))])])) (xNil)))) (yName 3)) (sSeq (sIf (xNot (xTru (xA (onN 4 f__holds) (xCons (xVar 2) (xCons (xA (onN 1 f__size_of) (xCons (xVar 0) (xNil))) (xCons (xVar 3) (xCons (x2 gItem (xVar 1) (xC (.int 1))) (xNil)))))))) (sRaise "BadPaper" "part" (xCons (xVar 3) (xNil))) (sPass)) (sRet (xVar 3))))
def f_check_room : List AV → Hh → Out AV := defO 4 b_check_room
theorem s_check_room : FnScope ["history", "paper", "calls", "word"] ["history", "paper"] (defScope (top 95)) := ⟨rfl, rfl, rfl, by decide +kernel, rfl, by decide +kernel, by decide +kernel⟩
theorem d_check_room (T : Txt F mg) (h : At F mg "check_room" (top 95) ["history", "paper"]) (d_room_calls : Dn P w F mg base 13 "room_calls" 1 f_room_calls) (d_word_of_paper : Dn P w F mg base 3 "word_of_paper" 2 f_word_of_paper) (d__size_of : Dn P w F mg base 11 "_size_of" 1 f__size_of) (d__holds : Dn P w F mg base 5 "_holds" 4 f__holds)  (x_BadPaper : Xcl P w F mg base "BadPaper" "part")  : Dn P w F mg base 14 "check_room" 2 f_check_room :=
  dn_at h s_check_room fun E f cdv A outer s H hr tk ow => by
    have nd : (["history", "paper", "calls", "word"] : List Str).Nodup := s_check_room.nd
    exact (css_cons (cs_set (i := 2) nd rfl (by first | exact .inl rfl | exact .inr rfl) (ce_call d_room_calls rfl (by omega) hr tk rfl (ca_cons (ce_var 0 rfl (by first | exact .inl rfl | exact .inr (.inl rfl) | exact .inr (.inr rfl))) ca_nil))) (css_cons (cs_set (i := 3) nd rfl (by first | exact .inl rfl | exact .inr rfl) (ce_call d_word_of_paper rfl (by omega) hr tk rfl (ca_cons (ce_var 1 rfl (by first | exact .inl rfl | exact .inr (.inl rfl) | exact .inr (.inr rfl))) (ca_cons (ce_globT rfl T.g_FORMS_rooms) ca_nil)))) (css_cons (cs_if (ct_not (ct_truth rfl (ce_call d__holds rfl (by omega) hr tk rfl (ca_cons (ce_var 2 rfl (by first | exact .inl rfl | exact .inr (.inl rfl) | exact .inr (.inr rfl))) (ca_cons (ce_call d__size_of rfl (by omega) hr tk rfl (ca_cons (ce_var 0 rfl (by first | exact .inl rfl | exact .inr (.inl rfl) | exact .inr (.inr rfl))) ca_nil)) (ca_cons (ce_var 3 rfl (by first | exact .inl rfl | exact .inr (.inl rfl) | exact .inr (.inr rfl))) (ca_cons (ce_ix rfl hr (ce_var 1 rfl (by first | exact .inl rfl | exact .inr (.inl rfl) | exact .inr (.inr rfl))) ce_int) ca_nil))))))) (css_one (cs_raise x_BadPaper rfl rfl hr tk rfl (ca_cons (ce_var 3 rfl (by first | exact .inl rfl | exact .inr (.inl rfl) | exact .inr (.inr rfl))) ca_nil))) css_nil) (css_one (cs_ret (ce_var 3 rfl (by first | exact .inl rfl | exact .inr (.inl rfl) | exact .inr (.inr rfl))))))))

def b_room_bar : EvS := sSeq (sAsg (xA (onN 2 f_check_room) (xCons (xVar 0) (xCons (xVar 1) (xNil)))) (yName 2)) (sSeq (sIf (xTB (x2 (gEqD false) (xVar 2) (xC (.str "order")))) (sRaise "BadPaper" "part" (xCons (xC (.str "order")) (xNil))) (sPass)) (sSeq (sAsg (xA (onN 1 f_room_calls) (xCons (xVar 0) (xNil))) (yName 3)) (sSeq (sIf (xTB (x2 (gEqD false) (xVar 2) (xC (.str "strange")))) (sRet (xA mkT (xCons (xA (g1 gInt) (xCons (x2 gItem (xVar 1) (xC (.int 1))) (xNil))) (xNil)))) (sPass)) (sSeq (sIf (xTB (x2 (gEqD false) (xVar 2) (xC (.str "early")))) (sAsg (xA mkT (xCons (x2 gItem (x2 gItem (xVar 3) (x2 gItem (xVar 1) (xC (.int 1)))) (xC (.int 4))) (xNil))) (yName 4)) (sIf (xTB (x2 (gEqD false) (xVar 2) (xC (.str "crowd")))) (sAsg (xA (onN 2 f_crowd_of) (xCons (xVar 3) (xCons (x2 gItem (xVar 1) (xC (.int 1))) (xNil)))) (yName 4)) (sAsg (xA (onN 2 f__values_over) (xCons (xVar 3) (xCons (x2 gItem (xVar 1) (xC (.int 1))) (xNil)))) (yName 4)))) (sRet (xA gTupU (xCons (xLc (xEnumU (xCons (xVar 3) (xNil))) (yTup 2 (yCons (yName 5) (yCons (yName 6) (yNil)))) (xTB (x2 (gInU false) (x2 gItem (xVar 6) (xC (.int 4))) (xVar 4))) (xVar 5) [5, 6]) (xNil))))))))
def f_room_bar : List AV → Hh → Out AV := defO 7 b_room_bar
theorem s_room_bar : FnScope ["history", "paper", "word", "calls", "values", "number", "call"] ["history", "paper"] (defScope (top 97)) := ⟨rfl, rfl, rfl, by decide +kernel, rfl, by decide +kernel, by decide +kernel⟩
theorem d_room_bar (T : Txt F mg) (h : At F mg "room_bar" (top 97) ["history", "paper"]) (d_check_room : Dn P w F mg base 14 "check_room" 2 f_check_room) (d_room_calls : Dn P w F mg base 13 "room_calls" 1 f_room_calls) (d_crowd_of : Dn P w F mg base 1 "crowd_of" 2 f_crowd_of) (d__values_over : Dn P w F mg base 3 "_values_over" 2 f__values_over)  (x_BadPaper : Xcl P w F mg base "BadPaper" "part")  : Dn P w F mg base 15 "room_bar" 2 f_room_bar :=
  dn_at h s_room_bar fun E f cdv A outer s H hr tk ow => by
    have nd : (["history", "paper", "word", "calls", "values", "number", "call"] : List Str).Nodup := s_room_bar.nd
    exact (css_cons (cs_set (i := 2) nd rfl (by first | exact .inl rfl | exact .inr rfl) (ce_call d_check_room rfl (by omega) hr tk rfl (ca_cons (ce_var 0 rfl (by first | exact .inl rfl | exact .inr (.inl rfl) | exact .inr (.inr rfl))) (ca_cons (ce_var 1 rfl (by first | exact .inl rfl | exact .inr (.inl rfl) | exact .inr (.inr rfl))) ca_nil)))) (css_cons (cs_if (ct_cmp (opr_eq hr) p_eq (nomark _) (ce_var 2 rfl (by first | exact .inl rfl | exact .inr (.inl rfl) | exact .inr (.inr rfl))) ce_str) (css_one (cs_raise x_BadPaper rfl rfl hr tk rfl (ca_cons ce_str ca_nil))) css_nil) (css_cons (cs_set (i := 3) nd rfl (by first | exact .inl rfl | exact .inr rfl) (ce_call d_room_calls rfl (by omega) hr tk rfl (ca_cons (ce_var 0 rfl (by first | exact .inl rfl | exact .inr (.inl rfl) | exact .inr (.inr rfl))) ca_nil))) (css_cons (cs_if (ct_cmp (opr_eq hr) p_eq (nomark _) (ce_var 2 rfl (by first | exact .inl rfl | exact .inr (.inl rfl) | exact .inr (.inr rfl))) ce_str) (css_one (cs_ret (ce_tup (ca_cons (ce_callTy call_int1 p_int rfl T.b_int (by decide +kernel) (ca_cons (ce_ix rfl hr (ce_var 1 rfl (by first | exact .inl rfl | exact .inr (.inl rfl) | exact .inr (.inr rfl))) ce_int) ca_nil)) ca_nil)))) css_nil) (css_cons (cs_if (ct_cmp (opr_eq hr) p_eq (nomark _) (ce_var 2 rfl (by first | exact .inl rfl | exact .inr (.inl rfl) | exact .inr (.inr rfl))) ce_str) (css_one (cs_set (i := 4) nd rfl (by first | exact .inl rfl | exact .inr rfl) (ce_tup (ca_cons (ce_ix rfl hr (ce_ix rfl hr (ce_var 3 rfl (by first | exact .inl rfl | exact .inr (.inl rfl) | exact .inr (.inr rfl))) (ce_ix rfl hr (ce_var 1 rfl (by first | exact .inl rfl | exact .inr (.inl rfl) | exact .inr (.inr rfl))) ce_int)) (ce_globI rfl T.g_GIVEN)) ca_nil)))) (css_one (cs_if (ct_cmp (opr_eq hr) p_eq (nomark _) (ce_var 2 rfl (by first | exact .inl rfl | exact .inr (.inl rfl) | exact .inr (.inr rfl))) ce_str) (css_one (cs_set (i := 4) nd rfl (by first | exact .inl rfl | exact .inr rfl) (ce_call d_crowd_of rfl (by omega) hr tk rfl (ca_cons (ce_var 3 rfl (by first | exact .inl rfl | exact .inr (.inl rfl) | exact .inr (.inr rfl))) (ca_cons (ce_ix rfl hr (ce_var 1 rfl (by first | exact .inl rfl | exact .inr (.inl rfl) | exact .inr (.inr rfl))) ce_int) ca_nil))))) (css_one (cs_set (i := 4) nd rfl (by first | exact .inl rfl | exact .inr rfl) (ce_call d__values_over rfl (by omega) hr tk rfl (ca_cons (ce_var 3 rfl (by first | exact .inl rfl | exact .inr (.inl rfl) | exact .inr (.inr rfl))) (ca_cons (ce_ix rfl hr (ce_var 1 rfl (by first | exact .inl rfl | exact .inr (.inl rfl) | exact .inr (.inr rfl))) ce_int) ca_nil)))))))) (css_one (cs_ret (ce_tupleU rfl rfl rfl T.b_tuple (ca_cons (ce_lc (own := [("number", 5), ("call", 6)]) rfl nd (ci_enumU rfl rfl T.b_enumerate (ca_cons (ce_var 3 rfl (by first | exact .inl rfl | exact .inr (.inl rfl) | exact .inr (.inr rfl))) ca_nil)) (blkOk_by (N := ["history", "paper", "word", "calls", "values", "number", "call"]) (sc := (defScope (top 97))) (by decide +kernel)) ⟨_, fun _ _ _ _ _ => (pg_tup rfl (pgs_cons (pg_name (i := 5) nd rfl (by first | exact .inl rfl | exact .inr rfl)) (pgs_cons (pg_name (i := 6) nd rfl (by first | exact .inl rfl | exact .inr rfl)) pgs_nil))), (q_tup (q_cons (q_name 5) (q_cons (q_name 6) q_nil)))⟩ (by decide) (fun _ _ _ _ _ => (cts_one (ct_cmp (opr_inU hr) (p_inU rfl false) (by with_unfolding_all rfl) (ce_ix rfl hr (ce_var 6 rfl (by first | exact .inl rfl | exact .inr (.inl rfl) | exact .inr (.inr rfl))) (ce_globI rfl T.g_GIVEN)) (ce_var 4 rfl (by first | exact .inl rfl | exact .inr (.inl rfl) | exact .inr (.inr rfl)))))) (fun _ _ _ _ _ => (ce_var 5 rfl (by first | exact .inl rfl | exact .inr (.inl rfl) | exact .inr (.inr rfl))))) ca_nil)))))))))

def b_least_room : EvS := sSeq (sAsg (xA (onN 1 f_room_calls) (xCons (xVar 0) (xNil))) (yName 1)) (sSeq (sIf (xTru (xA (onN 1 f_odd_leaves) (xCons (xVar 1) (xNil)))) (sRet (xC .non)) (sPass)) (sSeq (sAsg (xLc (xIter (xA (onN 1 f_moments_of) (xCons (xVar 1) (xNil)))) (yName 4) (xYes) (xA gLenU (xCons (xA (onN 2 f_crowd_of) (xCons (xVar 1) (xCons (xVar 4) (xNil)))) (xNil))) [4]) (yName 2)) (sSeq (sAsg (xLc (xIter (xA (onN 1 f_free_of) (xCons (xVar 1) (xNil)))) (yName 5) (xYes) (x2 gAdd (xC (.int 1)) (xA gMinU (xCons (xLc (xIter (xA (onN 2 f_window_in) (xCons (xVar 1) (xCons (xVar 5) (xNil))))) (yName 4) (xYes) (xA gLenU (xCons (xA (onN 2 f_crowd_of) (xCons (xVar 1) (xCons (xVar 4) (xNil)))) (xNil))) [4]) (xNil)))) [5]) (yName 3)) (sRet (xA gMaxU (xCons (x2 gAdd (x2 gAdd (xA mkL (xCons (xC (.int 1)) (xNil))) (xVar 2)) (xVar 3)) (xNil)))))))
def f_least_room : List AV → Hh → Out AV := defO 6 b_least_room
theorem s_least_room : FnScope ["history", "calls", "crowds", "through", "moment", "value"] ["history"] (defScope (top 100)) := ⟨rfl, rfl, rfl, by decide +kernel, rfl, by decide +kernel, by decide +kernel⟩
theorem d_least_room (T : Txt F mg) (h : At F mg "least_room" (top 100) ["history"]) (d_room_calls : Dn P w F mg base 13 "room_calls" 1 f_room_calls) (d_odd_leaves : Dn P w F mg base 3 "odd_leaves" 1 f_odd_leaves) (d_moments_of : Dn P w F mg base 1 "moments_of" 1 f_moments_of) (d_crowd_of : Dn P w F mg base 1 "crowd_of" 2 f_crowd_of) (d_free_of : Dn P w F mg base 3 "free_of" 1 f_free_of) (d_window_in : Dn P w F mg base 2 "window_in" 2 f_window_in)    : Dn P w F mg base 14 "least_room" 1 f_least_room :=
  dn_at h s_least_room fun E f cdv A outer s H hr tk ow => by
    have nd : (["history", "calls", "crowds", "through", "moment", "value"] : List Str).Nodup := s_least_room.nd
    exact (css_cons (cs_set (i := 1) nd rfl (by first | exact .inl rfl | exact .inr rfl) (ce_call d_room_calls rfl (by omega) hr tk rfl (ca_cons (ce_var 0 rfl (by first | exact .inl rfl | exact .inr (.inl rfl) | exact .inr (.inr rfl))) ca_nil))) (css_cons (cs_if (ct_truth rfl (ce_call d_odd_leaves rfl (by omega) hr tk rfl (ca_cons (ce_var 1 rfl (by first | exact .inl rfl | exact .inr (.inl rfl) | exact .inr (.inr rfl))) ca_nil))) (css_one (cs_ret ce_non)) css_nil) (css_cons (by first | exact (cs_setLc (i := 2) (own := [("moment", 4)]) rfl nd rfl rfl (sw_true rfl rfl rfl (by decide +kernel)) (ci_seq rfl (ce_call d_moments_of rfl (by omega) hr tk rfl (ca_cons (ce_var 1 rfl (by first | exact .inl rfl | exact .inr (.inl rfl) | exact .inr (.inr rfl))) ca_nil))) (blkOk_by (N := ["history", "calls", "crowds", "through", "moment", "value"]) (sc := (defScope (top 100))) (by decide +kernel)) ⟨_, fun _ _ _ _ _ => (pg_name (i := 4) nd rfl (by first | exact .inl rfl | exact .inr rfl)), (q_name 4)⟩ (by decide) (fun _ _ _ _ _ => cts_nil) (fun _ _ _ _ _ => (ce_lenU rfl rfl T.b_len (ca_cons (ce_call d_crowd_of rfl (by omega) hr takes0 rfl (ca_cons (ce_var 1 rfl (by first | exact .inl rfl | exact .inr (.inl rfl) | exact .inr (.inr rfl))) (ca_cons (ce_var 4 rfl (by first | exact .inl rfl | exact .inr (.inl rfl) | exact .inr (.inr rfl))) ca_nil))) ca_nil)))) | exact (cs_set (i := 2) nd rfl (by first | exact .inl rfl | exact .inr rfl) (ce_lc (own := [("moment", 4)]) rfl nd (ci_seq rfl (ce_call d_moments_of rfl (by omega) hr tk rfl (ca_cons (ce_var 1 rfl (by first | exact .inl rfl | exact .inr (.inl rfl) | exact .inr (.inr rfl))) ca_nil))) (blkOk_by (N := ["history", "calls", "crowds", "through", "moment", "value"]) (sc := (defScope (top 100))) (by decide +kernel)) ⟨_, fun _ _ _ _ _ => (pg_name (i := 4) nd rfl (by first | exact .inl rfl | exact .inr rfl)), (q_name 4)⟩ (by decide) (fun _ _ _ _ _ => cts_nil) (fun _ _ _ _ _ => (ce_lenU rfl rfl T.b_len (ca_cons (ce_call d_crowd_of rfl (by omega) hr takes0 rfl (ca_cons (ce_var 1 rfl (by first | exact .inl rfl | exact .inr (.inl rfl) | exact .inr (.inr rfl))) (ca_cons (ce_var 4 rfl (by first | exact .inl rfl | exact .inr (.inl rfl) | exact .inr (.inr rfl))) ca_nil))) ca_nil)))))) (css_cons (by first | exact (cs_setLc (i := 3) (own := [("value", 5)]) rfl nd rfl rfl (sw_true rfl rfl rfl (by decide +kernel)) (ci_seq rfl (ce_call d_free_of rfl (by omega) hr tk rfl (ca_cons (ce_var 1 rfl (by first | exact .inl rfl | exact .inr (.inl rfl) | exact .inr (.inr rfl))) ca_nil))) (blkOk_by (N := ["history", "calls", "crowds", "through", "moment", "value"]) (sc := (defScope (top 100))) (by decide +kernel)) ⟨_, fun _ _ _ _ _ => (pg_name (i := 5) nd rfl (by first | exact .inl rfl | exact .inr rfl)), (q_name 5)⟩ (by decide) (fun _ _ _ _ _ => cts_nil) (fun _ _ _ _ _ => (ce_bin opr_add (p_add rfl) ce_int (ce_min rfl rfl rfl T.b_min (ca_cons (ce_lc (own := [("moment", 4)]) rfl nd (ci_seq rfl (ce_call d_window_in rfl (by omega) hr takes0 rfl (ca_cons (ce_var 1 rfl (by first | exact .inl rfl | exact .inr (.inl rfl) | exact .inr (.inr rfl))) (ca_cons (ce_var 5 rfl (by first | exact .inl rfl | exact .inr (.inl rfl) | exact .inr (.inr rfl))) ca_nil)))) (blkOk_by (by kernel_rfl)) ⟨_, fun _ _ _ _ _ => (pg_name (i := 4) nd rfl (by first | exact .inl rfl | exact .inr rfl)), (q_name 4)⟩ (by decide) (fun _ _ _ _ _ => cts_nil) (fun _ _ _ _ _ => (ce_lenU rfl rfl T.b_len (ca_cons (ce_call d_crowd_of rfl (by omega) hr takes0 rfl (ca_cons (ce_var 1 rfl (by first | exact .inl rfl | exact .inr (.inl rfl) | exact .inr (.inr rfl))) (ca_cons (ce_var 4 rfl (by first | exact .inl rfl | exact .inr (.inl rfl) | exact .inr (.inr rfl))) ca_nil))) ca_nil)))) ca_nil))))) | exact (cs_set (i := 3) nd rfl (by first | exact .inl rfl | exact .inr rfl) (ce_lc (own := [("value", 5)]) rfl nd (ci_seq rfl (ce_call d_free_of rfl (by omega) hr tk rfl (ca_cons (ce_var 1 rfl (by first | exact .inl rfl | exact .inr (.inl rfl) | exact .inr (.inr rfl))) ca_nil))) (blkOk_by (N := ["history", "calls", "crowds", "through", "moment", "value"]) (sc := (defScope (top 100))) (by decide +kernel)) ⟨_, fun _ _ _ _ _ => (pg_name (i := 5) nd rfl (by first | exact .inl rfl | exact .inr rfl)), (q_name 5)⟩ (by decide) (fun _ _ _ _ _ => cts_nil) (fun _ _ _ _ _ => (ce_bin opr_add (p_add rfl) ce_int (ce_min rfl rfl rfl T.b_min (ca_cons (ce_lc (own := [("moment", 4)]) rfl nd (ci_seq rfl (ce_call d_window_in rfl (by omega) hr takes0 rfl (ca_cons (ce_var 1 rfl (by first | exact .inl rfl | exact .inr (.inl rfl) | exact .inr (.inr rfl))) (ca_cons (ce_var 5 rfl (by first | exact .inl rfl | exact .inr (.inl rfl) | exact .inr (.inr rfl))) ca_nil)))) (blkOk_by (by kernel_rfl)) ⟨_, fun _ _ _ _ _ => (pg_name (i := 4) nd rfl (by first | exact .inl rfl | exact .inr rfl)), (q_name 4)⟩ (by decide) (fun _ _ _ _ _ => cts_nil) (fun _ _ _ _ _ => (ce_lenU rfl rfl T.b_len (ca_cons (ce_call d_crowd_of rfl (by omega) hr takes0 rfl (ca_cons (ce_var 1 rfl (by first | exact .inl rfl | exact .inr (.inl rfl) | exact .inr (.inr rfl))) (ca_cons (ce_var 4 rfl (by first | exact .inl rfl | exact .inr (.inl rfl) | exact .inr (.inr rfl))) ca_nil))) ca_nil)))) ca_nil))))))) (css_one (cs_ret (ce_max rfl rfl rfl T.b_max (ca_cons (ce_bin opr_add (p_add rfl) (ce_bin opr_add (p_add rfl) (ce_lst (ca_cons ce_int ca_nil)) (ce_var 2 rfl (by first | exact .inl rfl | exact .inr (.inl rfl) | exact .inr (.inr rfl)))) (ce_var 3 rfl (by first | exact .inl rfl | exact .inr (.inl rfl) | exact .inr (.inr rfl)))) ca_nil))))))))

def b_sized : EvS := sSeq (sAsg (xA (onN 1 f_room_calls) (xCons (xVar 0) (xNil))) (yName 2)) (sSeq (sIf (xNot (xTru (xA (onN 1 f_is_room) (xCons (xA mkT (xCons (xC (.str "room")) (xCons (xVar 1) (xNil)))) (xNil))))) (sRaise "BadNumber" "given" (xCons (xVar 1) (xNil))) (sPass)) (sRet (xA mkT (xCons (xA mkT (xCons (xA mkT (xCons (xC (.str "room")) (xCons (xA (g1 gInt) (xCons (xVar 1) (xNil))) (xNil)))) (xNil))) (xCons (xVar 2) (xNil))))))
def f_sized : List AV → Hh → Out AV := defO 3 b_sized
theorem s_sized : FnScope ["history", "number", "calls"] ["history", "number"] (defScope (top 101)) := ⟨rfl, rfl, rfl, by decide +kernel, rfl, by decide +kernel, by decide +kernel⟩
theorem d_sized (T : Txt F mg) (h : At F mg "sized" (top 101) ["history", "number"]) (d_room_calls : Dn P w F mg base 13 "room_calls" 1 f_room_calls) (d_is_room : Dn P w F mg base 2 "is_room" 1 f_is_room)  (x_BadNumber : Xcl P w F mg base "BadNumber" "given")  : Dn P w F mg base 14 "sized" 2 f_sized :=
  dn_at h s_sized fun E f cdv A outer s H hr tk ow => by
    have nd : (["history", "number", "calls"] : List Str).Nodup := s_sized.nd
    exact (css_cons (cs_set (i := 2) nd rfl (by first | exact .inl rfl | exact .inr rfl) (ce_call d_room_calls rfl (by omega) hr tk rfl (ca_cons (ce_var 0 rfl (by first | exact .inl rfl | exact .inr (.inl rfl) | exact .inr (.inr rfl))) ca_nil))) (css_cons (cs_if (ct_not (ct_truth rfl (ce_call d_is_room rfl (by omega) hr tk rfl (ca_cons (ce_tup (ca_cons ce_str (ca_cons (ce_var 1 rfl (by first | exact .inl rfl | exact .inr (.inl rfl) | exact .inr (.inr rfl))) ca_nil))) ca_nil)))) (css_one (cs_raise x_BadNumber rfl rfl hr tk rfl (ca_cons (ce_var 1 rfl (by first | exact .inl rfl | exact .inr (.inl rfl) | exact .inr (.inr rfl))) ca_nil))) css_nil) (css_one (cs_ret (ce_tup (ca_cons (ce_tup (ca_cons (ce_tup (ca_cons ce_str (ca_cons (ce_callTy call_int1 p_int rfl T.b_int (by decide +kernel) (ca_cons (ce_var 1 rfl (by first | exact .inl rfl | exact .inr (.inl rfl) | exact .inr (.inr rfl))) ca_nil)) ca_nil))) ca_nil)) (ca_cons (ce_var 2 rfl (by first | exact .inl rfl | exact .inr (.inl rfl) | exact .inr (.inr rfl))) ca_nil)))))))

def b__law_all_heard : EvS := sSeq (sAsg (xA mkL (xCons ((fun ρ h => f__law_heard ((xA (onN 2 f_crowd_behind) (xCons (xVar 0) (xCons (xC .non) (xNil)))) ρ) h)) (xCons ((fun ρ h => f__law_heard ((xA (onN 1 f_free_values) (xCons (xVar 0) (xNil))) ρ) h)) (xNil)))) (yName 1)) (sSeq (sAsg (x2 gAdd (xVar 1) (xA mkL (xCons ((fun ρ h => f__law_heard ((xA (onN 2 f_window_of) (xCons (xVar 0) (xCons (xC .non) (xNil)))) ρ) h)) (xCons ((fun ρ h => f__law_heard ((xA (onN 1 f_room_paper) (xCons (xVar 0) (xNil))) ρ) h)) (xNil))))) (yName 1)) (sSeq (sAsg (x2 gAdd (xVar 1) (xA mkL (xCons ((fun ρ h => f__law_heard ((xA (onN 2 f_check_room) (xCons (xVar 0) (xCons (xC .non) (xNil)))) ρ) h)) (xCons ((fun ρ h => f__law_heard ((xA (onN 2 f_room_bar) (xCons (xVar 0) (xCons (xC .non) (xNil)))) ρ) h)) (xNil))))) (yName 1)) (sRet (x2 gAdd (xVar 1) (xA mkL (xCons ((fun ρ h => f__law_heard ((xA (onN 1 f_least_room) (xCons (xVar 0) (xNil))) ρ) h)) (xCons ((fun ρ h => f__law_heard ((xA (onN 2 f_sized) (xCons (xVar 0) (xCons (xC .non) (xNil)))) ρ) h)) (xNil))))))))
def f__law_all_heard : List AV → Hh → Out AV := defO 2 b__law_all_heard
theorem s__law_all_heard : FnScope ["_law_history", "_law_told"] ["_law_history"] (defScope (top 107)) := ⟨rfl, rfl, rfl, by decide +kernel, rfl, by decide +kernel, by decide +kernel⟩
theorem d__law_all_heard (T : Txt F mg) (h : AtL F mg base "_law_all_heard" (top 107) ["_law_history"]) (d_free_values : Dn P w F mg base 14 "free_values" 1 f_free_values) (d_crowd_behind : Dn P w F mg base 14 "crowd_behind" 2 f_crowd_behind) (d_room_paper : Dn P w F mg base 14 "room_paper" 1 f_room_paper) (d_window_of : Dn P w F mg base 14 "window_of" 2 f_window_of) (d_room_bar : Dn P w F mg base 15 "room_bar" 2 f_room_bar) (d_check_room : Dn P w F mg base 14 "check_room" 2 f_check_room) (d_sized : Dn P w F mg base 14 "sized" 2 f_sized) (d_least_room : Dn P w F mg base 14 "least_room" 1 f_least_room)   (h__law_heard : At F mg "_law_heard" (top 106) ["_law_call"]) : Dn P w F mg base 18 "_law_all_heard" 1 f__law_all_heard :=
  dn_atL h s__law_all_heard fun E f tc tp A outer s H hr tk ow TB hL => by
    have nd : (["_law_history", "_law_told"] : List Str).Nodup := s__law_all_heard.nd
    exact (css_cons (cs_set (i := 1) nd rfl (by first | exact .inl rfl | exact .inr rfl) (ce_lst (ca_cons (ce_heard (k := 15) (n := 8) (jf := 3) (jc := 4) (je := 7) (ds := []) (ns := []) (sub := subq) rfl h__law_heard s__law_heard rfl rfl rfl rfl rfl (by decide) (by decide) (by decide) (by decide) (by first | exact .inl rfl | exact .inr (.inl rfl) | exact .inr (.inr rfl)) rfl rfl rfl rfl T.sub_ rfl (fun _ _ _ => rfl) (fun _ _ _ => rfl) (fun _ _ _ => rfl) (fun _ _ _ => rfl) (fun g cdv A outer s H hr3 => hr__law_heard T g cdv A outer s H hr3) rfl TB hL (lamT_by (N := ["_law_history", "_law_told"]) (sc := (defScope (top 107))) (by decide +kernel)) (lbind0 rfl rfl (fun _ _ _ _ _ => rfl)) hr (fun A outer s H E f c' hr2 => (ce_call d_crowd_behind rfl (by omega) hr2 (takes_of rfl rfl rfl rfl) rfl (ca_cons (ce_var 0 rfl (by first | exact .inl rfl | exact .inr (.inl rfl) | exact .inr (.inr rfl))) (ca_cons ce_non ca_nil)))) rfl) (ca_cons (ce_heard (k := 15) (n := 8) (jf := 3) (jc := 4) (je := 7) (ds := [0]) (ns := ["_law_a"]) (sub := subq) rfl h__law_heard s__law_heard rfl rfl rfl rfl rfl (by decide) (by decide) (by decide) (by decide) (by first | exact .inl rfl | exact .inr (.inl rfl) | exact .inr (.inr rfl)) rfl rfl rfl rfl T.sub_ rfl (fun _ _ _ => rfl) (fun _ _ _ => rfl) (fun _ _ _ => rfl) (fun _ _ _ => rfl) (fun g cdv A outer s H hr3 => hr__law_heard T g cdv A outer s H hr3) rfl TB hL (lamT_by (N := ["_law_history", "_law_told"]) (sc := (defScope (top 107))) (by decide +kernel)) (lbind1 rfl rfl rfl (fun _ _ _ _ _ _ _ => ⟨_, rfl, rfl⟩)) hr (fun A outer s H E f c' hr2 => (ce_call d_free_values rfl (by omega) hr2 (takes_of rfl rfl rfl rfl) rfl (ca_cons (ce_var 0 rfl (by first | exact .inl rfl | exact .inr (.inl rfl) | exact .inr (.inr rfl))) ca_nil))) rfl) ca_nil)))) (css_cons (cs_set (i := 1) nd rfl (by first | exact .inl rfl | exact .inr rfl) (ce_bin opr_add (p_add rfl) (ce_var 1 rfl (by first | exact .inl rfl | exact .inr (.inl rfl) | exact .inr (.inr rfl))) (ce_lst (ca_cons (ce_heard (k := 15) (n := 8) (jf := 3) (jc := 4) (je := 7) (ds := []) (ns := []) (sub := subq) rfl h__law_heard s__law_heard rfl rfl rfl rfl rfl (by decide) (by decide) (by decide) (by decide) (by first | exact .inl rfl | exact .inr (.inl rfl) | exact .inr (.inr rfl)) rfl rfl rfl rfl T.sub_ rfl (fun _ _ _ => rfl) (fun _ _ _ => rfl) (fun _ _ _ => rfl) (fun _ _ _ => rfl) (fun g cdv A outer s H hr3 => hr__law_heard T g cdv A outer s H hr3) rfl TB hL (lamT_by (N := ["_law_history", "_law_told"]) (sc := (defScope (top 107))) (by decide +kernel)) (lbind0 rfl rfl (fun _ _ _ _ _ => rfl)) hr (fun A outer s H E f c' hr2 => (ce_call d_window_of rfl (by omega) hr2 (takes_of rfl rfl rfl rfl) rfl (ca_cons (ce_var 0 rfl (by first | exact .inl rfl | exact .inr (.inl rfl) | exact .inr (.inr rfl))) (ca_cons ce_non ca_nil)))) rfl) (ca_cons (ce_heard (k := 15) (n := 8) (jf := 3) (jc := 4) (je := 7) (ds := [0]) (ns := ["_law_a"]) (sub := subq) rfl h__law_heard s__law_heard rfl rfl rfl rfl rfl (by decide) (by decide) (by decide) (by decide) (by first | exact .inl rfl | exact .inr (.inl rfl) | exact .inr (.inr rfl)) rfl rfl rfl rfl T.sub_ rfl (fun _ _ _ => rfl) (fun _ _ _ => rfl) (fun _ _ _ => rfl) (fun _ _ _ => rfl) (fun g cdv A outer s H hr3 => hr__law_heard T g cdv A outer s H hr3) rfl TB hL (lamT_by (N := ["_law_history", "_law_told"]) (sc := (defScope (top 107))) (by decide +kernel)) (lbind1 rfl rfl rfl (fun _ _ _ _ _ _ _ => ⟨_, rfl, rfl⟩)) hr (fun A outer s H E f c' hr2 => (ce_call d_room_paper rfl (by omega) hr2 (takes_of rfl rfl rfl rfl) rfl (ca_cons (ce_var 0 rfl (by first | exact .inl rfl | exact .inr (.inl rfl) | exact .inr (.inr rfl))) ca_nil))) rfl) ca_nil))))) (css_cons (cs_set (i := 1) nd rfl (by first | exact .inl rfl | exact .inr rfl) (ce_bin opr_add (p_add rfl) (ce_var 1 rfl (by first | exact .inl rfl | exact .inr (.inl rfl) | exact .inr (.inr rfl))) (ce_lst (ca_cons (ce_heard (k := 15) (n := 8) (jf := 3) (jc := 4) (je := 7) (ds := []) (ns := []) (sub := subq) rfl h__law_heard s__law_heard rfl rfl rfl rfl rfl (by decide) (by decide) (by decide) (by decide) (by first | exact .inl rfl | exact .inr (.inl rfl) | exact .inr (.inr rfl)) rfl rfl rfl rfl T.sub_ rfl (fun _ _ _ => rfl) (fun _ _ _ => rfl) (fun _ _ _ => rfl) (fun _ _ _ => rfl) (fun g cdv A outer s H hr3 => hr__law_heard T g cdv A outer s H hr3) rfl TB hL (lamT_by (N := ["_law_history", "_law_told"]) (sc := (defScope (top 107))) (by decide +kernel)) (lbind0 rfl rfl (fun _ _ _ _ _ => rfl)) hr (fun A outer s H E f c' hr2 => (ce_call d_check_room rfl (by omega) hr2 (takes_of rfl rfl rfl rfl) rfl (ca_cons (ce_var 0 rfl (by first | exact .inl rfl | exact .inr (.inl rfl) | exact .inr (.inr rfl))) (ca_cons ce_non ca_nil)))) rfl) (ca_cons (ce_heard (k := 15) (n := 8) (jf := 3) (jc := 4) (je := 7) (ds := [0]) (ns := ["_law_a"]) (sub := subq) rfl h__law_heard s__law_heard rfl rfl rfl rfl rfl (by decide) (by decide) (by decide) (by decide) (by first | exact .inl rfl | exact .inr (.inl rfl) | exact .inr (.inr rfl)) rfl rfl rfl rfl T.sub_ rfl (fun _ _ _ => rfl) (fun _ _ _ => rfl) (fun _ _ _ => rfl) (fun _ _ _ => rfl) (fun g cdv A outer s H hr3 => hr__law_heard T g cdv A outer s H hr3) rfl TB hL (lamT_by (N := ["_law_history", "_law_told"]) (sc := (defScope (top 107))) (by decide +kernel)) (lbind1 rfl rfl rfl (fun _ _ _ _ _ _ _ => ⟨_, rfl, rfl⟩)) hr (fun A outer s H E f c' hr2 => (ce_call d_room_bar rfl (by omega) hr2 (takes_of rfl rfl rfl rfl) rfl (ca_cons (ce_var 0 rfl (by first | exact .inl rfl | exact .inr (.inl rfl) | exact .inr (.inr rfl))) (ca_cons ce_non ca_nil)))) rfl) ca_nil))))) (css_one (cs_ret (ce_bin opr_add (p_add rfl) (ce_var 1 rfl (by first | exact .inl rfl | exact .inr (.inl rfl) | exact .inr (.inr rfl))) (ce_lst (ca_cons (ce_heard (k := 15) (n := 8) (jf := 3) (jc := 4) (je := 7) (ds := []) (ns := []) (sub := subq) rfl h__law_heard s__law_heard rfl rfl rfl rfl rfl (by decide) (by decide) (by decide) (by decide) (by first | exact .inl rfl | exact .inr (.inl rfl) | exact .inr (.inr rfl)) rfl rfl rfl rfl T.sub_ rfl (fun _ _ _ => rfl) (fun _ _ _ => rfl) (fun _ _ _ => rfl) (fun _ _ _ => rfl) (fun g cdv A outer s H hr3 => hr__law_heard T g cdv A outer s H hr3) rfl TB hL (lamT_by (N := ["_law_history", "_law_told"]) (sc := (defScope (top 107))) (by decide +kernel)) (lbind0 rfl rfl (fun _ _ _ _ _ => rfl)) hr (fun A outer s H E f c' hr2 => (ce_call d_least_room rfl (by omega) hr2 (takes_of rfl rfl rfl rfl) rfl (ca_cons (ce_var 0 rfl (by first | exact .inl rfl | exact .inr (.inl rfl) | exact .inr (.inr rfl))) ca_nil))) rfl) (ca_cons (ce_heard (k := 15) (n := 8) (jf := 3) (jc := 4) (je := 7) (ds := [0]) (ns := ["_law_a"]) (sub := subq) rfl h__law_heard s__law_heard rfl rfl rfl rfl rfl (by decide) (by decide) (by decide) (by decide) (by first | exact .inl rfl | exact .inr (.inl rfl) | exact .inr (.inr rfl)) rfl rfl rfl rfl T.sub_ rfl (fun _ _ _ => rfl) (fun _ _ _ => rfl) (fun _ _ _ => rfl) (fun _ _ _ => rfl) (fun g cdv A outer s H hr3 => hr__law_heard T g cdv A outer s H hr3) rfl TB hL (lamT_by (N := ["_law_history", "_law_told"]) (sc := (defScope (top 107))) (by decide +kernel)) (lbind1 rfl rfl rfl (fun _ _ _ _ _ _ _ => ⟨_, rfl, rfl⟩)) hr (fun A outer s H E f c' hr2 => (ce_call d_sized rfl (by omega) hr2 (takes_of rfl rfl rfl rfl) rfl (ca_cons (ce_var 0 rfl (by first | exact .inl rfl | exact .inr (.inl rfl) | exact .inr (.inr rfl))) (ca_cons ce_non ca_nil)))) rfl) ca_nil)))))))))

def b__law_histories_refused : EvS := sSeq (sAsg (xA mkT (xCons (xA mkT (xCons (xC (.int 0)) (xCons (xC (.int 1)) (xCons (xC (.int 0)) (xCons (xC (.str "enter")) (xCons (xC (.int 1)) (xCons (xC .non) (xNil)))))))) (xCons (xA mkT (xCons (xC (.int 2)) (xCons (xC (.int 3)) (xCons (xC (.int 0)) (xCons (xC (.str "leave")) (xCons (xC (.int 1)) (xCons (xC .non) (xNil)))))))) (xNil)))) (yTup 2 (yCons (yName 1) (yCons (yName 2) (yNil))))) (sSeq (sAsg (xA mkL (xCons (xA mkT (xCons (xC .non) (xCons (xC (.str "form")) (xNil)))) (xCons (xA mkT (xCons (xA mkL (xCons (xA mkT (xCons (xA mkT (xCons (xC (.str "room")) (xCons (xC (.int 1)) (xNil)))) (xNil))) (xCons (xA mkT (xNil)) (xNil)))) (xCons (xC (.str "form")) (xNil)))) (xCons (xA mkT (xCons (xA mkT (xCons (xA mkT (xCons (xA mkT (xCons (xC (.str "room")) (xCons (xC (.int 0)) (xNil)))) (xNil))) (xCons (xA mkT (xNil)) (xNil)))) (xCons (xC (.str "sorts")) (xNil)))) (xNil))))) (yName 0)) (sSeq (sAsg (x2 gAdd (xVar 0) (xA mkL (xCons (xA mkT (xCons (xA mkT (xCons (xA mkT (xCons (xA mkT (xCons (xC (.str "room")) (xCons (xC (.int 10)) (xNil)))) (xNil))) (xCons (xA mkT (xNil)) (xNil)))) (xCons (xC (.str "sorts")) (xNil)))) (xNil)))) (yName 0)) (sSeq (sAsg (x2 gAdd (xVar 0) (xA mkL (xCons (xA mkT (xCons (xA mkT (xCons (xA mkT (xCons (xA mkT (xCons (xC (.str "room")) (xCons (xC (.int 2)) (xNil)))) (xNil))) (xCons (xA mkT (xCons (xVar 1) (xCons (xC .non) (xNil)))) (xNil)))) (xCons (xC (.str "calls")) (xNil)))) (xCons (xA mkT (xCons (xA mkT (xCons (xA mkT (xCons (xA mkT (xCons (xC (.str "room")) (xCons (xC (.int 2)) (xNil)))) (xNil))) (xCons (xA mkT (xCons (xVar 2) (xCons (xVar 1) (xNil)))) (xNil)))) (xCons (xC (.str "moments")) (xNil)))) (xNil))))) (yName 0)) (sSeq (sAsg (x2 gAdd (xVar 0) (xA mkL (xCons (xA mkT (xCons (xA mkT (xCons (xA mkT (xCons (xA mkT (xCons (xC (.str "room")) (xCons (xC (.int 2)) (xNil)))) (xNil))) (xCons (xA mkT (xCons (xVar 1) (xCons (xA mkT (xCons (xC (.int 2)) (xCons (xC (.int 3)) (xCons (xC (.int 0)) (xCons (xC (.str "enter")) (xCons (xC (.int 1)) (xCons (xC .non) (xNil)))))))) (xNil)))) (xNil)))) (xCons (xC (.str "twice")) (xNil)))) (xCons (xA mkT (xCons (xA mkT (xCons (xA mkT (xCons (xC (.str "set")) (xNil))) (xCons (xA mkT (xNil)) (xNil)))) (xCons (xC (.str "sort")) (xNil)))) (xNil))))) (yName 0)) (sSeq (sAsg (x2 gAdd (xVar 0) (xA mkL (xCons (xA mkT (xCons (xA mkT (xCons (xA mkT (xCons (xA mkT (xCons (xC (.str "room")) (xCons (xC (.int 1)) (xNil)))) (xCons (xA mkT (xCons (xC (.str "room")) (xCons (xC (.int 1)) (xNil)))) (xNil)))) (xCons (xA mkT (xNil)) (xNil)))) (xCons (xC (.str "sort")) (xNil)))) (xCons (xA mkT (xCons (xA mkT (xCons (xA mkT (xCons (xC (.str "room")) (xCons (xC (.int 1)) (xNil)))) (xCons (xA mkT (xNil)) (xNil)))) (xCons (xC (.str "sorts")) (xNil)))) (xNil))))) (yName 0)) (sSeq (sFor (xIter (xVar 0)) (yTup 2 (yCons (yName 3) (yCons (yName 4) (yNil)))) (sIf (xTB (x2 (gEqD true) (xA (onN 1 f__law_all_heard) (xCons (xVar 3) (xNil))) (x2 gMulU (xA mkL (xCons (xA mkT (xCons (xC (.str "history")) (xCons (xVar 4) (xNil)))) (xNil))) (xC (.int 8))))) (sRet (xC (.bl false))) (sPass))) (sRet (xC (.bl true)))))))))
def f__law_histories_refused : List AV → Hh → Out AV := defO 5 b__law_histories_refused
theorem s__law_histories_refused : FnScope ["_law_some", "_law_one", "_law_two", "_law_thing", "_law_word"] [] (defScope (top 108)) := ⟨rfl, rfl, rfl, by decide +kernel, rfl, by decide +kernel, by decide +kernel⟩
theorem d__law_histories_refused (T : Txt F mg) (h : At F mg "_law_histories_refused" (top 108) []) (d__law_all_heard : Dn P w F mg base 18 "_law_all_heard" 1 f__law_all_heard)    : Dn P w F mg base 19 "_law_histories_refused" 0 f__law_histories_refused :=
  dn_at h s__law_histories_refused fun E f cdv A outer s H hr tk ow => by
    have nd : (["_law_some", "_law_one", "_law_two", "_law_thing", "_law_word"] : List Str).Nodup := s__law_histories_refused.nd
    exact (css_cons (cs_asg (ce_tup (ca_cons (ce_tup (ca_cons ce_int (ca_cons ce_int (ca_cons ce_int (ca_cons ce_str (ca_cons ce_int (ca_cons ce_non ca_nil))))))) (ca_cons (ce_tup (ca_cons ce_int (ca_cons ce_int (ca_cons ce_int (ca_cons ce_str (ca_cons ce_int (ca_cons ce_non ca_nil))))))) ca_nil))) (cg_tup rfl rfl (cgs_cons (cg_name 1 nd rfl (by first | exact .inl rfl | exact .inr rfl)) (cgs_cons (cg_name 2 nd rfl (by first | exact .inl rfl | exact .inr rfl)) cgs_nil)))) (css_cons (cs_set (i := 0) nd rfl (by first | exact .inl rfl | exact .inr rfl) (ce_lst (ca_cons (ce_tup (ca_cons ce_non (ca_cons ce_str ca_nil))) (ca_cons (ce_tup (ca_cons (ce_lst (ca_cons (ce_tup (ca_cons (ce_tup (ca_cons ce_str (ca_cons ce_int ca_nil))) ca_nil)) (ca_cons (ce_tup ca_nil) ca_nil))) (ca_cons ce_str ca_nil))) (ca_cons (ce_tup (ca_cons (ce_tup (ca_cons (ce_tup (ca_cons (ce_tup (ca_cons ce_str (ca_cons ce_int ca_nil))) ca_nil)) (ca_cons (ce_tup ca_nil) ca_nil))) (ca_cons ce_str ca_nil))) ca_nil))))) (css_cons (cs_set (i := 0) nd rfl (by first | exact .inl rfl | exact .inr rfl) (ce_bin opr_add (p_add rfl) (ce_var 0 rfl (by first | exact .inl rfl | exact .inr (.inl rfl) | exact .inr (.inr rfl))) (ce_lst (ca_cons (ce_tup (ca_cons (ce_tup (ca_cons (ce_tup (ca_cons (ce_tup (ca_cons ce_str (ca_cons ce_int ca_nil))) ca_nil)) (ca_cons (ce_tup ca_nil) ca_nil))) (ca_cons ce_str ca_nil))) ca_nil)))) (css_cons (cs_set (i := 0) nd rfl (by first | exact .inl rfl | exact .inr rfl) (ce_bin opr_add (p_add rfl) (ce_var 0 rfl (by first | exact .inl rfl | exact .inr (.inl rfl) | exact .inr (.inr rfl))) (ce_lst (ca_cons (ce_tup (ca_cons (ce_tup (ca_cons (ce_tup (ca_cons (ce_tup (ca_cons ce_str (ca_cons ce_int ca_nil))) ca_nil)) (ca_cons (ce_tup (ca_cons (ce_var 1 rfl (by first | exact .inl rfl | exact .inr (.inl rfl) | exact .inr (.inr rfl))) (ca_cons ce_non ca_nil))) ca_nil))) (ca_cons ce_str ca_nil))) (ca_cons (ce_tup (ca_cons (ce_tup (ca_cons (ce_tup (ca_cons (ce_tup (ca_cons ce_str (ca_cons ce_int ca_nil))) ca_nil)) (ca_cons (ce_tup (ca_cons (ce_var 2 rfl (by first | exact .inl rfl | exact .inr (.inl rfl) | exact .inr (.inr rfl))) (ca_cons (ce_var 1 rfl (by first | exact .inl rfl | exact .inr (.inl rfl) | exact .inr (.inr rfl))) ca_nil))) ca_nil))) (ca_cons ce_str ca_nil))) ca_nil))))) (css_cons (cs_set (i := 0) nd rfl (by first | exact .inl rfl | exact .inr rfl) (ce_bin opr_add (p_add rfl) (ce_var 0 rfl (by first | exact .inl rfl | exact .inr (.inl rfl) | exact .inr (.inr rfl))) (ce_lst (ca_cons (ce_tup (ca_cons (ce_tup (ca_cons (ce_tup (ca_cons (ce_tup (ca_cons ce_str (ca_cons ce_int ca_nil))) ca_nil)) (ca_cons (ce_tup (ca_cons (ce_var 1 rfl (by first | exact .inl rfl | exact .inr (.inl rfl) | exact .inr (.inr rfl))) (ca_cons (ce_tup (ca_cons ce_int (ca_cons ce_int (ca_cons ce_int (ca_cons ce_str (ca_cons ce_int (ca_cons ce_non ca_nil))))))) ca_nil))) ca_nil))) (ca_cons ce_str ca_nil))) (ca_cons (ce_tup (ca_cons (ce_tup (ca_cons (ce_tup (ca_cons ce_str ca_nil)) (ca_cons (ce_tup ca_nil) ca_nil))) (ca_cons ce_str ca_nil))) ca_nil))))) (css_cons (cs_set (i := 0) nd rfl (by first | exact .inl rfl | exact .inr rfl) (ce_bin opr_add (p_add rfl) (ce_var 0 rfl (by first | exact .inl rfl | exact .inr (.inl rfl) | exact .inr (.inr rfl))) (ce_lst (ca_cons (ce_tup (ca_cons (ce_tup (ca_cons (ce_tup (ca_cons (ce_tup (ca_cons ce_str (ca_cons ce_int ca_nil))) (ca_cons (ce_tup (ca_cons ce_str (ca_cons ce_int ca_nil))) ca_nil))) (ca_cons (ce_tup ca_nil) ca_nil))) (ca_cons ce_str ca_nil))) (ca_cons (ce_tup (ca_cons (ce_tup (ca_cons (ce_tup (ca_cons ce_str (ca_cons ce_int ca_nil))) (ca_cons (ce_tup ca_nil) ca_nil))) (ca_cons ce_str ca_nil))) ca_nil))))) (css_cons (cs_for ow rfl (ci_seq rfl (ce_var 0 rfl (by first | exact .inl rfl | exact .inr (.inl rfl) | exact .inr (.inr rfl)))) (cg_tup rfl rfl (cgs_cons (cg_name 3 nd rfl (by first | exact .inl rfl | exact .inr rfl)) (cgs_cons (cg_name 4 nd rfl (by first | exact .inl rfl | exact .inr rfl)) cgs_nil))) (css_one (cs_if (ct_cmp (opr_ne hr) p_ne (nomark _) (ce_call d__law_all_heard rfl (by omega) hr tk rfl (ca_cons (ce_var 3 rfl (by first | exact .inl rfl | exact .inr (.inl rfl) | exact .inr (.inr rfl))) ca_nil)) (ce_bin opr_mulU (p_mulU rfl) (ce_lst (ca_cons (ce_tup (ca_cons ce_str (ca_cons (ce_var 4 rfl (by first | exact .inl rfl | exact .inr (.inl rfl) | exact .inr (.inr rfl))) ca_nil))) ca_nil)) ce_int)) (css_one (cs_ret ce_bl)) css_nil))) (css_one (cs_ret ce_bl)))))))))

def b__law_things_refused : EvS := sSeq (sFor (xIter (xA mkT (xCons (xC .non) (xCons (xNeg (xC (.int 1))) (xCons (xC (.int 1)) (xCons (xC (.bl true)) (xCons (xC (.str "0")) (xCons (x2 gPow (xC (.int 10)) (xC (.int 9))) (xNil))))))))) (yName 1) (sIf (xTB (x2 (gEqD true) (xA gReprU (xCons ((fun ρ h => f__law_heard ((xA (onN 2 f_crowd_behind) (xCons (xVar 0) (xCons (xVar 1) (xNil)))) ρ) h)) (xNil))) (xA gReprU (xCons (xA mkT (xCons (xC (.str "moment")) (xCons (xVar 1) (xNil)))) (xNil))))) (sRet (xC (.bl false))) (sPass))) (sSeq (sFor (xIter (xA mkT (xCons (xC .non) (xCons (xC (.int 1)) (xCons (xC (.int 3)) (xCons (xC (.bl true)) (xCons (xC (.str "2")) (xCons (xA mkT (xCons (xC (.int 2)) (xNil))) (xNil))))))))) (yName 1) (sIf (xTB (x2 (gEqD true) (xA gReprU (xCons ((fun ρ h => f__law_heard ((xA (onN 2 f_window_of) (xCons (xVar 0) (xCons (xVar 1) (xNil)))) ρ) h)) (xNil))) (xA gReprU (xCons (xA mkT (xCons (xC (.str "value")) (xCons (xVar 1) (xNil)))) (xNil))))) (sRet (xC (.bl false))) (sPass))) (sSeq (sFor (xIter (xA mkT (xCons (xC .non) (xCons (xA mkT (xNil)) (xCons (xA mkT (xCons (xC (.str "crowd")) (xNil))) (xCons (xA mkT (xCons (xC (.str "order")) (xCons (xA mkT (xNil)) (xCons (xA mkT (xNil)) (xNil))))) (xCons (xA mkL (xCons (xC (.str "order")) (xCons (xA mkT (xNil)) (xNil)))) (xCons (xA mkT (xCons (xC (.str "")) (xCons (xC (.int 0)) (xNil)))) (xCons (xA mkT (xCons (xC (.int 0)) (xCons (xC (.int 0)) (xNil)))) (xNil)))))))))) (yName 1) (sSeq (sAsg (xA mkL (xCons ((fun ρ h => f__law_heard ((xA (onN 2 f_check_room) (xCons (xVar 0) (xCons (xVar 1) (xNil)))) ρ) h)) (xCons ((fun ρ h => f__law_heard ((xA (onN 2 f_room_bar) (xCons (xVar 0) (xCons (xVar 1) (xNil)))) ρ) h)) (xNil)))) (yName 2)) (sIf (xTB (x2 (gEqD true) (xVar 2) (x2 gMulU (xA mkL (xCons (xA mkT (xCons (xC (.str "paper")) (xCons (xC (.str "form")) (xNil)))) (xNil))) (xC (.int 2))))) (sRet (xC (.bl false))) (sPass)))) (sSeq (sFor (xIter (xA mkT (xCons (xC (.int 0)) (xCons (xC (.int 10)) (xCons (xNeg (xC (.int 1))) (xCons (xC (.bl true)) (xCons (xC .non) (xCons (xC (.str "1")) (xNil))))))))) (yName 1) (sIf (xTB (x2 (gEqD true) (xA gReprU (xCons ((fun ρ h => f__law_heard ((xA (onN 2 f_sized) (xCons (xVar 0) (xCons (xVar 1) (xNil)))) ρ) h)) (xNil))) (xA gReprU (xCons (xA mkT (xCons (xC (.str "number")) (xCons (xVar 1) (xNil)))) (xNil))))) (sRet (xC (.bl false))) (sPass))) (sRet (x2 (gEqD false) ((fun ρ h => f__law_heard ((xA (onN 2 f_room_bar) (xCons (xVar 0) (xCons (xA mkT (xCons (xC (.str "order")) (xCons (xA mkT (xCons (xC (.int 0)) (xCons (xC (.int 1)) (xCons (xC (.int 2)) (xCons (xC (.int 3)) (xNil)))))) (xNil)))) (xNil)))) ρ) h)) (xA mkT (xCons (xC (.str "paper")) (xCons (xC (.str "order")) (xNil)))))))))
def f__law_things_refused : List AV → Hh → Out AV := defO 3 b__law_things_refused
theorem s__law_things_refused : FnScope ["_law_history", "_law_odd", "_law_told"] ["_law_history"] (defScope (top 109)) := ⟨rfl, rfl, rfl, by decide +kernel, rfl, by decide +kernel, by decide +kernel⟩
theorem d__law_things_refused (T : Txt F mg) (h : AtL F mg base "_law_things_refused" (top 109) ["_law_history"]) (d_crowd_behind : Dn P w F mg base 14 "crowd_behind" 2 f_crowd_behind) (d_window_of : Dn P w F mg base 14 "window_of" 2 f_window_of) (d_room_bar : Dn P w F mg base 15 "room_bar" 2 f_room_bar) (d_check_room : Dn P w F mg base 14 "check_room" 2 f_check_room) (d_sized : Dn P w F mg base 14 "sized" 2 f_sized)   (h__law_heard : At F mg "_law_heard" (top 106) ["_law_call"]) : DnG P w F mg base 18 "_law_things_refused" 1 f__law_things_refused :=
  dn_atLG h s__law_things_refused fun E f tc tp A outer s H hr hG tk ow TB hL => by
    have nd : (["_law_history", "_law_odd", "_law_told"] : List Str).Nodup := s__law_things_refused.nd
    exact (css_cons (cs_for ow rfl (ci_seq rfl (ce_tup (ca_cons ce_non (ca_cons (ce_neg ce_int) (ca_cons ce_int (ca_cons ce_bl (ca_cons ce_str (ca_cons (ce_bin op_pow p_pow ce_int ce_int) ca_nil)))))))) (cg_name 1 nd rfl (by first | exact .inl rfl | exact .inr rfl)) (css_one (cs_if (ct_cmp (opr_ne hr) p_ne (nomark _) (ce_reprE T.sysd rfl hG hr rfl T.b_repr (ca_cons (ce_heard (k := 15) (n := 8) (jf := 3) (jc := 4) (je := 7) (ds := []) (ns := []) (sub := subq) rfl h__law_heard s__law_heard rfl rfl rfl rfl rfl (by decide) (by decide) (by decide) (by decide) (by first | exact .inl rfl | exact .inr (.inl rfl) | exact .inr (.inr rfl)) rfl rfl rfl rfl T.sub_ rfl (fun _ _ _ => rfl) (fun _ _ _ => rfl) (fun _ _ _ => rfl) (fun _ _ _ => rfl) (fun g cdv A outer s H hr3 => hr__law_heard T g cdv A outer s H hr3) rfl TB hL (lamT_by (N := ["_law_history", "_law_odd", "_law_told"]) (sc := (defScope (top 109))) (by decide +kernel)) (lbind0 rfl rfl (fun _ _ _ _ _ => rfl)) hr (fun A outer s H E f c' hr2 => (ce_call d_crowd_behind rfl (by omega) hr2 (takes_of rfl rfl rfl rfl) rfl (ca_cons (ce_var 0 rfl (by first | exact .inl rfl | exact .inr (.inl rfl) | exact .inr (.inr rfl))) (ca_cons (ce_var 1 rfl (by first | exact .inl rfl | exact .inr (.inl rfl) | exact .inr (.inr rfl))) ca_nil)))) rfl) ca_nil)) (ce_reprE T.sysd rfl hG hr rfl T.b_repr (ca_cons (ce_tup (ca_cons ce_str (ca_cons (ce_var 1 rfl (by first | exact .inl rfl | exact .inr (.inl rfl) | exact .inr (.inr rfl))) ca_nil))) ca_nil))) (css_one (cs_ret ce_bl)) css_nil))) (css_cons (cs_for ow rfl (ci_seq rfl (ce_tup (ca_cons ce_non (ca_cons ce_int (ca_cons ce_int (ca_cons ce_bl (ca_cons ce_str (ca_cons (ce_tup (ca_cons ce_int ca_nil)) ca_nil)))))))) (cg_name 1 nd rfl (by first | exact .inl rfl | exact .inr rfl)) (css_one (cs_if (ct_cmp (opr_ne hr) p_ne (nomark _) (ce_reprE T.sysd rfl hG hr rfl T.b_repr (ca_cons (ce_heard (k := 15) (n := 8) (jf := 3) (jc := 4) (je := 7) (ds := []) (ns := []) (sub := subq) rfl h__law_heard s__law_heard rfl rfl rfl rfl rfl (by decide) (by decide) (by decide) (by decide) (by first | exact .inl rfl | exact .inr (.inl rfl) | exact .inr (.inr rfl)) rfl rfl rfl rfl T.sub_ rfl (fun _ _ _ => rfl) (fun _ _ _ => rfl) (fun _ _ _ => rfl) (fun _ _ _ => rfl) (fun g cdv A outer s H hr3 => hr__law_heard T g cdv A outer s H hr3) rfl TB hL (lamT_by (N := ["_law_history", "_law_odd", "_law_told"]) (sc := (defScope (top 109))) (by decide +kernel)) (lbind0 rfl rfl (fun _ _ _ _ _ => rfl)) hr (fun A outer s H E f c' hr2 => (ce_call d_window_of rfl (by omega) hr2 (takes_of rfl rfl rfl rfl) rfl (ca_cons (ce_var 0 rfl (by first | exact .inl rfl | exact .inr (.inl rfl) | exact .inr (.inr rfl))) (ca_cons (ce_var 1 rfl (by first | exact .inl rfl | exact .inr (.inl rfl) | exact .inr (.inr rfl))) ca_nil)))) rfl) ca_nil)) (ce_reprE T.sysd rfl hG hr rfl T.b_repr (ca_cons (ce_tup (ca_cons ce_str (ca_cons (ce_var 1 rfl (by first | exact .inl rfl | exact .inr (.inl rfl) | exact .inr (.inr rfl))) ca_nil))) ca_nil))) (css_one (cs_ret ce_bl)) css_nil))) (css_cons (cs_for ow rfl (ci_seq rfl (ce_tup (ca_cons ce_non (ca_cons (ce_tup ca_nil) (ca_cons (ce_tup (ca_cons ce_str ca_nil)) (ca_cons (ce_tup (ca_cons ce_str (ca_cons (ce_tup ca_nil) (ca_cons (ce_tup ca_nil) ca_nil)))) (ca_cons (ce_lst (ca_cons ce_str (ca_cons (ce_tup ca_nil) ca_nil))) (ca_cons (ce_tup (ca_cons ce_str (ca_cons ce_int ca_nil))) (ca_cons (ce_tup (ca_cons ce_int (ca_cons ce_int ca_nil))) ca_nil))))))))) (cg_name 1 nd rfl (by first | exact .inl rfl | exact .inr rfl)) (css_cons (cs_set (i := 2) nd rfl (by first | exact .inl rfl | exact .inr rfl) (ce_lst (ca_cons (ce_heard (k := 15) (n := 8) (jf := 3) (jc := 4) (je := 7) (ds := []) (ns := []) (sub := subq) rfl h__law_heard s__law_heard rfl rfl rfl rfl rfl (by decide) (by decide) (by decide) (by decide) (by first | exact .inl rfl | exact .inr (.inl rfl) | exact .inr (.inr rfl)) rfl rfl rfl rfl T.sub_ rfl (fun _ _ _ => rfl) (fun _ _ _ => rfl) (fun _ _ _ => rfl) (fun _ _ _ => rfl) (fun g cdv A outer s H hr3 => hr__law_heard T g cdv A outer s H hr3) rfl TB hL (lamT_by (N := ["_law_history", "_law_odd", "_law_told"]) (sc := (defScope (top 109))) (by decide +kernel)) (lbind0 rfl rfl (fun _ _ _ _ _ => rfl)) hr (fun A outer s H E f c' hr2 => (ce_call d_check_room rfl (by omega) hr2 (takes_of rfl rfl rfl rfl) rfl (ca_cons (ce_var 0 rfl (by first | exact .inl rfl | exact .inr (.inl rfl) | exact .inr (.inr rfl))) (ca_cons (ce_var 1 rfl (by first | exact .inl rfl | exact .inr (.inl rfl) | exact .inr (.inr rfl))) ca_nil)))) rfl) (ca_cons (ce_heard (k := 15) (n := 8) (jf := 3) (jc := 4) (je := 7) (ds := [0]) (ns := ["_law_a"]) (sub := subq) rfl h__law_heard s__law_heard rfl rfl rfl rfl rfl (by decide) (by decide) (by decide) (by decide) (by first | exact .inl rfl | exact .inr (.inl rfl) | exact .inr (.inr rfl)) rfl rfl rfl rfl T.sub_ rfl (fun _ _ _ => rfl) (fun _ _ _ => rfl) (fun _ _ _ => rfl) (fun _ _ _ => rfl) (fun g cdv A outer s H hr3 => hr__law_heard T g cdv A outer s H hr3) rfl TB hL (lamT_by (N := ["_law_history", "_law_odd", "_law_told"]) (sc := (defScope (top 109))) (by decide +kernel)) (lbind1 rfl rfl rfl (fun _ _ _ _ _ _ _ => ⟨_, rfl, rfl⟩)) hr (fun A outer s H E f c' hr2 => (ce_call d_room_bar rfl (by omega) hr2 (takes_of rfl rfl rfl rfl) rfl (ca_cons (ce_var 0 rfl (by first | exact .inl rfl | exact .inr (.inl rfl) | exact .inr (.inr rfl))) (ca_cons (ce_var 1 rfl (by first | exact .inl rfl | exact .inr (.inl rfl) | exact .inr (.inr rfl))) ca_nil)))) rfl) ca_nil)))) (css_one (cs_if (ct_cmp (opr_ne hr) p_ne (nomark _) (ce_var 2 rfl (by first | exact .inl rfl | exact .inr (.inl rfl) | exact .inr (.inr rfl))) (ce_bin opr_mulU (p_mulU rfl) (ce_lst (ca_cons (ce_tup (ca_cons ce_str (ca_cons ce_str ca_nil))) ca_nil)) ce_int)) (css_one (cs_ret ce_bl)) css_nil)))) (css_cons (cs_for ow rfl (ci_seq rfl (ce_tup (ca_cons ce_int (ca_cons ce_int (ca_cons (ce_neg ce_int) (ca_cons ce_bl (ca_cons ce_non (ca_cons ce_str ca_nil)))))))) (cg_name 1 nd rfl (by first | exact .inl rfl | exact .inr rfl)) (css_one (cs_if (ct_cmp (opr_ne hr) p_ne (nomark _) (ce_reprE T.sysd rfl hG hr rfl T.b_repr (ca_cons (ce_heard (k := 15) (n := 8) (jf := 3) (jc := 4) (je := 7) (ds := []) (ns := []) (sub := subq) rfl h__law_heard s__law_heard rfl rfl rfl rfl rfl (by decide) (by decide) (by decide) (by decide) (by first | exact .inl rfl | exact .inr (.inl rfl) | exact .inr (.inr rfl)) rfl rfl rfl rfl T.sub_ rfl (fun _ _ _ => rfl) (fun _ _ _ => rfl) (fun _ _ _ => rfl) (fun _ _ _ => rfl) (fun g cdv A outer s H hr3 => hr__law_heard T g cdv A outer s H hr3) rfl TB hL (lamT_by (N := ["_law_history", "_law_odd", "_law_told"]) (sc := (defScope (top 109))) (by decide +kernel)) (lbind0 rfl rfl (fun _ _ _ _ _ => rfl)) hr (fun A outer s H E f c' hr2 => (ce_call d_sized rfl (by omega) hr2 (takes_of rfl rfl rfl rfl) rfl (ca_cons (ce_var 0 rfl (by first | exact .inl rfl | exact .inr (.inl rfl) | exact .inr (.inr rfl))) (ca_cons (ce_var 1 rfl (by first | exact .inl rfl | exact .inr (.inl rfl) | exact .inr (.inr rfl))) ca_nil)))) rfl) ca_nil)) (ce_reprE T.sysd rfl hG hr rfl T.b_repr (ca_cons (ce_tup (ca_cons ce_str (ca_cons (ce_var 1 rfl (by first | exact .inl rfl | exact .inr (.inl rfl) | exact .inr (.inr rfl))) ca_nil))) ca_nil))) (css_one (cs_ret ce_bl)) css_nil))) (css_one (cs_ret (ce_cmp (opr_eq hr) p_eq (nomark _) (ce_heard (k := 15) (n := 8) (jf := 3) (jc := 4) (je := 7) (ds := []) (ns := []) (sub := subq) rfl h__law_heard s__law_heard rfl rfl rfl rfl rfl (by decide) (by decide) (by decide) (by decide) (by first | exact .inl rfl | exact .inr (.inl rfl) | exact .inr (.inr rfl)) rfl rfl rfl rfl T.sub_ rfl (fun _ _ _ => rfl) (fun _ _ _ => rfl) (fun _ _ _ => rfl) (fun _ _ _ => rfl) (fun g cdv A outer s H hr3 => hr__law_heard T g cdv A outer s H hr3) rfl TB hL (lamT_by (N := ["_law_history", "_law_odd", "_law_told"]) (sc := (defScope (top 109))) (by decide +kernel)) (lbind0 rfl rfl (fun _ _ _ _ _ => rfl)) hr (fun A outer s H E f c' hr2 => (ce_call d_room_bar rfl (by omega) hr2 (takes_of rfl rfl rfl rfl) rfl (ca_cons (ce_var 0 rfl (by first | exact .inl rfl | exact .inr (.inl rfl) | exact .inr (.inr rfl))) (ca_cons (ce_tup (ca_cons ce_str (ca_cons (ce_tup (ca_cons ce_int (ca_cons ce_int (ca_cons ce_int (ca_cons ce_int ca_nil))))) ca_nil))) ca_nil)))) rfl) (ce_tup (ca_cons ce_str (ca_cons ce_str ca_nil))))))))))

def b_law : EvS := sSeq (sAsg (xA (onN 1 f__law_begin) (xCons (xVar 0) (xNil))) (yName 1)) (sSeq (sAsg (x2 gAdd (xC (.int 2)) (xA (onN 2 f__law_draw) (xCons (xVar 1) (xCons (xC (.int 9)) (xNil))))) (yName 2)) (sSeq (sAsg (xA mkT (xCons (xA mkT (xCons (xC (.int 0)) (xCons (xVar 2) (xCons (xC (.int 0)) (xCons (xC (.str "enter")) (xCons (xC (.int 1)) (xCons (xC .non) (xNil)))))))) (xCons (xA mkT (xCons (x2 gAdd (xVar 2) (xC (.int 2))) (xCons (x2 gAdd (xVar 2) (xC (.int 6))) (xCons (xC (.int 0)) (xCons (xC (.str "enter")) (xCons (xC (.int 2)) (xCons (xC .non) (xNil)))))))) (xNil)))) (yName 3)) (sSeq (sAsg (x2 gAdd (xVar 3) (xA mkT (xCons (xA mkT (xCons (x2 gAdd (xVar 2) (xC (.int 4))) (xCons (x2 gAdd (xVar 2) (xC (.int 8))) (xCons (xC (.int 0)) (xCons (xC (.str "leave")) (xCons (xC (.int 2)) (xCons (xC .non) (xNil)))))))) (xCons (xA mkT (xCons (x2 gAdd (xVar 2) (xC (.int 10))) (xCons (x2 gAdd (xVar 2) (xC (.int 11))) (xCons (xC (.int 0)) (xCons (xC (.str "leave")) (xCons (xC (.int 1)) (xCons (xC .non) (xNil)))))))) (xNil))))) (yName 3)) (sRet (xAndT (xA0 f__law_histories_refused) (xA (onN 1 f__law_things_refused) (xCons (xA mkT (xCons (xA mkT (xCons (xA mkT (xCons (xC (.str "room")) (xCons (xC (.int 2)) (xNil)))) (xNil))) (xCons (xVar 3) (xNil)))) (xNil))))))))
def f_law : List AV → Hh → Out AV := defO 4 b_law
theorem s_law : FnScope ["_law_script", "_law_state", "_law_by", "_law_calls"] ["_law_script"] (defScope (top 110)) := ⟨rfl, rfl, rfl, by decide +kernel, rfl, by decide +kernel, by decide +kernel⟩
theorem d_law (T : Txt F mg) (h : At F mg "law" (top 110) ["_law_script"]) (d__law_begin : Dn P w F mg base 1 "_law_begin" 1 f__law_begin) (d__law_draw : Dn P w F mg base 2 "_law_draw" 2 f__law_draw) (d__law_histories_refused : Dn P w F mg base 19 "_law_histories_refused" 0 f__law_histories_refused) (d__law_things_refused : DnG P w F mg base 18 "_law_things_refused" 1 f__law_things_refused)    : DnG P w F mg base 20 "law" 1 f_law :=
  dn_atG h s_law fun E f cdv A outer s H hr hG tk ow => by
    have nd : (["_law_script", "_law_state", "_law_by", "_law_calls"] : List Str).Nodup := s_law.nd
    exact (css_cons (cs_set (i := 1) nd rfl (by first | exact .inl rfl | exact .inr rfl) (ce_call d__law_begin rfl (by omega) hr tk rfl (ca_cons (ce_var 0 rfl (by first | exact .inl rfl | exact .inr (.inl rfl) | exact .inr (.inr rfl))) ca_nil))) (css_cons (cs_set (i := 2) nd rfl (by first | exact .inl rfl | exact .inr rfl) (ce_bin opr_add (p_add rfl) ce_int (ce_call d__law_draw rfl (by omega) hr tk rfl (ca_cons (ce_var 1 rfl (by first | exact .inl rfl | exact .inr (.inl rfl) | exact .inr (.inr rfl))) (ca_cons ce_int ca_nil))))) (css_cons (cs_set (i := 3) nd rfl (by first | exact .inl rfl | exact .inr rfl) (ce_tup (ca_cons (ce_tup (ca_cons ce_int (ca_cons (ce_var 2 rfl (by first | exact .inl rfl | exact .inr (.inl rfl) | exact .inr (.inr rfl))) (ca_cons ce_int (ca_cons ce_str (ca_cons ce_int (ca_cons ce_non ca_nil))))))) (ca_cons (ce_tup (ca_cons (ce_bin opr_add (p_add rfl) (ce_var 2 rfl (by first | exact .inl rfl | exact .inr (.inl rfl) | exact .inr (.inr rfl))) ce_int) (ca_cons (ce_bin opr_add (p_add rfl) (ce_var 2 rfl (by first | exact .inl rfl | exact .inr (.inl rfl) | exact .inr (.inr rfl))) ce_int) (ca_cons ce_int (ca_cons ce_str (ca_cons ce_int (ca_cons ce_non ca_nil))))))) ca_nil)))) (css_cons (cs_set (i := 3) nd rfl (by first | exact .inl rfl | exact .inr rfl) (ce_bin opr_add (p_add rfl) (ce_var 3 rfl (by first | exact .inl rfl | exact .inr (.inl rfl) | exact .inr (.inr rfl))) (ce_tup (ca_cons (ce_tup (ca_cons (ce_bin opr_add (p_add rfl) (ce_var 2 rfl (by first | exact .inl rfl | exact .inr (.inl rfl) | exact .inr (.inr rfl))) ce_int) (ca_cons (ce_bin opr_add (p_add rfl) (ce_var 2 rfl (by first | exact .inl rfl | exact .inr (.inl rfl) | exact .inr (.inr rfl))) ce_int) (ca_cons ce_int (ca_cons ce_str (ca_cons ce_int (ca_cons ce_non ca_nil))))))) (ca_cons (ce_tup (ca_cons (ce_bin opr_add (p_add rfl) (ce_var 2 rfl (by first | exact .inl rfl | exact .inr (.inl rfl) | exact .inr (.inr rfl))) ce_int) (ca_cons (ce_bin opr_add (p_add rfl) (ce_var 2 rfl (by first | exact .inl rfl | exact .inr (.inl rfl) | exact .inr (.inr rfl))) ce_int) (ca_cons ce_int (ca_cons ce_str (ca_cons ce_int (ca_cons ce_non ca_nil))))))) ca_nil))))) (css_one (cs_ret (ce_and rfl (ce_call0 d__law_histories_refused rfl (by omega) hr tk rfl) (ce_one (ce_callG d__law_things_refused rfl hG (by decide) hr tk rfl (ca_cons (ce_tup (ca_cons (ce_tup (ca_cons (ce_tup (ca_cons ce_str (ca_cons ce_int ca_nil))) ca_nil)) (ca_cons (ce_var 3 rfl (by first | exact .inl rfl | exact .inr (.inl rfl) | exact .inr (.inr rfl))) ca_nil))) ca_nil))))))))))

end DT


set_option Elab.async false
set_option linter.all false
set_option maxRecDepth 100000
set_option maxHeartbeats 8000000
namespace DT
open PySem PySem.Spec PyProof.Rows L2 GxR RZ DI
def glL : List Str := ["BadHistory", "BadMoment", "BadNumber", "BadPaper", "BadValue", "CallError", "_add", "_count", "_draw", "_enter", "_has", "_join", "_leave", "_put", "_read", "_take", "_write"]
def acL : List Str := ["are_sorts", "is_ascending", "need_history", "_is_covered", "is_order_of"]
def alL : List Str := ["_law_all_heard", "_law_things_refused"]
def fnL0 : List He.DefD := [dfn "_law_begin" (top 104), dfn "_law_mixed" (top 103), dfn "_law_draw" (top 105), dfn "_is_pair_of_tuples" (top 37), dfn "is_whole" (top 14), dfn "is_room" (top 18), dfn "is_sort" (top 19), dfn "are_sorts" (top 20), dfn "is_value" (top 15), dfn "is_number_below" (top 16), dfn "name_of" (top 21), dfn "is_word_of" (top 22), dfn "_has_form" (top 25), dfn "can_be_given" (top 23), dfn "is_asking" (top 40), dfn "can_be_told" (top 24), dfn "is_step" (top 39), dfn "_is_call" (top 38), dfn "is_ascending" (top 17), dfn "moments_of" (top 42), dfn "_keep_moments" (top 41), dfn "is_given_once" (top 26), dfn "give_twice" (top 43), dfn "need_history" (top 36), dfn "_plain_or_none" (top 48), dfn "plain_step" (top 47), dfn "plain_call" (top 46), dfn "plain_sort" (top 45), dfn "plain_history" (top 44), dfn "lone_thing" (top 49)]
def fnL1 : List He.DefD := [dfn "lone_calls" (top 50), dfn "room_calls" (top 75), dfn "_values_of" (top 78), dfn "_number_of" (top 77), dfn "_is_free" (top 87), dfn "free_of" (top 86), dfn "free_values" (top 85), dfn "_is_moment" (top 83), dfn "crowd_of" (top 84), dfn "crowd_behind" (top 82), dfn "_size_of" (top 76), dfn "_is_strange" (top 79), dfn "leads" (top 51), dfn "_is_early" (top 80), dfn "odd_leaves" (top 81), dfn "window_in" (top 89), dfn "_is_covered" (top 92), dfn "room_flaws" (top 91), dfn "_roomy_moment" (top 94), dfn "_order_of" (top 93), dfn "room_paper" (top 90), dfn "window_of" (top 88), dfn "word_of_paper" (top 54), dfn "is_order_of" (top 52), dfn "_first_state" (top 69), dfn "first_states" (top 68), dfn "_add" (top 62), dfn "_count" (top 63), dfn "_draw" (top 64), dfn "_enter" (top 60)]
def fnL2 : List He.DefD := [dfn "_has" (top 66), dfn "_join" (top 65), dfn "_leave" (top 61), dfn "_put" (top 58), dfn "_read" (top 57), dfn "_take" (top 59), dfn "_write" (top 56), dfn "step" (top 70), dfn "states_told" (top 71), dfn "explains" (top 72), dfn "_holds" (top 96), dfn "check_room" (top 95), dfn "_values_over" (top 98), dfn "room_bar" (top 97), dfn "sized" (top 101), dfn "least_room" (top 100), dfn "_law_heard" (top 106), dfn "_law_all_heard" (top 107), dfn "_law_histories_refused" (top 108), dfn "_law_things_refused" (top 109), dfn "law" (top 110), dini "BadHistory" (top 3), dini "BadMoment" (top 6), dini "BadNumber" (top 4), dini "BadPaper" (top 2), dini "BadValue" (top 5)]
def fnL : List He.DefD := fnL0 ++ fnL1 ++ fnL2
def faL0 : List He.Fa := [He.Fa.glo "BadHistory", He.Fa.glo "BadMoment", He.Fa.glo "BadNumber", He.Fa.glo "BadPaper", He.Fa.glo "BadValue", He.Fa.glo "CallError", He.Fa.glo "_add", He.Fa.glo "_count", He.Fa.glo "_draw", He.Fa.glo "_enter", He.Fa.glo "_has", He.Fa.glo "_join", He.Fa.glo "_leave", He.Fa.glo "_put", He.Fa.glo "_read", He.Fa.glo "_take", He.Fa.glo "_write", He.Fa.glo "_law_begin", He.Fa.glo "_law_mixed", He.Fa.glo "_law_draw", He.Fa.glo "_is_pair_of_tuples", He.Fa.glo "is_whole", He.Fa.glo "is_room", He.Fa.glo "is_sort", He.Fa.glo "are_sorts", He.Fa.glo "is_value", He.Fa.glo "is_number_below", He.Fa.glo "name_of", He.Fa.glo "is_word_of", He.Fa.glo "_has_form"]
def faL1 : List He.Fa := [He.Fa.glo "can_be_given", He.Fa.glo "is_asking", He.Fa.glo "can_be_told", He.Fa.glo "is_step", He.Fa.glo "_is_call", He.Fa.glo "is_ascending", He.Fa.glo "moments_of", He.Fa.glo "_keep_moments", He.Fa.glo "is_given_once", He.Fa.glo "give_twice", He.Fa.glo "need_history", He.Fa.glo "_plain_or_none", He.Fa.glo "plain_step", He.Fa.glo "plain_call", He.Fa.glo "plain_sort", He.Fa.glo "plain_history", He.Fa.glo "lone_thing", He.Fa.glo "lone_calls", He.Fa.glo "room_calls", He.Fa.glo "_values_of", He.Fa.glo "_number_of", He.Fa.glo "_is_free", He.Fa.glo "free_of", He.Fa.glo "free_values", He.Fa.glo "_is_moment", He.Fa.glo "crowd_of", He.Fa.glo "crowd_behind", He.Fa.glo "_size_of", He.Fa.glo "_is_strange", He.Fa.glo "leads"]
def faL2 : List He.Fa := [He.Fa.glo "_is_early", He.Fa.glo "odd_leaves", He.Fa.glo "window_in", He.Fa.glo "_is_covered", He.Fa.glo "room_flaws", He.Fa.glo "_roomy_moment", He.Fa.glo "_order_of", He.Fa.glo "room_paper", He.Fa.glo "window_of", He.Fa.glo "word_of_paper", He.Fa.glo "is_order_of", He.Fa.glo "_first_state", He.Fa.glo "first_states", He.Fa.glo "step", He.Fa.glo "states_told", He.Fa.glo "explains", He.Fa.glo "_holds", He.Fa.glo "check_room", He.Fa.glo "_values_over", He.Fa.glo "room_bar", He.Fa.glo "sized", He.Fa.glo "least_room", He.Fa.glo "_law_heard", He.Fa.glo "_law_all_heard", He.Fa.glo "_law_histories_refused", He.Fa.glo "_law_things_refused", He.Fa.glo "law", He.Fa.glo "ACTIONS", He.Fa.glo "FORMS_kinds", He.Fa.glo "WORDS"]
def faL3 : List He.Fa := [He.Fa.free "isinstance", He.Fa.free "int", He.Fa.free "str", He.Fa.free "tuple", He.Fa.free "bool", He.Fa.free "list", He.Fa.free "len", He.Fa.free "sorted", He.Fa.free "range", He.Fa.free "enumerate", He.Fa.free "zip", He.Fa.free "all", He.Fa.free "any", He.Fa.free "set", He.Fa.free "repr", He.Fa.free "min", He.Fa.free "max", He.Fa.free "dict", He.Fa.int "BEGIN" 0, He.Fa.int "END" 1, He.Fa.int "GIVEN" 4, He.Fa.int "LARGEST_ROOM" 9, He.Fa.int "MOST" 1000000, He.Fa.int "MOST_CALLS" 10, He.Fa.int "MOST_THINGS" 4, He.Fa.int "PARTS_OF_CALL" 6, He.Fa.int "THING" 2, He.Fa.int "TOLD" 5, He.Fa.int "WORD" 3, He.Fa.meth "BadHistory" "__init__"]
def faL4 : List He.Fa := [He.Fa.meth "BadMoment" "__init__", He.Fa.meth "BadNumber" "__init__", He.Fa.meth "BadPaper" "__init__", He.Fa.meth "BadValue" "__init__"]
def faL : List He.Fa := faL0 ++ faL1 ++ faL2 ++ faL3 ++ faL4
def tsL : List He.Tab := [(fun K => He.ga K "ACTIONS", ["write", "read", "put", "take", "enter", "leave", "add", "count", "draw", "join", "drop", "has"]), (fun K => He.ga K "FORMS_kinds", ["write", "read", "put", "take", "enter", "leave", "add", "count", "draw", "join", "drop", "has"]), (fun K => He.ga K "WORDS", ["cell", "queue", "stack", "heads", "room", "counter", "tickets", "set"])]
def tfL : List He.Defn := (acL ++ alL).map fun x => (x, none)
def u_FORMS_rooms : List AV := [(.kt [(.str "order"), (.int (2))]), (.kt [(.str "strange"), (.int (2))]), (.kt [(.str "early"), (.int (2))]), (.kt [(.str "crowd"), (.int (2))]), (.kt [(.str "covered"), (.int (2))])]
def u_ONCE : List AV := [(.str "write"), (.str "put"), (.str "enter"), (.str "leave"), (.str "join"), (.str "drop")]
def tuL : List (Str × List AV) := [("FORMS_rooms", u_FORMS_rooms), ("ONCE", u_ONCE)]
def dcL : List (Str × List (Str × AV)) := [("ACTIONS", t_ACTIONS), ("FORMS_kinds", t_FORMS_kinds), ("WORDS", t_WORDS)]
def oxL : List (Str × Str) := [("BadHistory", "given"), ("BadMoment", "given"), ("BadNumber", "given"), ("BadPaper", "part"), ("BadValue", "given")]
def exB (K : PySem.W.Frag) : Bool := (sysB K && apartB K acL alL) && (tuL.all (tupC K glL) && (dcL.all (dctC K glL) && (exl.all (isB K) && (fll.all (flB K) && oxL.all fun q => oexB K (He.ga K q.1) q.2))))
abbrev RR : PySem.W.OpenRow := PySem.W.OpenLaw.row PySem.Challenge.rw_shortbars_k28_part_f_refused
abbrev hk : PySem.W.Hook := hookZ faL fnL tsL tfL exB
def ob (s : PySem.W.SharedT) : He.AlX := lookZ faL fnL tsL tfL exB (HandSHeadRun.getT s)
theorem ob_eq (s : PySem.W.SharedT) : ob s = hk.obs s.abs := lookZ_eq (HandSHeadRun.getT_eq s)
def nmL0 : List Str := ["CallError", "BadPaper", "BadHistory", "BadNumber", "BadValue", "BadMoment", "MOST", "LARGEST_ROOM", "MOST_THINGS", "WORDS", "FORMS_kinds", "ONCE", "is_whole", "is_value", "is_number_below", "is_ascending", "is_room", "is_sort", "are_sorts", "name_of", "is_word_of", "can_be_given", "can_be_told", "_has_form", "is_given_once", "MOST_CALLS", "BEGIN", "END", "THING", "WORD"]
def nmL1 : List Str := ["GIVEN", "TOLD", "PARTS_OF_CALL", "need_history", "_is_pair_of_tuples", "_is_call", "is_step", "is_asking", "_keep_moments", "moments_of", "give_twice", "plain_history", "plain_sort", "plain_call", "plain_step", "_plain_or_none", "lone_thing", "lone_calls", "leads", "is_order_of", "word_of_paper", "_write", "_read", "_put", "_take", "_enter", "_leave", "_add", "_count", "_draw"]
def nmL2 : List Str := ["_join", "_has", "ACTIONS", "first_states", "_first_state", "step", "states_told", "explains", "FORMS_rooms", "room_calls", "_size_of", "_number_of", "_values_of", "_is_strange", "_is_early", "odd_leaves", "crowd_behind", "_is_moment", "crowd_of", "free_values", "free_of", "_is_free", "window_of", "window_in", "room_paper", "room_flaws", "_is_covered", "_order_of", "_roomy_moment", "check_room"]
def nmL3 : List Str := ["_holds", "room_bar", "_values_over", "least_room", "sized", "_law_mixed", "_law_begin", "_law_draw", "_law_heard", "_law_all_heard", "_law_histories_refused", "_law_things_refused"]
def nmL : List Str := nmL0 ++ nmL1 ++ nmL2 ++ nmL3
abbrev SX (w : World) (h : Heap) (K : PySem.W.Frag) : Prop := He.SaysX faL fnL tsL tfL exB w h K
abbrev FF (K : PySem.W.Frag) : Fx := fxOf K glL acL alL
variable {h : Heap} {K : PySem.W.Frag}
theorem fct (S : SX w h K) (i : Nat) {f : He.Fa} (e : faL[i]? = some f) : f.ok K = true := He.SaysD.facts S.t.d (List.mem_of_getElem? e)
theorem hG (K : PySem.W.Frag) : ∀ x, glL.contains x = true → (FF K).G x = some (He.ga (FF K).K x) := fun x e => if_pos e
theorem g_gl (X : K.In h) (G : h.Ns mainGlobals mg) (S : SX w h K) {x : Str} (e : glL.contains x = true) : mg x = some (.ref (He.ga K x)) := by
  have hx : x ∈ glL := List.contains_iff_mem.mp e
  have hm : (faL.take 17) = glL.map He.Fa.glo := by rfl
  exact He.glo_ok X G (He.SaysD.facts S.t.d (List.mem_of_mem_take (i := 17) (by rw [hm]; exact List.mem_map.mpr ⟨x, hx, rfl⟩)))
theorem mg_of (X : K.In h) (G : h.Ns mainGlobals mg) (S : SX w h K) (i : Nat) {x : Str} (e : faL[i]? = some (He.Fa.glo x)) : mg x = some (.ref (He.ga K x)) := He.glo_ok X G (fct S i e)
theorem ex0 (S : SX w h K) : sysB K = true := (ba (ba S.more).1).1
theorem ex1 (S : SX w h K) : apartB K acL alL = true := (ba (ba S.more).1).2
theorem ex2 (S : SX w h K) : tuL.all (tupC K glL) = true := (ba (ba S.more).2).1
theorem ex3 (S : SX w h K) : dcL.all (dctC K glL) = true := (ba (ba (ba S.more).2).2).1
theorem ex4 (S : SX w h K) : exl.all (isB K) = true := (ba (ba (ba (ba S.more).2).2).2).1
theorem ex5 (S : SX w h K) : fll.all (flB K) = true := (ba (ba (ba (ba (ba S.more).2).2).2).2).1
theorem ex6 (S : SX w h K) : (oxL.all fun q => oexB K (He.ga K q.1) q.2) = true := (ba (ba (ba (ba (ba S.more).2).2).2).2).2
theorem txt (X : K.In h) (G : h.Ns mainGlobals mg) (S : SX w h K) : Txt (FF K) mg where
  sysd := sysB_ok (K := K) (ex0 S)
  gl := fun y a e => by
    obtain ⟨rfl, e2⟩ := gBase_eq (gl := glL) e
    exact g_gl X G S e2
  is_ := xis_ok (gl := glL) rfl (ex4 S)
  fl_ := xfl_ok (gl := glL) rfl (ex5 S)
  sub_ := xsub_ok (gl := glL) rfl (g_gl X G S (by decide +kernel)) (ex4 S)
  c_BadHistory := ⟨_, g_gl X G S (by decide +kernel), hG K _ (by decide +kernel)⟩
  c_BadMoment := ⟨_, g_gl X G S (by decide +kernel), hG K _ (by decide +kernel)⟩
  c_BadNumber := ⟨_, g_gl X G S (by decide +kernel), hG K _ (by decide +kernel)⟩
  c_BadPaper := ⟨_, g_gl X G S (by decide +kernel), hG K _ (by decide +kernel)⟩
  c_BadValue := ⟨_, g_gl X G S (by decide +kernel), hG K _ (by decide +kernel)⟩
  c_CallError := ⟨_, g_gl X G S (by decide +kernel), hG K _ (by decide +kernel)⟩
  b_isinstance := He.free_ok X G (fct S 90 rfl)
  b_int := He.free_ok X G (fct S 91 rfl)
  b_str := He.free_ok X G (fct S 92 rfl)
  b_tuple := He.free_ok X G (fct S 93 rfl)
  b_bool := He.free_ok X G (fct S 94 rfl)
  b_list := He.free_ok X G (fct S 95 rfl)
  b_len := He.free_ok X G (fct S 96 rfl)
  b_sorted := He.free_ok X G (fct S 97 rfl)
  b_range := He.free_ok X G (fct S 98 rfl)
  b_enumerate := He.free_ok X G (fct S 99 rfl)
  b_zip := He.free_ok X G (fct S 100 rfl)
  b_all := He.free_ok X G (fct S 101 rfl)
  b_any := He.free_ok X G (fct S 102 rfl)
  b_set := He.free_ok X G (fct S 103 rfl)
  b_repr := He.free_ok X G (fct S 104 rfl)
  b_min := He.free_ok X G (fct S 105 rfl)
  b_max := He.free_ok X G (fct S 106 rfl)
  b_dict := He.free_ok X G (fct S 107 rfl)
  g_BEGIN := He.int_ok X G (fct S 108 rfl)
  g_END := He.int_ok X G (fct S 109 rfl)
  g_GIVEN := He.int_ok X G (fct S 110 rfl)
  g_LARGEST_ROOM := He.int_ok X G (fct S 111 rfl)
  g_MOST := He.int_ok X G (fct S 112 rfl)
  g_MOST_CALLS := He.int_ok X G (fct S 113 rfl)
  g_MOST_THINGS := He.int_ok X G (fct S 114 rfl)
  g_PARTS_OF_CALL := He.int_ok X G (fct S 115 rfl)
  g_THING := He.int_ok X G (fct S 116 rfl)
  g_TOLD := He.int_ok X G (fct S 117 rfl)
  g_WORD := He.int_ok X G (fct S 118 rfl)
  g_FORMS_rooms := tupC_ok X G (hG K) (List.all_eq_true.mp (ex2 S) _ (List.mem_of_getElem? (i := 0) rfl))
  g_ONCE := tupC_ok X G (hG K) (List.all_eq_true.mp (ex2 S) _ (List.mem_of_getElem? (i := 1) rfl))
theorem k_ACTIONS (X : K.In h) (G : h.Ns mainGlobals mg) (S : SX w h K) : KdOk (FF K) w mg "ACTIONS" t_ACTIONS := by
  obtain ⟨es, n, D⟩ := S.t.tab 0 rfl
  exact dctC_ok (h := h) (hG K) (mg_of X G S 87 rfl) D (List.all_eq_true.mp (ex3 S) _ (List.mem_of_getElem? (i := 0) rfl))
theorem k_FORMS_kinds (X : K.In h) (G : h.Ns mainGlobals mg) (S : SX w h K) : KdOk (FF K) w mg "FORMS_kinds" t_FORMS_kinds := by
  obtain ⟨es, n, D⟩ := S.t.tab 1 rfl
  exact dctC_ok (h := h) (hG K) (mg_of X G S 88 rfl) D (List.all_eq_true.mp (ex3 S) _ (List.mem_of_getElem? (i := 1) rfl))
theorem k_WORDS (X : K.In h) (G : h.Ns mainGlobals mg) (S : SX w h K) : KdOk (FF K) w mg "WORDS" t_WORDS := by
  obtain ⟨es, n, D⟩ := S.t.tab 2 rfl
  exact dctC_ok (h := h) (hG K) (mg_of X G S 89 rfl) D (List.all_eq_true.mp (ex3 S) _ (List.mem_of_getElem? (i := 2) rfl))
theorem x_BadHistory {P : Program} (X : K.In h) (G : h.Ns mainGlobals mg) (S : SX w h K) : Xcl P w (FF K) mg base "BadHistory" "given" :=
  xcl_of (d := dini "BadHistory" (top 3)) (st := top 3) (sf := "self") (gv := "given") rfl S.t.d (List.mem_of_getElem? (i := 81) rfl) (g_gl X G S (by decide +kernel)) (hG K _ (by decide +kernel)) rfl (List.all_eq_true.mp (ex6 S) ("BadHistory", "given") (List.mem_of_getElem? (i := 0) rfl)) (fct S 119 rfl)
    ⟨rfl, rfl, rfl, by decide +kernel, rfl, by decide +kernel, by decide +kernel⟩ rfl (fun _ _ _ _ _ _ us hl => match us, hl with | [_, _], _ => rfl) rfl rfl rfl rfl rfl rfl
theorem x_BadMoment {P : Program} (X : K.In h) (G : h.Ns mainGlobals mg) (S : SX w h K) : Xcl P w (FF K) mg base "BadMoment" "given" :=
  xcl_of (d := dini "BadMoment" (top 6)) (st := top 6) (sf := "self") (gv := "given") rfl S.t.d (List.mem_of_getElem? (i := 82) rfl) (g_gl X G S (by decide +kernel)) (hG K _ (by decide +kernel)) rfl (List.all_eq_true.mp (ex6 S) ("BadMoment", "given") (List.mem_of_getElem? (i := 1) rfl)) (fct S 120 rfl)
    ⟨rfl, rfl, rfl, by decide +kernel, rfl, by decide +kernel, by decide +kernel⟩ rfl (fun _ _ _ _ _ _ us hl => match us, hl with | [_, _], _ => rfl) rfl rfl rfl rfl rfl rfl
theorem x_BadNumber {P : Program} (X : K.In h) (G : h.Ns mainGlobals mg) (S : SX w h K) : Xcl P w (FF K) mg base "BadNumber" "given" :=
  xcl_of (d := dini "BadNumber" (top 4)) (st := top 4) (sf := "self") (gv := "given") rfl S.t.d (List.mem_of_getElem? (i := 83) rfl) (g_gl X G S (by decide +kernel)) (hG K _ (by decide +kernel)) rfl (List.all_eq_true.mp (ex6 S) ("BadNumber", "given") (List.mem_of_getElem? (i := 2) rfl)) (fct S 121 rfl)
    ⟨rfl, rfl, rfl, by decide +kernel, rfl, by decide +kernel, by decide +kernel⟩ rfl (fun _ _ _ _ _ _ us hl => match us, hl with | [_, _], _ => rfl) rfl rfl rfl rfl rfl rfl
theorem x_BadPaper {P : Program} (X : K.In h) (G : h.Ns mainGlobals mg) (S : SX w h K) : Xcl P w (FF K) mg base "BadPaper" "part" :=
  xcl_of (d := dini "BadPaper" (top 2)) (st := top 2) (sf := "self") (gv := "part") rfl S.t.d (List.mem_of_getElem? (i := 84) rfl) (g_gl X G S (by decide +kernel)) (hG K _ (by decide +kernel)) rfl (List.all_eq_true.mp (ex6 S) ("BadPaper", "part") (List.mem_of_getElem? (i := 3) rfl)) (fct S 122 rfl)
    ⟨rfl, rfl, rfl, by decide +kernel, rfl, by decide +kernel, by decide +kernel⟩ rfl (fun _ _ _ _ _ _ us hl => match us, hl with | [_, _], _ => rfl) rfl rfl rfl rfl rfl rfl
theorem x_BadValue {P : Program} (X : K.In h) (G : h.Ns mainGlobals mg) (S : SX w h K) : Xcl P w (FF K) mg base "BadValue" "given" :=
  xcl_of (d := dini "BadValue" (top 5)) (st := top 5) (sf := "self") (gv := "given") rfl S.t.d (List.mem_of_getElem? (i := 85) rfl) (g_gl X G S (by decide +kernel)) (hG K _ (by decide +kernel)) rfl (List.all_eq_true.mp (ex6 S) ("BadValue", "given") (List.mem_of_getElem? (i := 4) rfl)) (fct S 123 rfl)
    ⟨rfl, rfl, rfl, by decide +kernel, rfl, by decide +kernel, by decide +kernel⟩ rfl (fun _ _ _ _ _ _ us hl => match us, hl with | [_, _], _ => rfl) rfl rfl rfl rfl rfl rfl
theorem e__law_begin {P : Program} (X : K.In h) (G : h.Ns mainGlobals mg) (S : SX w h K) (B : ∀ p ∈ csOf K acL alL, GxR.TabB base mg p.1 p.2) : Dn P w (FF K) mg base 1 "_law_begin" 1 f__law_begin := d__law_begin (txt X G S) (at_of (d := dfn "_law_begin" (top 104)) rfl S.t.d (List.mem_of_getElem? (i := 0) rfl) (mg_of X G S 17 rfl) rfl (fun _ _ _ _ _ _ us hl => match us, hl with | [_], _ => rfl)) 
theorem e__law_mixed {P : Program} (X : K.In h) (G : h.Ns mainGlobals mg) (S : SX w h K) (B : ∀ p ∈ csOf K acL alL, GxR.TabB base mg p.1 p.2) : Dn P w (FF K) mg base 1 "_law_mixed" 2 f__law_mixed := d__law_mixed (txt X G S) (at_of (d := dfn "_law_mixed" (top 103)) rfl S.t.d (List.mem_of_getElem? (i := 1) rfl) (mg_of X G S 18 rfl) rfl (fun _ _ _ _ _ _ us hl => match us, hl with | [_, _], _ => rfl)) 
theorem e__law_draw {P : Program} (X : K.In h) (G : h.Ns mainGlobals mg) (S : SX w h K) (B : ∀ p ∈ csOf K acL alL, GxR.TabB base mg p.1 p.2) : Dn P w (FF K) mg base 2 "_law_draw" 2 f__law_draw := d__law_draw (txt X G S) (at_of (d := dfn "_law_draw" (top 105)) rfl S.t.d (List.mem_of_getElem? (i := 2) rfl) (mg_of X G S 19 rfl) rfl (fun _ _ _ _ _ _ us hl => match us, hl with | [_, _], _ => rfl)) (e__law_mixed X G S B)
theorem e__is_pair_of_tuples {P : Program} (X : K.In h) (G : h.Ns mainGlobals mg) (S : SX w h K) (B : ∀ p ∈ csOf K acL alL, GxR.TabB base mg p.1 p.2) : Dn P w (FF K) mg base 1 "_is_pair_of_tuples" 1 f__is_pair_of_tuples := d__is_pair_of_tuples (txt X G S) (at_of (d := dfn "_is_pair_of_tuples" (top 37)) rfl S.t.d (List.mem_of_getElem? (i := 3) rfl) (mg_of X G S 20 rfl) rfl (fun _ _ _ _ _ _ us hl => match us, hl with | [_], _ => rfl)) 
theorem e_is_whole {P : Program} (X : K.In h) (G : h.Ns mainGlobals mg) (S : SX w h K) (B : ∀ p ∈ csOf K acL alL, GxR.TabB base mg p.1 p.2) : Dn P w (FF K) mg base 1 "is_whole" 1 f_is_whole := d_is_whole (txt X G S) (at_of (d := dfn "is_whole" (top 14)) rfl S.t.d (List.mem_of_getElem? (i := 4) rfl) (mg_of X G S 21 rfl) rfl (fun _ _ _ _ _ _ us hl => match us, hl with | [_], _ => rfl)) 
theorem e_is_room {P : Program} (X : K.In h) (G : h.Ns mainGlobals mg) (S : SX w h K) (B : ∀ p ∈ csOf K acL alL, GxR.TabB base mg p.1 p.2) : Dn P w (FF K) mg base 2 "is_room" 1 f_is_room := d_is_room (txt X G S) (at_of (d := dfn "is_room" (top 18)) rfl S.t.d (List.mem_of_getElem? (i := 5) rfl) (mg_of X G S 22 rfl) rfl (fun _ _ _ _ _ _ us hl => match us, hl with | [_], _ => rfl)) (e_is_whole X G S B)
theorem e_is_sort {P : Program} (X : K.In h) (G : h.Ns mainGlobals mg) (S : SX w h K) (B : ∀ p ∈ csOf K acL alL, GxR.TabB base mg p.1 p.2) : Dn P w (FF K) mg base 3 "is_sort" 1 f_is_sort := d_is_sort (txt X G S) (at_of (d := dfn "is_sort" (top 19)) rfl S.t.d (List.mem_of_getElem? (i := 6) rfl) (mg_of X G S 23 rfl) rfl (fun _ _ _ _ _ _ us hl => match us, hl with | [_], _ => rfl)) (e_is_room X G S B) (k_WORDS X G S)
theorem e_are_sorts {P : Program} (X : K.In h) (G : h.Ns mainGlobals mg) (S : SX w h K) (B : ∀ p ∈ csOf K acL alL, GxR.TabB base mg p.1 p.2) : Dn P w (FF K) mg base 5 "are_sorts" 1 f_are_sorts := d_are_sorts (txt X G S) (atC_of (d := dfn "are_sorts" (top 20)) rfl S.t.d (List.mem_of_getElem? (i := 7) rfl) (mg_of X G S 24 rfl) rfl (fun _ _ _ _ _ _ us hl => match us, hl with | [_], _ => rfl) (B _ (List.mem_map.mpr ⟨"are_sorts", List.mem_append_left _ (List.mem_of_getElem? (i := 0) rfl), rfl⟩)) (List.mem_map.mpr ⟨"are_sorts", List.mem_of_getElem? (i := 0) rfl, rfl⟩)) (e_is_sort X G S B)
theorem e_is_value {P : Program} (X : K.In h) (G : h.Ns mainGlobals mg) (S : SX w h K) (B : ∀ p ∈ csOf K acL alL, GxR.TabB base mg p.1 p.2) : Dn P w (FF K) mg base 2 "is_value" 1 f_is_value := d_is_value (txt X G S) (at_of (d := dfn "is_value" (top 15)) rfl S.t.d (List.mem_of_getElem? (i := 8) rfl) (mg_of X G S 25 rfl) rfl (fun _ _ _ _ _ _ us hl => match us, hl with | [_], _ => rfl)) (e_is_whole X G S B)
theorem e_is_number_below {P : Program} (X : K.In h) (G : h.Ns mainGlobals mg) (S : SX w h K) (B : ∀ p ∈ csOf K acL alL, GxR.TabB base mg p.1 p.2) : Dn P w (FF K) mg base 2 "is_number_below" 2 f_is_number_below := d_is_number_below (txt X G S) (at_of (d := dfn "is_number_below" (top 16)) rfl S.t.d (List.mem_of_getElem? (i := 9) rfl) (mg_of X G S 26 rfl) rfl (fun _ _ _ _ _ _ us hl => match us, hl with | [_, _], _ => rfl)) (e_is_whole X G S B)
theorem e_name_of {P : Program} (X : K.In h) (G : h.Ns mainGlobals mg) (S : SX w h K) (B : ∀ p ∈ csOf K acL alL, GxR.TabB base mg p.1 p.2) : Dn P w (FF K) mg base 1 "name_of" 1 f_name_of := d_name_of (txt X G S) (at_of (d := dfn "name_of" (top 21)) rfl S.t.d (List.mem_of_getElem? (i := 10) rfl) (mg_of X G S 27 rfl) rfl (fun _ _ _ _ _ _ us hl => match us, hl with | [_], _ => rfl)) 
theorem e_is_word_of {P : Program} (X : K.In h) (G : h.Ns mainGlobals mg) (S : SX w h K) (B : ∀ p ∈ csOf K acL alL, GxR.TabB base mg p.1 p.2) : Dn P w (FF K) mg base 2 "is_word_of" 2 f_is_word_of := d_is_word_of (txt X G S) (at_of (d := dfn "is_word_of" (top 22)) rfl S.t.d (List.mem_of_getElem? (i := 11) rfl) (mg_of X G S 28 rfl) rfl (fun _ _ _ _ _ _ us hl => match us, hl with | [_, _], _ => rfl)) (e_name_of X G S B) (k_WORDS X G S)
theorem e__has_form {P : Program} (X : K.In h) (G : h.Ns mainGlobals mg) (S : SX w h K) (B : ∀ p ∈ csOf K acL alL, GxR.TabB base mg p.1 p.2) : Dn P w (FF K) mg base 3 "_has_form" 2 f__has_form := d__has_form (txt X G S) (at_of (d := dfn "_has_form" (top 25)) rfl S.t.d (List.mem_of_getElem? (i := 12) rfl) (mg_of X G S 29 rfl) rfl (fun _ _ _ _ _ _ us hl => match us, hl with | [_, _], _ => rfl)) (e_is_value X G S B) (e_is_number_below X G S B)
theorem e_can_be_given {P : Program} (X : K.In h) (G : h.Ns mainGlobals mg) (S : SX w h K) (B : ∀ p ∈ csOf K acL alL, GxR.TabB base mg p.1 p.2) : Dn P w (FF K) mg base 4 "can_be_given" 2 f_can_be_given := d_can_be_given (txt X G S) (at_of (d := dfn "can_be_given" (top 23)) rfl S.t.d (List.mem_of_getElem? (i := 13) rfl) (mg_of X G S 30 rfl) rfl (fun _ _ _ _ _ _ us hl => match us, hl with | [_, _], _ => rfl)) (e__has_form X G S B) (k_FORMS_kinds X G S)
theorem e_is_asking {P : Program} (X : K.In h) (G : h.Ns mainGlobals mg) (S : SX w h K) (B : ∀ p ∈ csOf K acL alL, GxR.TabB base mg p.1 p.2) : Dn P w (FF K) mg base 5 "is_asking" 2 f_is_asking := d_is_asking (txt X G S) (at_of (d := dfn "is_asking" (top 40)) rfl S.t.d (List.mem_of_getElem? (i := 14) rfl) (mg_of X G S 31 rfl) rfl (fun _ _ _ _ _ _ us hl => match us, hl with | [_, _], _ => rfl)) (e_is_number_below X G S B) (e_is_word_of X G S B) (e_can_be_given X G S B)
theorem e_can_be_told {P : Program} (X : K.In h) (G : h.Ns mainGlobals mg) (S : SX w h K) (B : ∀ p ∈ csOf K acL alL, GxR.TabB base mg p.1 p.2) : Dn P w (FF K) mg base 4 "can_be_told" 2 f_can_be_told := d_can_be_told (txt X G S) (at_of (d := dfn "can_be_told" (top 24)) rfl S.t.d (List.mem_of_getElem? (i := 15) rfl) (mg_of X G S 32 rfl) rfl (fun _ _ _ _ _ _ us hl => match us, hl with | [_, _], _ => rfl)) (e__has_form X G S B) (k_FORMS_kinds X G S)
theorem e_is_step {P : Program} (X : K.In h) (G : h.Ns mainGlobals mg) (S : SX w h K) (B : ∀ p ∈ csOf K acL alL, GxR.TabB base mg p.1 p.2) : Dn P w (FF K) mg base 6 "is_step" 2 f_is_step := d_is_step (txt X G S) (at_of (d := dfn "is_step" (top 39)) rfl S.t.d (List.mem_of_getElem? (i := 16) rfl) (mg_of X G S 33 rfl) rfl (fun _ _ _ _ _ _ us hl => match us, hl with | [_, _], _ => rfl)) (e_is_asking X G S B) (e_can_be_told X G S B)
theorem e__is_call {P : Program} (X : K.In h) (G : h.Ns mainGlobals mg) (S : SX w h K) (B : ∀ p ∈ csOf K acL alL, GxR.TabB base mg p.1 p.2) : Dn P w (FF K) mg base 7 "_is_call" 2 f__is_call := d__is_call (txt X G S) (at_of (d := dfn "_is_call" (top 38)) rfl S.t.d (List.mem_of_getElem? (i := 17) rfl) (mg_of X G S 34 rfl) rfl (fun _ _ _ _ _ _ us hl => match us, hl with | [_, _], _ => rfl)) (e_is_value X G S B) (e_is_step X G S B)
theorem e_is_ascending {P : Program} (X : K.In h) (G : h.Ns mainGlobals mg) (S : SX w h K) (B : ∀ p ∈ csOf K acL alL, GxR.TabB base mg p.1 p.2) : Dn P w (FF K) mg base 2 "is_ascending" 1 f_is_ascending := d_is_ascending (txt X G S) (atC_of (d := dfn "is_ascending" (top 17)) rfl S.t.d (List.mem_of_getElem? (i := 18) rfl) (mg_of X G S 35 rfl) rfl (fun _ _ _ _ _ _ us hl => match us, hl with | [_], _ => rfl) (B _ (List.mem_map.mpr ⟨"is_ascending", List.mem_append_left _ (List.mem_of_getElem? (i := 1) rfl), rfl⟩)) (List.mem_map.mpr ⟨"is_ascending", List.mem_of_getElem? (i := 1) rfl, rfl⟩)) 
theorem e_moments_of {P : Program} (X : K.In h) (G : h.Ns mainGlobals mg) (S : SX w h K) (B : ∀ p ∈ csOf K acL alL, GxR.TabB base mg p.1 p.2) : Dn P w (FF K) mg base 1 "moments_of" 1 f_moments_of := d_moments_of (txt X G S) (at_of (d := dfn "moments_of" (top 42)) rfl S.t.d (List.mem_of_getElem? (i := 19) rfl) (mg_of X G S 36 rfl) rfl (fun _ _ _ _ _ _ us hl => match us, hl with | [_], _ => rfl)) 
theorem e__keep_moments {P : Program} (X : K.In h) (G : h.Ns mainGlobals mg) (S : SX w h K) (B : ∀ p ∈ csOf K acL alL, GxR.TabB base mg p.1 p.2) : Dn P w (FF K) mg base 3 "_keep_moments" 1 f__keep_moments := d__keep_moments (txt X G S) (at_of (d := dfn "_keep_moments" (top 41)) rfl S.t.d (List.mem_of_getElem? (i := 20) rfl) (mg_of X G S 37 rfl) rfl (fun _ _ _ _ _ _ us hl => match us, hl with | [_], _ => rfl)) (e_is_ascending X G S B) (e_moments_of X G S B)
theorem e_is_given_once {P : Program} (X : K.In h) (G : h.Ns mainGlobals mg) (S : SX w h K) (B : ∀ p ∈ csOf K acL alL, GxR.TabB base mg p.1 p.2) : Dn P w (FF K) mg base 1 "is_given_once" 1 f_is_given_once := d_is_given_once (txt X G S) (at_of (d := dfn "is_given_once" (top 26)) rfl S.t.d (List.mem_of_getElem? (i := 21) rfl) (mg_of X G S 38 rfl) rfl (fun _ _ _ _ _ _ us hl => match us, hl with | [_], _ => rfl)) 
theorem e_give_twice {P : Program} (X : K.In h) (G : h.Ns mainGlobals mg) (S : SX w h K) (B : ∀ p ∈ csOf K acL alL, GxR.TabB base mg p.1 p.2) : Dn P w (FF K) mg base 2 "give_twice" 1 f_give_twice := d_give_twice (txt X G S) (at_of (d := dfn "give_twice" (top 43)) rfl S.t.d (List.mem_of_getElem? (i := 22) rfl) (mg_of X G S 39 rfl) rfl (fun _ _ _ _ _ _ us hl => match us, hl with | [_], _ => rfl)) (e_is_given_once X G S B)
theorem e_need_history {P : Program} (X : K.In h) (G : h.Ns mainGlobals mg) (S : SX w h K) (B : ∀ p ∈ csOf K acL alL, GxR.TabB base mg p.1 p.2) : Dn P w (FF K) mg base 9 "need_history" 1 f_need_history := d_need_history (txt X G S) (atC_of (d := dfn "need_history" (top 36)) rfl S.t.d (List.mem_of_getElem? (i := 23) rfl) (mg_of X G S 40 rfl) rfl (fun _ _ _ _ _ _ us hl => match us, hl with | [_], _ => rfl) (B _ (List.mem_map.mpr ⟨"need_history", List.mem_append_left _ (List.mem_of_getElem? (i := 2) rfl), rfl⟩)) (List.mem_map.mpr ⟨"need_history", List.mem_of_getElem? (i := 2) rfl, rfl⟩)) (e__is_pair_of_tuples X G S B) (e_are_sorts X G S B) (e__is_call X G S B) (e__keep_moments X G S B) (e_give_twice X G S B) (x_BadHistory X G S)
theorem e__plain_or_none {P : Program} (X : K.In h) (G : h.Ns mainGlobals mg) (S : SX w h K) (B : ∀ p ∈ csOf K acL alL, GxR.TabB base mg p.1 p.2) : Dn P w (FF K) mg base 1 "_plain_or_none" 1 f__plain_or_none := d__plain_or_none (txt X G S) (at_of (d := dfn "_plain_or_none" (top 48)) rfl S.t.d (List.mem_of_getElem? (i := 24) rfl) (mg_of X G S 41 rfl) rfl (fun _ _ _ _ _ _ us hl => match us, hl with | [_], _ => rfl)) 
theorem e_plain_step {P : Program} (X : K.In h) (G : h.Ns mainGlobals mg) (S : SX w h K) (B : ∀ p ∈ csOf K acL alL, GxR.TabB base mg p.1 p.2) : Dn P w (FF K) mg base 2 "plain_step" 1 f_plain_step := d_plain_step (txt X G S) (at_of (d := dfn "plain_step" (top 47)) rfl S.t.d (List.mem_of_getElem? (i := 25) rfl) (mg_of X G S 42 rfl) rfl (fun _ _ _ _ _ _ us hl => match us, hl with | [_], _ => rfl)) (e__plain_or_none X G S B)
theorem e_plain_call {P : Program} (X : K.In h) (G : h.Ns mainGlobals mg) (S : SX w h K) (B : ∀ p ∈ csOf K acL alL, GxR.TabB base mg p.1 p.2) : Dn P w (FF K) mg base 3 "plain_call" 1 f_plain_call := d_plain_call (txt X G S) (at_of (d := dfn "plain_call" (top 46)) rfl S.t.d (List.mem_of_getElem? (i := 26) rfl) (mg_of X G S 43 rfl) rfl (fun _ _ _ _ _ _ us hl => match us, hl with | [_], _ => rfl)) (e_plain_step X G S B)
theorem e_plain_sort {P : Program} (X : K.In h) (G : h.Ns mainGlobals mg) (S : SX w h K) (B : ∀ p ∈ csOf K acL alL, GxR.TabB base mg p.1 p.2) : Dn P w (FF K) mg base 1 "plain_sort" 1 f_plain_sort := d_plain_sort (txt X G S) (at_of (d := dfn "plain_sort" (top 45)) rfl S.t.d (List.mem_of_getElem? (i := 27) rfl) (mg_of X G S 44 rfl) rfl (fun _ _ _ _ _ _ us hl => match us, hl with | [_], _ => rfl)) 
theorem e_plain_history {P : Program} (X : K.In h) (G : h.Ns mainGlobals mg) (S : SX w h K) (B : ∀ p ∈ csOf K acL alL, GxR.TabB base mg p.1 p.2) : Dn P w (FF K) mg base 10 "plain_history" 1 f_plain_history := d_plain_history (txt X G S) (at_of (d := dfn "plain_history" (top 44)) rfl S.t.d (List.mem_of_getElem? (i := 28) rfl) (mg_of X G S 45 rfl) rfl (fun _ _ _ _ _ _ us hl => match us, hl with | [_], _ => rfl)) (e_need_history X G S B) (e_plain_call X G S B) (e_plain_sort X G S B)
theorem e_lone_thing {P : Program} (X : K.In h) (G : h.Ns mainGlobals mg) (S : SX w h K) (B : ∀ p ∈ csOf K acL alL, GxR.TabB base mg p.1 p.2) : Dn P w (FF K) mg base 11 "lone_thing" 2 f_lone_thing := d_lone_thing (txt X G S) (at_of (d := dfn "lone_thing" (top 49)) rfl S.t.d (List.mem_of_getElem? (i := 29) rfl) (mg_of X G S 46 rfl) rfl (fun _ _ _ _ _ _ us hl => match us, hl with | [_, _], _ => rfl)) (e_plain_history X G S B) (e_name_of X G S B) (x_BadHistory X G S)
theorem e_lone_calls {P : Program} (X : K.In h) (G : h.Ns mainGlobals mg) (S : SX w h K) (B : ∀ p ∈ csOf K acL alL, GxR.TabB base mg p.1 p.2) : Dn P w (FF K) mg base 12 "lone_calls" 2 f_lone_calls := d_lone_calls (txt X G S) (at_of (d := dfn "lone_calls" (top 50)) rfl S.t.d (List.mem_of_getElem? (i := 30) rfl) (mg_of X G S 47 rfl) rfl (fun _ _ _ _ _ _ us hl => match us, hl with | [_, _], _ => rfl)) (e_lone_thing X G S B)
theorem e_room_calls {P : Program} (X : K.In h) (G : h.Ns mainGlobals mg) (S : SX w h K) (B : ∀ p ∈ csOf K acL alL, GxR.TabB base mg p.1 p.2) : Dn P w (FF K) mg base 13 "room_calls" 1 f_room_calls := d_room_calls (txt X G S) (at_of (d := dfn "room_calls" (top 75)) rfl S.t.d (List.mem_of_getElem? (i := 31) rfl) (mg_of X G S 48 rfl) rfl (fun _ _ _ _ _ _ us hl => match us, hl with | [_], _ => rfl)) (e_lone_calls X G S B)
theorem e__values_of {P : Program} (X : K.In h) (G : h.Ns mainGlobals mg) (S : SX w h K) (B : ∀ p ∈ csOf K acL alL, GxR.TabB base mg p.1 p.2) : Dn P w (FF K) mg base 1 "_values_of" 1 f__values_of := d__values_of (txt X G S) (at_of (d := dfn "_values_of" (top 78)) rfl S.t.d (List.mem_of_getElem? (i := 32) rfl) (mg_of X G S 49 rfl) rfl (fun _ _ _ _ _ _ us hl => match us, hl with | [_], _ => rfl)) 
theorem e__number_of {P : Program} (X : K.In h) (G : h.Ns mainGlobals mg) (S : SX w h K) (B : ∀ p ∈ csOf K acL alL, GxR.TabB base mg p.1 p.2) : Dn P w (FF K) mg base 1 "_number_of" 3 f__number_of := d__number_of (txt X G S) (at_of (d := dfn "_number_of" (top 77)) rfl S.t.d (List.mem_of_getElem? (i := 33) rfl) (mg_of X G S 50 rfl) rfl (fun _ _ _ _ _ _ us hl => match us, hl with | [_, _, _], _ => rfl)) 
theorem e__is_free {P : Program} (X : K.In h) (G : h.Ns mainGlobals mg) (S : SX w h K) (B : ∀ p ∈ csOf K acL alL, GxR.TabB base mg p.1 p.2) : Dn P w (FF K) mg base 2 "_is_free" 2 f__is_free := d__is_free (txt X G S) (at_of (d := dfn "_is_free" (top 87)) rfl S.t.d (List.mem_of_getElem? (i := 34) rfl) (mg_of X G S 51 rfl) rfl (fun _ _ _ _ _ _ us hl => match us, hl with | [_, _], _ => rfl)) (e__number_of X G S B)
theorem e_free_of {P : Program} (X : K.In h) (G : h.Ns mainGlobals mg) (S : SX w h K) (B : ∀ p ∈ csOf K acL alL, GxR.TabB base mg p.1 p.2) : Dn P w (FF K) mg base 3 "free_of" 1 f_free_of := d_free_of (txt X G S) (at_of (d := dfn "free_of" (top 86)) rfl S.t.d (List.mem_of_getElem? (i := 35) rfl) (mg_of X G S 52 rfl) rfl (fun _ _ _ _ _ _ us hl => match us, hl with | [_], _ => rfl)) (e__values_of X G S B) (e__is_free X G S B)
theorem e_free_values {P : Program} (X : K.In h) (G : h.Ns mainGlobals mg) (S : SX w h K) (B : ∀ p ∈ csOf K acL alL, GxR.TabB base mg p.1 p.2) : Dn P w (FF K) mg base 14 "free_values" 1 f_free_values := d_free_values (txt X G S) (at_of (d := dfn "free_values" (top 85)) rfl S.t.d (List.mem_of_getElem? (i := 36) rfl) (mg_of X G S 53 rfl) rfl (fun _ _ _ _ _ _ us hl => match us, hl with | [_], _ => rfl)) (e_room_calls X G S B) (e_free_of X G S B)
theorem e__is_moment {P : Program} (X : K.In h) (G : h.Ns mainGlobals mg) (S : SX w h K) (B : ∀ p ∈ csOf K acL alL, GxR.TabB base mg p.1 p.2) : Dn P w (FF K) mg base 3 "_is_moment" 2 f__is_moment := d__is_moment (txt X G S) (at_of (d := dfn "_is_moment" (top 83)) rfl S.t.d (List.mem_of_getElem? (i := 37) rfl) (mg_of X G S 54 rfl) rfl (fun _ _ _ _ _ _ us hl => match us, hl with | [_, _], _ => rfl)) (e_is_value X G S B) (e_moments_of X G S B)
theorem e_crowd_of {P : Program} (X : K.In h) (G : h.Ns mainGlobals mg) (S : SX w h K) (B : ∀ p ∈ csOf K acL alL, GxR.TabB base mg p.1 p.2) : Dn P w (FF K) mg base 1 "crowd_of" 2 f_crowd_of := d_crowd_of (txt X G S) (at_of (d := dfn "crowd_of" (top 84)) rfl S.t.d (List.mem_of_getElem? (i := 38) rfl) (mg_of X G S 55 rfl) rfl (fun _ _ _ _ _ _ us hl => match us, hl with | [_, _], _ => rfl)) 
theorem e_crowd_behind {P : Program} (X : K.In h) (G : h.Ns mainGlobals mg) (S : SX w h K) (B : ∀ p ∈ csOf K acL alL, GxR.TabB base mg p.1 p.2) : Dn P w (FF K) mg base 14 "crowd_behind" 2 f_crowd_behind := d_crowd_behind (txt X G S) (at_of (d := dfn "crowd_behind" (top 82)) rfl S.t.d (List.mem_of_getElem? (i := 39) rfl) (mg_of X G S 56 rfl) rfl (fun _ _ _ _ _ _ us hl => match us, hl with | [_, _], _ => rfl)) (e_room_calls X G S B) (e__is_moment X G S B) (e_crowd_of X G S B) (x_BadMoment X G S)
theorem e__size_of {P : Program} (X : K.In h) (G : h.Ns mainGlobals mg) (S : SX w h K) (B : ∀ p ∈ csOf K acL alL, GxR.TabB base mg p.1 p.2) : Dn P w (FF K) mg base 11 "_size_of" 1 f__size_of := d__size_of (txt X G S) (at_of (d := dfn "_size_of" (top 76)) rfl S.t.d (List.mem_of_getElem? (i := 40) rfl) (mg_of X G S 57 rfl) rfl (fun _ _ _ _ _ _ us hl => match us, hl with | [_], _ => rfl)) (e_plain_history X G S B)
theorem e__is_strange {P : Program} (X : K.In h) (G : h.Ns mainGlobals mg) (S : SX w h K) (B : ∀ p ∈ csOf K acL alL, GxR.TabB base mg p.1 p.2) : Dn P w (FF K) mg base 2 "_is_strange" 2 f__is_strange := d__is_strange (txt X G S) (at_of (d := dfn "_is_strange" (top 79)) rfl S.t.d (List.mem_of_getElem? (i := 41) rfl) (mg_of X G S 58 rfl) rfl (fun _ _ _ _ _ _ us hl => match us, hl with | [_, _], _ => rfl)) (e__number_of X G S B)
theorem e_leads {P : Program} (X : K.In h) (G : h.Ns mainGlobals mg) (S : SX w h K) (B : ∀ p ∈ csOf K acL alL, GxR.TabB base mg p.1 p.2) : Dn P w (FF K) mg base 1 "leads" 2 f_leads := d_leads (txt X G S) (at_of (d := dfn "leads" (top 51)) rfl S.t.d (List.mem_of_getElem? (i := 42) rfl) (mg_of X G S 59 rfl) rfl (fun _ _ _ _ _ _ us hl => match us, hl with | [_, _], _ => rfl)) 
theorem e__is_early {P : Program} (X : K.In h) (G : h.Ns mainGlobals mg) (S : SX w h K) (B : ∀ p ∈ csOf K acL alL, GxR.TabB base mg p.1 p.2) : Dn P w (FF K) mg base 2 "_is_early" 2 f__is_early := d__is_early (txt X G S) (at_of (d := dfn "_is_early" (top 80)) rfl S.t.d (List.mem_of_getElem? (i := 43) rfl) (mg_of X G S 60 rfl) rfl (fun _ _ _ _ _ _ us hl => match us, hl with | [_, _], _ => rfl)) (e__number_of X G S B) (e_leads X G S B)
theorem e_odd_leaves {P : Program} (X : K.In h) (G : h.Ns mainGlobals mg) (S : SX w h K) (B : ∀ p ∈ csOf K acL alL, GxR.TabB base mg p.1 p.2) : Dn P w (FF K) mg base 3 "odd_leaves" 1 f_odd_leaves := d_odd_leaves (txt X G S) (at_of (d := dfn "odd_leaves" (top 81)) rfl S.t.d (List.mem_of_getElem? (i := 44) rfl) (mg_of X G S 61 rfl) rfl (fun _ _ _ _ _ _ us hl => match us, hl with | [_], _ => rfl)) (e__is_strange X G S B) (e__is_early X G S B)
theorem e_window_in {P : Program} (X : K.In h) (G : h.Ns mainGlobals mg) (S : SX w h K) (B : ∀ p ∈ csOf K acL alL, GxR.TabB base mg p.1 p.2) : Dn P w (FF K) mg base 2 "window_in" 2 f_window_in := d_window_in (txt X G S) (at_of (d := dfn "window_in" (top 89)) rfl S.t.d (List.mem_of_getElem? (i := 45) rfl) (mg_of X G S 62 rfl) rfl (fun _ _ _ _ _ _ us hl => match us, hl with | [_, _], _ => rfl)) (e_moments_of X G S B)
theorem e__is_covered {P : Program} (X : K.In h) (G : h.Ns mainGlobals mg) (S : SX w h K) (B : ∀ p ∈ csOf K acL alL, GxR.TabB base mg p.1 p.2) : Dn P w (FF K) mg base 4 "_is_covered" 3 f__is_covered := d__is_covered (txt X G S) (atC_of (d := dfn "_is_covered" (top 92)) rfl S.t.d (List.mem_of_getElem? (i := 46) rfl) (mg_of X G S 63 rfl) rfl (fun _ _ _ _ _ _ us hl => match us, hl with | [_, _, _], _ => rfl) (B _ (List.mem_map.mpr ⟨"_is_covered", List.mem_append_left _ (List.mem_of_getElem? (i := 3) rfl), rfl⟩)) (List.mem_map.mpr ⟨"_is_covered", List.mem_of_getElem? (i := 3) rfl, rfl⟩)) (e_window_in X G S B) (e_crowd_of X G S B)
theorem e_room_flaws {P : Program} (X : K.In h) (G : h.Ns mainGlobals mg) (S : SX w h K) (B : ∀ p ∈ csOf K acL alL, GxR.TabB base mg p.1 p.2) : Dn P w (FF K) mg base 5 "room_flaws" 2 f_room_flaws := d_room_flaws (txt X G S) (at_of (d := dfn "room_flaws" (top 91)) rfl S.t.d (List.mem_of_getElem? (i := 47) rfl) (mg_of X G S 64 rfl) rfl (fun _ _ _ _ _ _ us hl => match us, hl with | [_, _], _ => rfl)) (e_odd_leaves X G S B) (e_moments_of X G S B) (e_crowd_of X G S B) (e_free_of X G S B) (e__is_covered X G S B)
theorem e__roomy_moment {P : Program} (X : K.In h) (G : h.Ns mainGlobals mg) (S : SX w h K) (B : ∀ p ∈ csOf K acL alL, GxR.TabB base mg p.1 p.2) : Dn P w (FF K) mg base 3 "_roomy_moment" 3 f__roomy_moment := d__roomy_moment (txt X G S) (at_of (d := dfn "_roomy_moment" (top 94)) rfl S.t.d (List.mem_of_getElem? (i := 48) rfl) (mg_of X G S 65 rfl) rfl (fun _ _ _ _ _ _ us hl => match us, hl with | [_, _, _], _ => rfl)) (e_window_in X G S B) (e_crowd_of X G S B)
theorem e__order_of {P : Program} (X : K.In h) (G : h.Ns mainGlobals mg) (S : SX w h K) (B : ∀ p ∈ csOf K acL alL, GxR.TabB base mg p.1 p.2) : Dn P w (FF K) mg base 4 "_order_of" 2 f__order_of := d__order_of (txt X G S) (at_of (d := dfn "_order_of" (top 93)) rfl S.t.d (List.mem_of_getElem? (i := 49) rfl) (mg_of X G S 66 rfl) rfl (fun _ _ _ _ _ _ us hl => match us, hl with | [_, _], _ => rfl)) (e__is_free X G S B) (e__roomy_moment X G S B)
theorem e_room_paper {P : Program} (X : K.In h) (G : h.Ns mainGlobals mg) (S : SX w h K) (B : ∀ p ∈ csOf K acL alL, GxR.TabB base mg p.1 p.2) : Dn P w (FF K) mg base 14 "room_paper" 1 f_room_paper := d_room_paper (txt X G S) (at_of (d := dfn "room_paper" (top 90)) rfl S.t.d (List.mem_of_getElem? (i := 50) rfl) (mg_of X G S 67 rfl) rfl (fun _ _ _ _ _ _ us hl => match us, hl with | [_], _ => rfl)) (e_room_calls X G S B) (e__size_of X G S B) (e_room_flaws X G S B) (e__order_of X G S B)
theorem e_window_of {P : Program} (X : K.In h) (G : h.Ns mainGlobals mg) (S : SX w h K) (B : ∀ p ∈ csOf K acL alL, GxR.TabB base mg p.1 p.2) : Dn P w (FF K) mg base 14 "window_of" 2 f_window_of := d_window_of (txt X G S) (at_of (d := dfn "window_of" (top 88)) rfl S.t.d (List.mem_of_getElem? (i := 51) rfl) (mg_of X G S 68 rfl) rfl (fun _ _ _ _ _ _ us hl => match us, hl with | [_, _], _ => rfl)) (e_room_calls X G S B) (e_is_value X G S B) (e__is_free X G S B) (e_window_in X G S B) (x_BadValue X G S)
theorem e_word_of_paper {P : Program} (X : K.In h) (G : h.Ns mainGlobals mg) (S : SX w h K) (B : ∀ p ∈ csOf K acL alL, GxR.TabB base mg p.1 p.2) : Dn P w (FF K) mg base 3 "word_of_paper" 2 f_word_of_paper := d_word_of_paper (txt X G S) (at_of (d := dfn "word_of_paper" (top 54)) rfl S.t.d (List.mem_of_getElem? (i := 52) rfl) (mg_of X G S 69 rfl) rfl (fun _ _ _ _ _ _ us hl => match us, hl with | [_, _], _ => rfl)) (x_BadPaper X G S)
theorem e_is_order_of {P : Program} (X : K.In h) (G : h.Ns mainGlobals mg) (S : SX w h K) (B : ∀ p ∈ csOf K acL alL, GxR.TabB base mg p.1 p.2) : Dn P w (FF K) mg base 3 "is_order_of" 2 f_is_order_of := d_is_order_of (txt X G S) (atC_of (d := dfn "is_order_of" (top 52)) rfl S.t.d (List.mem_of_getElem? (i := 53) rfl) (mg_of X G S 70 rfl) rfl (fun _ _ _ _ _ _ us hl => match us, hl with | [_, _], _ => rfl) (B _ (List.mem_map.mpr ⟨"is_order_of", List.mem_append_left _ (List.mem_of_getElem? (i := 4) rfl), rfl⟩)) (List.mem_map.mpr ⟨"is_order_of", List.mem_of_getElem? (i := 4) rfl, rfl⟩)) (e_is_whole X G S B) (e_leads X G S B)
theorem e__first_state {P : Program} (X : K.In h) (G : h.Ns mainGlobals mg) (S : SX w h K) (B : ∀ p ∈ csOf K acL alL, GxR.TabB base mg p.1 p.2) : Dn P w (FF K) mg base 1 "_first_state" 1 f__first_state := d__first_state (txt X G S) (at_of (d := dfn "_first_state" (top 69)) rfl S.t.d (List.mem_of_getElem? (i := 54) rfl) (mg_of X G S 71 rfl) rfl (fun _ _ _ _ _ _ us hl => match us, hl with | [_], _ => rfl)) 
theorem e_first_states {P : Program} (X : K.In h) (G : h.Ns mainGlobals mg) (S : SX w h K) (B : ∀ p ∈ csOf K acL alL, GxR.TabB base mg p.1 p.2) : Dn P w (FF K) mg base 2 "first_states" 1 f_first_states := d_first_states (txt X G S) (at_of (d := dfn "first_states" (top 68)) rfl S.t.d (List.mem_of_getElem? (i := 55) rfl) (mg_of X G S 72 rfl) rfl (fun _ _ _ _ _ _ us hl => match us, hl with | [_], _ => rfl)) (e_name_of X G S B) (e__first_state X G S B)
theorem e__add {P : Program} (X : K.In h) (G : h.Ns mainGlobals mg) (S : SX w h K) (B : ∀ p ∈ csOf K acL alL, GxR.TabB base mg p.1 p.2) : Dn P w (FF K) mg base 1 "_add" 3 f__add := d__add (txt X G S) (at_of (d := dfn "_add" (top 62)) rfl S.t.d (List.mem_of_getElem? (i := 56) rfl) (g_gl X G S (by decide +kernel)) rfl (fun _ _ _ _ _ _ us hl => match us, hl with | [_, _, _], _ => rfl)) 
theorem e__count {P : Program} (X : K.In h) (G : h.Ns mainGlobals mg) (S : SX w h K) (B : ∀ p ∈ csOf K acL alL, GxR.TabB base mg p.1 p.2) : Dn P w (FF K) mg base 1 "_count" 3 f__count := d__count (txt X G S) (at_of (d := dfn "_count" (top 63)) rfl S.t.d (List.mem_of_getElem? (i := 57) rfl) (g_gl X G S (by decide +kernel)) rfl (fun _ _ _ _ _ _ us hl => match us, hl with | [_, _, _], _ => rfl)) 
theorem e__draw {P : Program} (X : K.In h) (G : h.Ns mainGlobals mg) (S : SX w h K) (B : ∀ p ∈ csOf K acL alL, GxR.TabB base mg p.1 p.2) : Dn P w (FF K) mg base 1 "_draw" 3 f__draw := d__draw (txt X G S) (at_of (d := dfn "_draw" (top 64)) rfl S.t.d (List.mem_of_getElem? (i := 58) rfl) (g_gl X G S (by decide +kernel)) rfl (fun _ _ _ _ _ _ us hl => match us, hl with | [_, _, _], _ => rfl)) 
theorem e__enter {P : Program} (X : K.In h) (G : h.Ns mainGlobals mg) (S : SX w h K) (B : ∀ p ∈ csOf K acL alL, GxR.TabB base mg p.1 p.2) : Dn P w (FF K) mg base 1 "_enter" 3 f__enter := d__enter (txt X G S) (at_of (d := dfn "_enter" (top 60)) rfl S.t.d (List.mem_of_getElem? (i := 59) rfl) (g_gl X G S (by decide +kernel)) rfl (fun _ _ _ _ _ _ us hl => match us, hl with | [_, _, _], _ => rfl)) 
theorem e__has {P : Program} (X : K.In h) (G : h.Ns mainGlobals mg) (S : SX w h K) (B : ∀ p ∈ csOf K acL alL, GxR.TabB base mg p.1 p.2) : Dn P w (FF K) mg base 1 "_has" 3 f__has := d__has (txt X G S) (at_of (d := dfn "_has" (top 66)) rfl S.t.d (List.mem_of_getElem? (i := 60) rfl) (g_gl X G S (by decide +kernel)) rfl (fun _ _ _ _ _ _ us hl => match us, hl with | [_, _, _], _ => rfl)) 
theorem e__join {P : Program} (X : K.In h) (G : h.Ns mainGlobals mg) (S : SX w h K) (B : ∀ p ∈ csOf K acL alL, GxR.TabB base mg p.1 p.2) : Dn P w (FF K) mg base 1 "_join" 3 f__join := d__join (txt X G S) (at_of (d := dfn "_join" (top 65)) rfl S.t.d (List.mem_of_getElem? (i := 61) rfl) (g_gl X G S (by decide +kernel)) rfl (fun _ _ _ _ _ _ us hl => match us, hl with | [_, _, _], _ => rfl)) 
theorem e__leave {P : Program} (X : K.In h) (G : h.Ns mainGlobals mg) (S : SX w h K) (B : ∀ p ∈ csOf K acL alL, GxR.TabB base mg p.1 p.2) : Dn P w (FF K) mg base 1 "_leave" 3 f__leave := d__leave (txt X G S) (at_of (d := dfn "_leave" (top 61)) rfl S.t.d (List.mem_of_getElem? (i := 62) rfl) (g_gl X G S (by decide +kernel)) rfl (fun _ _ _ _ _ _ us hl => match us, hl with | [_, _, _], _ => rfl)) 
theorem e__put {P : Program} (X : K.In h) (G : h.Ns mainGlobals mg) (S : SX w h K) (B : ∀ p ∈ csOf K acL alL, GxR.TabB base mg p.1 p.2) : Dn P w (FF K) mg base 1 "_put" 3 f__put := d__put (txt X G S) (at_of (d := dfn "_put" (top 58)) rfl S.t.d (List.mem_of_getElem? (i := 63) rfl) (g_gl X G S (by decide +kernel)) rfl (fun _ _ _ _ _ _ us hl => match us, hl with | [_, _, _], _ => rfl)) 
theorem e__read {P : Program} (X : K.In h) (G : h.Ns mainGlobals mg) (S : SX w h K) (B : ∀ p ∈ csOf K acL alL, GxR.TabB base mg p.1 p.2) : Dn P w (FF K) mg base 1 "_read" 3 f__read := d__read (txt X G S) (at_of (d := dfn "_read" (top 57)) rfl S.t.d (List.mem_of_getElem? (i := 64) rfl) (g_gl X G S (by decide +kernel)) rfl (fun _ _ _ _ _ _ us hl => match us, hl with | [_, _, _], _ => rfl)) 
theorem e__take {P : Program} (X : K.In h) (G : h.Ns mainGlobals mg) (S : SX w h K) (B : ∀ p ∈ csOf K acL alL, GxR.TabB base mg p.1 p.2) : Dn P w (FF K) mg base 1 "_take" 3 f__take := d__take (txt X G S) (at_of (d := dfn "_take" (top 59)) rfl S.t.d (List.mem_of_getElem? (i := 65) rfl) (g_gl X G S (by decide +kernel)) rfl (fun _ _ _ _ _ _ us hl => match us, hl with | [_, _, _], _ => rfl)) 
theorem e__write {P : Program} (X : K.In h) (G : h.Ns mainGlobals mg) (S : SX w h K) (B : ∀ p ∈ csOf K acL alL, GxR.TabB base mg p.1 p.2) : Dn P w (FF K) mg base 1 "_write" 3 f__write := d__write (txt X G S) (at_of (d := dfn "_write" (top 56)) rfl S.t.d (List.mem_of_getElem? (i := 66) rfl) (g_gl X G S (by decide +kernel)) rfl (fun _ _ _ _ _ _ us hl => match us, hl with | [_, _, _], _ => rfl)) 
theorem e_step {P : Program} (X : K.In h) (G : h.Ns mainGlobals mg) (S : SX w h K) (B : ∀ p ∈ csOf K acL alL, GxR.TabB base mg p.1 p.2) : Dn P w (FF K) mg base 2 "step" 3 f_step := d_step (txt X G S) (at_of (d := dfn "step" (top 70)) rfl S.t.d (List.mem_of_getElem? (i := 67) rfl) (mg_of X G S 73 rfl) rfl (fun _ _ _ _ _ _ us hl => match us, hl with | [_, _, _], _ => rfl)) (e__add X G S B) (e__count X G S B) (e__draw X G S B) (e__enter X G S B) (e__has X G S B) (e__join X G S B) (e__leave X G S B) (e__put X G S B) (e__read X G S B) (e__take X G S B) (e__write X G S B) (k_ACTIONS X G S)
theorem e_states_told {P : Program} (X : K.In h) (G : h.Ns mainGlobals mg) (S : SX w h K) (B : ∀ p ∈ csOf K acL alL, GxR.TabB base mg p.1 p.2) : Dn P w (FF K) mg base 3 "states_told" 3 f_states_told := d_states_told (txt X G S) (at_of (d := dfn "states_told" (top 71)) rfl S.t.d (List.mem_of_getElem? (i := 68) rfl) (mg_of X G S 74 rfl) rfl (fun _ _ _ _ _ _ us hl => match us, hl with | [_, _, _], _ => rfl)) (e_first_states X G S B) (e_step X G S B)
theorem e_explains {P : Program} (X : K.In h) (G : h.Ns mainGlobals mg) (S : SX w h K) (B : ∀ p ∈ csOf K acL alL, GxR.TabB base mg p.1 p.2) : Dn P w (FF K) mg base 4 "explains" 3 f_explains := d_explains (txt X G S) (at_of (d := dfn "explains" (top 72)) rfl S.t.d (List.mem_of_getElem? (i := 69) rfl) (mg_of X G S 75 rfl) rfl (fun _ _ _ _ _ _ us hl => match us, hl with | [_, _, _], _ => rfl)) (e_is_order_of X G S B) (e_states_told X G S B)
theorem e__holds {P : Program} (X : K.In h) (G : h.Ns mainGlobals mg) (S : SX w h K) (B : ∀ p ∈ csOf K acL alL, GxR.TabB base mg p.1 p.2) : Dn P w (FF K) mg base 5 "_holds" 4 f__holds := d__holds (txt X G S) (at_of (d := dfn "_holds" (top 96)) rfl S.t.d (List.mem_of_getElem? (i := 70) rfl) (mg_of X G S 76 rfl) rfl (fun _ _ _ _ _ _ us hl => match us, hl with | [_, _, _, _], _ => rfl)) (e_explains X G S B) (e__is_moment X G S B) (e_crowd_of X G S B) (e_is_value X G S B) (e__is_free X G S B) (e__number_of X G S B) (e__is_early X G S B) (e__is_covered X G S B) (e_is_number_below X G S B) (e__is_strange X G S B)
theorem e_check_room {P : Program} (X : K.In h) (G : h.Ns mainGlobals mg) (S : SX w h K) (B : ∀ p ∈ csOf K acL alL, GxR.TabB base mg p.1 p.2) : Dn P w (FF K) mg base 14 "check_room" 2 f_check_room := d_check_room (txt X G S) (at_of (d := dfn "check_room" (top 95)) rfl S.t.d (List.mem_of_getElem? (i := 71) rfl) (mg_of X G S 77 rfl) rfl (fun _ _ _ _ _ _ us hl => match us, hl with | [_, _], _ => rfl)) (e_room_calls X G S B) (e_word_of_paper X G S B) (e__size_of X G S B) (e__holds X G S B) (x_BadPaper X G S)
theorem e__values_over {P : Program} (X : K.In h) (G : h.Ns mainGlobals mg) (S : SX w h K) (B : ∀ p ∈ csOf K acL alL, GxR.TabB base mg p.1 p.2) : Dn P w (FF K) mg base 3 "_values_over" 2 f__values_over := d__values_over (txt X G S) (at_of (d := dfn "_values_over" (top 98)) rfl S.t.d (List.mem_of_getElem? (i := 72) rfl) (mg_of X G S 78 rfl) rfl (fun _ _ _ _ _ _ us hl => match us, hl with | [_, _], _ => rfl)) (e_window_in X G S B)
theorem e_room_bar {P : Program} (X : K.In h) (G : h.Ns mainGlobals mg) (S : SX w h K) (B : ∀ p ∈ csOf K acL alL, GxR.TabB base mg p.1 p.2) : Dn P w (FF K) mg base 15 "room_bar" 2 f_room_bar := d_room_bar (txt X G S) (at_of (d := dfn "room_bar" (top 97)) rfl S.t.d (List.mem_of_getElem? (i := 73) rfl) (mg_of X G S 79 rfl) rfl (fun _ _ _ _ _ _ us hl => match us, hl with | [_, _], _ => rfl)) (e_check_room X G S B) (e_room_calls X G S B) (e_crowd_of X G S B) (e__values_over X G S B) (x_BadPaper X G S)
theorem e_sized {P : Program} (X : K.In h) (G : h.Ns mainGlobals mg) (S : SX w h K) (B : ∀ p ∈ csOf K acL alL, GxR.TabB base mg p.1 p.2) : Dn P w (FF K) mg base 14 "sized" 2 f_sized := d_sized (txt X G S) (at_of (d := dfn "sized" (top 101)) rfl S.t.d (List.mem_of_getElem? (i := 74) rfl) (mg_of X G S 80 rfl) rfl (fun _ _ _ _ _ _ us hl => match us, hl with | [_, _], _ => rfl)) (e_room_calls X G S B) (e_is_room X G S B) (x_BadNumber X G S)
theorem e_least_room {P : Program} (X : K.In h) (G : h.Ns mainGlobals mg) (S : SX w h K) (B : ∀ p ∈ csOf K acL alL, GxR.TabB base mg p.1 p.2) : Dn P w (FF K) mg base 14 "least_room" 1 f_least_room := d_least_room (txt X G S) (at_of (d := dfn "least_room" (top 100)) rfl S.t.d (List.mem_of_getElem? (i := 75) rfl) (mg_of X G S 81 rfl) rfl (fun _ _ _ _ _ _ us hl => match us, hl with | [_], _ => rfl)) (e_room_calls X G S B) (e_odd_leaves X G S B) (e_moments_of X G S B) (e_crowd_of X G S B) (e_free_of X G S B) (e_window_in X G S B)
theorem at__law_heard (X : K.In h) (G : h.Ns mainGlobals mg) (S : SX w h K) : At (FF K) mg "_law_heard" (top 106) ["_law_call"] := at_of (d := dfn "_law_heard" (top 106)) rfl S.t.d (List.mem_of_getElem? (i := 76) rfl) (mg_of X G S 82 rfl) rfl (fun _ _ _ _ _ _ us hl => match us, hl with | [_], _ => rfl)
theorem e__law_all_heard {P : Program} (X : K.In h) (G : h.Ns mainGlobals mg) (S : SX w h K) (B : ∀ p ∈ csOf K acL alL, GxR.TabB base mg p.1 p.2) : Dn P w (FF K) mg base 18 "_law_all_heard" 1 f__law_all_heard := d__law_all_heard (txt X G S) (atL_of (d := dfn "_law_all_heard" (top 107)) rfl S.t.d (List.mem_of_getElem? (i := 77) rfl) (mg_of X G S 83 rfl) rfl (fun _ _ _ _ _ _ us hl => match us, hl with | [_], _ => rfl) (B _ (List.mem_map.mpr ⟨"_law_all_heard", List.mem_append_right _ (List.mem_of_getElem? (i := 0) rfl), rfl⟩)) (List.mem_map.mpr ⟨"_law_all_heard", List.mem_of_getElem? (i := 0) rfl, rfl⟩)) (e_free_values X G S B) (e_crowd_behind X G S B) (e_room_paper X G S B) (e_window_of X G S B) (e_room_bar X G S B) (e_check_room X G S B) (e_sized X G S B) (e_least_room X G S B) (at__law_heard X G S)
theorem e__law_histories_refused {P : Program} (X : K.In h) (G : h.Ns mainGlobals mg) (S : SX w h K) (B : ∀ p ∈ csOf K acL alL, GxR.TabB base mg p.1 p.2) : Dn P w (FF K) mg base 19 "_law_histories_refused" 0 f__law_histories_refused := d__law_histories_refused (txt X G S) (at_of (d := dfn "_law_histories_refused" (top 108)) rfl S.t.d (List.mem_of_getElem? (i := 78) rfl) (mg_of X G S 84 rfl) rfl (fun _ _ _ _ _ _ us hl => match us, hl with | [], _ => rfl)) (e__law_all_heard X G S B)
theorem e__law_things_refused {P : Program} (X : K.In h) (G : h.Ns mainGlobals mg) (S : SX w h K) (B : ∀ p ∈ csOf K acL alL, GxR.TabB base mg p.1 p.2) : DnG P w (FF K) mg base 18 "_law_things_refused" 1 f__law_things_refused := d__law_things_refused (txt X G S) (atL_of (d := dfn "_law_things_refused" (top 109)) rfl S.t.d (List.mem_of_getElem? (i := 79) rfl) (mg_of X G S 85 rfl) rfl (fun _ _ _ _ _ _ us hl => match us, hl with | [_], _ => rfl) (B _ (List.mem_map.mpr ⟨"_law_things_refused", List.mem_append_right _ (List.mem_of_getElem? (i := 1) rfl), rfl⟩)) (List.mem_map.mpr ⟨"_law_things_refused", List.mem_of_getElem? (i := 1) rfl, rfl⟩)) (e_crowd_behind X G S B) (e_window_of X G S B) (e_room_bar X G S B) (e_check_room X G S B) (e_sized X G S B) (at__law_heard X G S)
theorem e_law {P : Program} (X : K.In h) (G : h.Ns mainGlobals mg) (S : SX w h K) (B : ∀ p ∈ csOf K acL alL, GxR.TabB base mg p.1 p.2) : DnG P w (FF K) mg base 20 "law" 1 f_law := d_law (txt X G S) (at_of (d := dfn "law" (top 110)) rfl S.t.d (List.mem_of_getElem? (i := 80) rfl) (mg_of X G S 86 rfl) rfl (fun _ _ _ _ _ _ us hl => match us, hl with | [_], _ => rfl)) (e__law_begin X G S B) (e__law_draw X G S B) (e__law_histories_refused X G S B) (e__law_things_refused X G S B)
theorem e_all {P : Program} (X : K.In h) (G : h.Ns mainGlobals mg) (S : SX w h K) : ∀ base : Heap, (∀ p ∈ csOf K acL alL, GxR.TabB base mg p.1 p.2) → DnG P w (FF K) mg base 20 "law" 1 f_law := fun base B => e_law X G S B
/-- the end, from what the small machine answers -/
theorem law_at {h : Heap} {w : World} {mg : Str → Option Value} (pure : ∀ ns : List Int, ns.length ≤ 63 → (∀ z ∈ ns, Builtin.Int.intBits z ≤ 1048576) → ∃ h', f_law [scr ns] h00 = .ok (.bl true) h') (Y : hk.says w h) (G : h.Ns mainGlobals mg) : LawAtD PySem.Challenge.rw_shortbars_k28_part_f_refused w 20 63 "law" mg h := by
  obtain ⟨K, X, S⟩ := Y
  refine ⟨K, glL, acL, alL, f_law, X, fun p hp => ?_, fun p hp => ?_, fun p hp => ?_, ex1 S, pure, fun base _ _ B => e_all X G S base B⟩
  · obtain ⟨x, hx, rfl⟩ := List.mem_map.mp hp
    exact S.empty (x, none) (List.mem_map.mpr ⟨x, hx, rfl⟩)
  · obtain ⟨x, hx, rfl⟩ := List.mem_map.mp hp
    exact S.out (x, none) (List.mem_map.mpr ⟨x, hx, rfl⟩)
  · obtain ⟨x, hx, rfl⟩ := List.mem_map.mp hp
    exact PySem.W.codeHd_of_K X (S.hd (x, none) (List.mem_map.mpr ⟨x, hx, rfl⟩))
end DT

set_option Elab.async false
set_option linter.all false
set_option maxRecDepth 100000
set_option maxHeartbeats 0
namespace DT
open PySem PySem.Spec PyProof.Rows L2 GxR RZ DI
theorem runA0 (w : World) (os : OsState) : (HandSHeadRun.endF (HandSHeadRun.stepQ (HandSHeadRun.denQ HandSHeadRun.tabQ) RR.prog (w.withFollow "special-get-raises" false)) 30000 RR.prog (w.withFollow "special-get-raises" false) os).map (fun x => (HandSHeadRun.looksF RR.prog (PySem.W.boot_heap (w.withFollow "special-get-raises" false).params) x.abs, HandSHeadRun.seenQ (PySem.W.view RR.prog [110]) nmL (importedModules RR.prog.main.body) (fun s => PySem.W.xlAt (PySem.W.view RR.prog [110]) [] s && PySem.W.recOk RR.toRowW.records s) x.abs)) = some (true, PySem.W.openGood (PySem.W.view RR.prog [110]) nmL) := by kernel_rfl
theorem runB0 (w : World) (os : OsState) : (HandSHeadRun.endF (HandSHeadRun.stepQ (HandSHeadRun.denQ HandSHeadRun.tabQ) RR.prog (w.withFollow "special-get-raises" false)) 30000 RR.prog (w.withFollow "special-get-raises" false) os).map (fun x => (ob x).1) = some (hk.val (w.withFollow "special-get-raises" false)).1 := by kernel_rfl
theorem runC0 (w : World) (os : OsState) : (HandSHeadRun.endF (HandSHeadRun.stepQ (HandSHeadRun.denQ HandSHeadRun.tabQ) RR.prog (w.withFollow "special-get-raises" false)) 30000 RR.prog (w.withFollow "special-get-raises" false) os).map (fun x => (ob x).2) = some (hk.val (w.withFollow "special-get-raises" false)).2 := by kernel_rfl
theorem run0 (w : World) : HandSHeadRun.RunEq RR (PySem.W.view RR.prog [110]) hk ob 30000 nmL (w.withFollow "special-get-raises" false) := by
  intro os
  exact join_run (runA0 w os) (runB0 w os) (runC0 w os)
theorem runA1 (w : World) (os : OsState) : (HandSHeadRun.endF (HandSHeadRun.stepQ (HandSHeadRun.denQ HandSHeadRun.tabQ) RR.prog (w.withFollow "special-get-raises" true)) 30000 RR.prog (w.withFollow "special-get-raises" true) os).map (fun x => (HandSHeadRun.looksF RR.prog (PySem.W.boot_heap (w.withFollow "special-get-raises" true).params) x.abs, HandSHeadRun.seenQ (PySem.W.view RR.prog [110]) nmL (importedModules RR.prog.main.body) (fun s => PySem.W.xlAt (PySem.W.view RR.prog [110]) [] s && PySem.W.recOk RR.toRowW.records s) x.abs)) = some (true, PySem.W.openGood (PySem.W.view RR.prog [110]) nmL) := by kernel_rfl
theorem runB1 (w : World) (os : OsState) : (HandSHeadRun.endF (HandSHeadRun.stepQ (HandSHeadRun.denQ HandSHeadRun.tabQ) RR.prog (w.withFollow "special-get-raises" true)) 30000 RR.prog (w.withFollow "special-get-raises" true) os).map (fun x => (ob x).1) = some (hk.val (w.withFollow "special-get-raises" true)).1 := by kernel_rfl
theorem runC1 (w : World) (os : OsState) : (HandSHeadRun.endF (HandSHeadRun.stepQ (HandSHeadRun.denQ HandSHeadRun.tabQ) RR.prog (w.withFollow "special-get-raises" true)) 30000 RR.prog (w.withFollow "special-get-raises" true) os).map (fun x => (ob x).2) = some (hk.val (w.withFollow "special-get-raises" true)).2 := by kernel_rfl
theorem run1 (w : World) : HandSHeadRun.RunEq RR (PySem.W.view RR.prog [110]) hk ob 30000 nmL (w.withFollow "special-get-raises" true) := by
  intro os
  exact join_run (runA1 w os) (runB1 w os) (runC1 w os)
theorem run (w : World) : HandSHeadRun.RunEq RR (PySem.W.view RR.prog [110]) hk ob 30000 nmL w := PySem.W.byRow2 "special-get-raises" (P := fun w => HandSHeadRun.RunEq RR (PySem.W.view RR.prog [110]) hk ob 30000 nmL w) (fun w => run0 w) (fun w => run1 w) w
end DT

set_option Elab.async false
set_option linter.all false
set_option maxRecDepth 100000
set_option maxHeartbeats 0
namespace DT
open PySem PySem.Spec PyProof.Rows L2 GxR RZ DI
def restS : EvS := sSeq (sAsg (xA mkT (xCons (xA mkT (xCons (xC (.int 0)) (xCons (xVar 2) (xCons (xC (.int 0)) (xCons (xC (.str "enter")) (xCons (xC (.int 1)) (xCons (xC .non) (xNil)))))))) (xCons (xA mkT (xCons (x2 gAdd (xVar 2) (xC (.int 2))) (xCons (x2 gAdd (xVar 2) (xC (.int 6))) (xCons (xC (.int 0)) (xCons (xC (.str "enter")) (xCons (xC (.int 2)) (xCons (xC .non) (xNil)))))))) (xNil)))) (yName 3)) (sSeq (sAsg (x2 gAdd (xVar 3) (xA mkT (xCons (xA mkT (xCons (x2 gAdd (xVar 2) (xC (.int 4))) (xCons (x2 gAdd (xVar 2) (xC (.int 8))) (xCons (xC (.int 0)) (xCons (xC (.str "leave")) (xCons (xC (.int 2)) (xCons (xC .non) (xNil)))))))) (xCons (xA mkT (xCons (x2 gAdd (xVar 2) (xC (.int 10))) (xCons (x2 gAdd (xVar 2) (xC (.int 11))) (xCons (xC (.int 0)) (xCons (xC (.str "leave")) (xCons (xC (.int 1)) (xCons (xC .non) (xNil)))))))) (xNil))))) (yName 3)) (sRet (xAndT (xA0 f__law_histories_refused) (xA (onN 1 f__law_things_refused) (xCons (xA mkT (xCons (xA mkT (xCons (xA mkT (xCons (xC (.str "room")) (xCons (xC (.int 2)) (xNil)))) (xNil))) (xCons (xVar 3) (xNil)))) (xNil))))))
def isT (o : Out AV) : Bool := match o with
  | .ok (.bl true) _ => true
  | _ => false
theorem isT_ok {o : Out AV} (h : isT o = true) : ∃ h', o = .ok (.bl true) h' := by
  unfold isT at h
  split at h
  · exact ⟨_, rfl⟩
  · cases h
theorem rest_0 (cs ls : List Int) (x : AV) : isT (endO (restS [some x, some (.ref 2), some (.int 2), none] (st4 cs ls 1))) = true := by kernel_rfl
theorem rest_1 (cs ls : List Int) (x : AV) : isT (endO (restS [some x, some (.ref 2), some (.int 3), none] (st4 cs ls 1))) = true := by kernel_rfl
theorem rest_2 (cs ls : List Int) (x : AV) : isT (endO (restS [some x, some (.ref 2), some (.int 4), none] (st4 cs ls 1))) = true := by kernel_rfl
theorem rest_3 (cs ls : List Int) (x : AV) : isT (endO (restS [some x, some (.ref 2), some (.int 5), none] (st4 cs ls 1))) = true := by kernel_rfl
theorem rest_4 (cs ls : List Int) (x : AV) : isT (endO (restS [some x, some (.ref 2), some (.int 6), none] (st4 cs ls 1))) = true := by kernel_rfl
theorem rest_5 (cs ls : List Int) (x : AV) : isT (endO (restS [some x, some (.ref 2), some (.int 7), none] (st4 cs ls 1))) = true := by kernel_rfl
theorem rest_6 (cs ls : List Int) (x : AV) : isT (endO (restS [some x, some (.ref 2), some (.int 8), none] (st4 cs ls 1))) = true := by kernel_rfl
theorem rest_7 (cs ls : List Int) (x : AV) : isT (endO (restS [some x, some (.ref 2), some (.int 9), none] (st4 cs ls 1))) = true := by kernel_rfl
theorem rest_8 (cs ls : List Int) (x : AV) : isT (endO (restS [some x, some (.ref 2), some (.int 10), none] (st4 cs ls 1))) = true := by kernel_rfl
theorem pure_law (ns : List Int) (hl : ns.length ≤ 63) (_ : ∀ z ∈ ns, Builtin.Int.intBits z ≤ 1048576) : ∃ h', f_law [scr ns] h00 = .ok (.bl true) h' := by
  have hc : 0 < (cellsI ns).length := by
    unfold cellsI
    cases ns with
    | nil => exact Nat.zero_lt_one
    | cons c cs => exact Nat.succ_pos _
  have eb : f__law_begin [scr ns] h00 = .ok (.ref 2) (st4 (cellsI ns) ((cellsI ns).map leftI) 0) := begin_ok ns hl
  obtain ⟨r, ls, ed, r0, r1, _⟩ := draw_ok (cs := cellsI ns) (ls := (cellsI ns).map leftI) (a := 0) (m := 9) (List.length_map ..) hc (by omega) (by omega) (by omega) (by omega)
  have ed : f__law_draw [.ref 2, .int 9] (st4 (cellsI ns) ((cellsI ns).map leftI) 0) = .ok (.int r) (st4 (cellsI ns) ls 1) := ed
  have key : f_law [scr ns] h00 = endO (restS [some (scr ns), some (.ref 2), some (.int (2 + r)), none] (st4 (cellsI ns) ls 1)) := by
    show endO (bindS (bindE (f__law_begin [scr ns] h00) _ _) _) = _
    rw [eb]
    show endO (bindS (bindE (bindO (f__law_draw [.ref 2, .int 9] (st4 (cellsI ns) ((cellsI ns).map leftI) 0)) _) _ _) _) = _
    rw [ed] <;> rfl
  rw [key]
  have hr : r = 0 ∨ r = 1 ∨ r = 2 ∨ r = 3 ∨ r = 4 ∨ r = 5 ∨ r = 6 ∨ r = 7 ∨ r = 8 := by omega
  rcases hr with rfl | rfl | rfl | rfl | rfl | rfl | rfl | rfl | rfl
  · exact isT_ok (rest_0 _ _ _)
  · exact isT_ok (rest_1 _ _ _)
  · exact isT_ok (rest_2 _ _ _)
  · exact isT_ok (rest_3 _ _ _)
  · exact isT_ok (rest_4 _ _ _)
  · exact isT_ok (rest_5 _ _ _)
  · exact isT_ok (rest_6 _ _ _)
  · exact isT_ok (rest_7 _ _ _)
  · exact isT_ok (rest_8 _ _ _)
end DT

set_option Elab.async false
set_option linter.all false
set_option maxRecDepth 100000
set_option maxHeartbeats 0
open PySem PySem.W PySem.Calls PyProof.Rows
theorem PySem.Challenge.cw_shortbars_k28_part_f_refused_holds : PySem.Challenge.rw_shortbars_k28_part_f_refused.Holds := by
  w_on; o_law
  refine HandSHeadRun.head_any (r := OpenLaw.row PySem.Challenge.rw_shortbars_k28_part_f_refused) (q := view (OpenLaw.row PySem.Challenge.rw_shortbars_k28_part_f_refused).prog [110]) (H := DT.hk) (ob := DT.ob) (M := 30000) (loose := DT.nmL) (d := HandSHeadRun.topDef (OpenLaw.row PySem.Challenge.rw_shortbars_k28_part_f_refused).prog 110) (kwd := []) DT.ob_eq
    (by kernel_rfl) (fun s => by kernel_rfl) DT.run (by kernel_rfl) (by kernel_rfl) (by kernel_rfl) (by rfl) (by first | assumption | decide +kernel) (by decide +kernel) ⟨rfl, rfl, rfl, rfl, rfl, by decide +kernel⟩ ?hw ?hc
  case hw => w_witness2
  case hc =>
    refine DI.walk_ofD (l := PySem.Challenge.rw_shortbars_k28_part_f_refused) (n := 63) (k := 20) rfl (by decide) (by kernel_rfl) ⟨rfl, by decide, by decide⟩ ?F
    intro w mg fa h Y G hmg0
    have e : (HandSHeadRun.topDef (OpenLaw.row PySem.Challenge.rw_shortbars_k28_part_f_refused).prog 110).name = ("law" : PySem.Str) := by kernel_rfl
    rw [e]
    exact DT.law_at DT.pure_law Y G

