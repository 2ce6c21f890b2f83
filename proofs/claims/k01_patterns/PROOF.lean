import PyProof.Rows.All
import Wide.All
import OpenK.AllK
import Wide.FinOn
import HandS.ForMost
import HandS.AnyAll
import HandS.GenOver
import HandS.Strs
import HandS.Defaults
import HandS.WideBits
import KE.KStateDown
import Lean
import HandS.ForExc
import HandS.Head0
import HandS.Head1
import HandS.Head2
import HandS.HeadEnd
import HandS.HeadHook1
import HandS.HeadHook2
import HandS.HeadHook3
import HandS.HeadHook4
import HandS.HeadWalk
import HandS.IsInst
import HandS.Text
import HandS.ExcCtx
import HandS.Conv
import HandS.HotCalls
import HandS.ExcIs
import HandS.ForDict
import HandS.TupSets
import HandS.TupMul
import HandS.ExcOwn
import HandS.Style
import HandS.EndTab
import KE.KNestM
import PySem.Challenge.RW_bothreed_k01_patterns
set_option Elab.async false
set_option linter.all false
set_option maxRecDepth 100000
set_option maxHeartbeats 4000000
/-! any, all over a generator expression whose element may call defs of the program's own -/
namespace GE
open PySem PySem.Spec PyProof.Rows L2 GxR
theorem over_start {A : Around} {elt iter tg : Expr} {ifs : List Expr} {scope : Scope} {pos : Pos} {it acc : Value} {env : Env} :
    A.over (.compStart (.GeneratorExp elt [⟨tg, iter, ifs, 0⟩] scope pos) 0 it acc env) [] = A.deeper env := by
  obtain ⟨hd, d, fr, gs, u⟩ := A
  simp [Around.over, Around.deeper, marksOver, frameCount, unitsOf, envsOf, guardsOf, pushEnvs, pushGuards, Code.envs, Code.env?, Code.isFrame, Code.guards, Code.isGuard, Code.weight, Code.frames, Code.isCreation, Code.isCaller, Code.cUnits]
theorem over_loop {A : Around} {elt iter tg : Expr} {ifs : List Expr} {scope : Scope} {pos : Pos} {it acc : Value} {env : Env} :
    A.over (.compLoop (.GeneratorExp elt [⟨tg, iter, ifs, 0⟩] scope pos) 0 it acc env) [] = A.deeper env := by
  obtain ⟨hd, d, fr, gs, u⟩ := A
  simp [Around.over, Around.deeper, marksOver, frameCount, unitsOf, envsOf, guardsOf, pushEnvs, pushGuards, Code.envs, Code.env?, Code.isFrame, Code.guards, Code.isGuard, Code.weight, Code.frames, Code.isCreation, Code.isCaller, Code.cUnits]

/-- the context of the generator's turns -/
abbrev Cx.gen (X : Cx) (s : Shared) (H : Hp) (cenv : Env) (fp : List Addr) (x : Str) : Cx :=
  { X with A := X.A.in1.in1.deeper cenv, N := X.N ++ [x], s_0 := s, H_0 := H, env := cenv, outer := X.stack, stack := cenv :: X.stack, ex := fp, fn := fun _ => false, pn := [], xe := fun _ _ => False }
/-- the environment of the generator's frame -/
abbrev gEnv (X : Cx) (scope : Scope) (C : Addr) (code : Value) : Env := genEnv scope (cloFrom X.env.cells scope.names []) C code builtinsNs X.env
theorem Room.gen {k : Nat} {A : Around} (r : Room (k + 1) A) (env : Env) : Room k (A.in1.in1.deeper env) :=
  ⟨r.hd, by have := r.dp; show A.depth + 1 + 3 * k + 5 < _; omega, by have := r.un; show A.units + 1 + 1 + 3 + 16 * k + 200 < _; omega⟩

/-- the scope of the generator expression -/
structure GSc (N : List Str) (sc scope : Scope) (x : Str) : Prop where
  blk : BlkOk (N ++ [x]) sc scope [(x, N.length)]
  nd : (N ++ [x]).Nodup
  co : scope.isCoroutine = false
  cell : ∀ y ∈ scope.names, y.2 ≠ .cell
  dot : scope.names.lookup (".0" : Str) = some NameKind.local
  loc : scope.names.lookup x = some .local
def gscC (N : List Str) (sc scope : Scope) (x : Str) : Bool :=
  blkC (N ++ [x]) sc scope [(x, N.length)] && decide ((N ++ [x]).Nodup) && !scope.isCoroutine && (scope.names.all fun y => match y.2 with | .cell => false | _ => true) && (match scope.names.lookup (".0" : Str) with | some .local => true | _ => false)
    && (match scope.names.lookup x with | some .local => true | _ => false)
theorem gsc_by {N : List Str} {sc scope : Scope} {x : Str} (h : gscC N sc scope x = true) : GSc N sc scope x := by
  unfold gscC at h
  simp only [Bool.and_eq_true, decide_eq_true_eq, Bool.not_eq_true', List.all_eq_true] at h
  obtain ⟨⟨⟨⟨⟨h1, h2⟩, h3⟩, h4⟩, h5⟩, h6⟩ := h
  refine ⟨blkOk_by h1, h2, h3, fun y hy e => ?_, ?_, ?_⟩
  · have := h4 y hy
    rw [e] at this
    cases this
  · split at h5
    · assumption
    · cases h5
  · split at h6
    · assumption
    · cases h6

section
variable {X : Cx} {pins : List (Addr × Obj)} {σ : L2.St} {H : Hp} {s s' : Shared}
/-- the same heap, other tokens and generators -/
theorem Inv.regen (I : Inv X pins σ H s) (hh : s'.heap = s.heap) (ho : s'.os = s.os) (hb : AllBare s'.gens) : Inv X pins σ H s' := by
  obtain ⟨h, g, d, t, o⟩ := s
  obtain ⟨h', g', d', t', o'⟩ := s'
  obtain rfl : h' = h := hh
  obtain rfl : o' = o := ho
  exact ⟨I.ok, I.os, hb, I.base, I.loc, I.cell, I.free, I.freeC, I.pin, I.hok, I.len⟩

theorem gen_start {scope : Scope} {x : Str} {code : Value} {m : Str → Option Value} {fp : List Addr} (I : Inv X pins σ H s) (S : GSc X.N X.env.scope scope x) (hfp : ∀ b ∈ fp, FpOk X pins H b ∧ b < s.heap.objs.size)
    (hn : s'.heap.Ns s.heap.objs.size m) (kp : ∀ b o, s.heap.get? b = some o → s'.heap.get? b = some o) (ho : s'.os = s.os) (hb : AllBare s'.gens) :
    Inv (Cx.gen X s H (gEnv X scope s.heap.objs.size code) fp x) [] (σ ++ [none]) H s' := by
  have ok := S.blk
  have hfree : ∀ y ∈ scope.names, y.2 = .free → ∃ c, X.env.cells.lookup y.1 = some c := fun y hy e => by
    rcases ok.free y hy e with k | k
    · exact I.ok.has _ (.inl k)
    · exact I.ok.has _ (.inr k)
  have cm : ∀ {y c}, (y, c) ∈ cloFrom X.env.cells scope.names [] → X.env.cells.lookup y = some c ∧ c < s.heap.objs.size := fun {y c} hm => by
    rcases cloFrom_mem hm with hm | ⟨h1, rfl⟩
    · cases hm
    · obtain ⟨c, hc⟩ := hfree _ h1 rfl
      rw [hc]
      obtain ⟨w, z⟩ := I.cell _ _ hc
      exact ⟨rfl, z.lt⟩
  generalize hcenv : gEnv X scope s.heap.objs.size code = cenv
  have hL : cenv.locals = s.heap.objs.size := by rw [← hcenv]; rfl
  have hcl : cenv.cells = cloFrom X.env.cells scope.names [] := by rw [← hcenv]; rfl
  have hsc : cenv.scope = scope := by rw [← hcenv]; rfl
  have hfr : cenv.frame = some cenv.locals := by rw [← hcenv]; rfl
  have mem : ∀ {y c}, cenv.cells.lookup y = some c → X.env.cells.lookup y = some c ∧ c < s.heap.objs.size := fun {y c} e => by
    rw [hcl] at e
    exact cm (PySem.mem_of_lookup e)
  have look : ∀ {y}, scope.names.lookup y = some .free → ∃ c, cenv.cells.lookup y = some c ∧ X.env.cells.lookup y = some c := fun {y} hl => by
    have hy : (y, NameKind.free) ∈ scope.names := PySem.mem_of_lookup hl
    obtain ⟨c', e'⟩ := mem_lookup (cloFrom_has (cells := X.env.cells) (acc := []) hy)
    rw [← hcl] at e'
    exact ⟨c', e', (mem e').1⟩
  have okG : (Cx.gen X s H cenv fp x).Ok := by
    refine ⟨I.ok.mod, by show cenv.scope.kind = _; rw [hsc]; exact ok.kind, by show cenv.globals = _; rw [← hcenv]; exact I.ok.glob, by show cenv.builtins = _; rw [← hcenv]; rfl, by show s.heap.objs.size ≤ cenv.locals; rw [hL]; exact Nat.le_refl _,
      fun y z c e1 e2 => ?_, fun y hy => ?_, fun y c z e => ?_, I.ok.hd, ?_, .inr ⟨rfl, hfr⟩, fun b hb => ⟨?_, fun y c e z => ?_⟩, I.bs, Nat.le_trans I.ok.bsz I.sz, fun b o e hb => ?_, fun b hb z => ?_, I.stack, I.stkFree⟩
    · exact I.ok.inj y z c (mem e1).1 (mem e2).1
    · show ∃ c, cenv.cells.lookup y = some c
      have key : ∀ k, cenv.kindOf y = some k → (k = .cell ∨ k = .free) → ∃ c, cenv.cells.lookup y = some c := fun k hk hk' => by
        unfold Env.kindOf at hk
        rw [hsc] at hk
        rcases hk' with rfl | rfl
        · exact absurd rfl (S.cell _ (PySem.mem_of_lookup hk))
        · obtain ⟨c, h1, _⟩ := look hk
          exact ⟨c, h1⟩
      rcases hy with hy | hy
      · exact key _ hy (.inl rfl)
      · exact key _ hy (.inr rfl)
    · cases z
    · show (X.A.in1.in1.deeper cenv).frames = some (cenv :: X.stack)
      have := I.ok.frames
      show pushEnvs [cenv] X.A.frames = some (cenv :: X.stack)
      rw [this]; rfl
    · show b ≠ cenv.locals
      rw [hL]; exact Nat.ne_of_lt (hfp b hb).2
    · exact (hfp b hb).1.2.2.2.2.1 y c (mem e).1 z
    · rcases (hfp b hb).1.2.2.2.1 with z | z
      · exact I.ok.noex b o e z
      · exact absurd (Nat.lt_of_lt_of_le (Heap.lt_size e) (Nat.le_trans I.ok.bsz z)) (Nat.lt_irrefl _)
    · rcases List.mem_cons.mp (I.stkSub b z) with z | z
      · exact (hfp b hb).1.2.1 z
      · exact (hfp b hb).1.2.2.1 z
  refine ⟨okG, ho, hb, Un.kept kp, ⟨m, ?_, fun i y av e1 e2 e3 => ?_⟩, fun y c e => ?_, ?_, fun y c e => ?_, fun p hp => ?_, I.hok.kept kp, ?_⟩
  · show Heap.Ns _ cenv.locals _
    rw [hL]; exact hn
  · have hi : i < σ.length := by
      rcases Nat.lt_or_ge i σ.length with h | h
      · exact h
      · rw [List.getElem?_append_right h] at e2
        rcases Nat.eq_zero_or_pos (i - σ.length) with z | z
        · rw [z] at e2; cases e2
        · rw [List.getElem?_eq_none (by simp; omega)] at e2; cases e2
    have hN : i < X.N.length := by rw [← I.len]; exact hi
    rw [List.getElem?_append_left hi] at e2
    have e1 : (X.N ++ [x])[i]? = some y := e1
    have e1N := e1
    rw [List.getElem?_append_left hN] at e1N
    have hfreeY : scope.names.lookup y = some .free := by
      have key : ∀ k, scope.names.lookup y = some k → k = .local ∨ k = .cell ∨ k = .free → scope.names.lookup y = some .free := fun k hk hk' => by
        have no : ¬ (k = .local ∨ k = .cell) := fun hh => by
          rcases ok.own _ (PySem.mem_of_lookup hk) hh with e' | e'
          · have : y = x := by simpa using e'
            subst this
            have e3 : (X.N ++ [y])[X.N.length]? = some y := by simp
            have := nodup_ix S.nd e1 e3
            omega
          · exact e' (List.mem_of_getElem? e1)
        rcases hk' with rfl | rfl | rfl
        · exact absurd (.inl rfl) no
        · exact absurd (.inr rfl) no
        · exact hk
      have e3 : Vis cenv.scope y := e3
      rw [hsc] at e3
      rcases e3 with e3 | e3 | e3
      · exact key _ e3 (.inl rfl)
      · exact key _ e3 (.inr (.inl rfl))
      · exact key _ e3 (.inr (.inr rfl))
    obtain ⟨m', hn', hl⟩ := I.loc
    have hvis : Vis X.env.scope y := (ok.free _ (PySem.mem_of_lookup hfreeY) rfl).elim (fun k => .inr (.inl k)) (fun k => .inr (.inr k))
    obtain ⟨w, r, q⟩ := hl i y av e1N e2 hvis
    refine ⟨w, r, .inr ⟨.inr (by show cenv.scope.names.lookup y = _; rw [hsc]; exact hfreeY), ?_⟩⟩
    obtain ⟨c, h1, h2⟩ := look hfreeY
    rcases q with ⟨k, _⟩ | ⟨_, c', e', z⟩
    · have k : X.env.scope.names.lookup y = some .local := k
      rcases ok.free _ (PySem.mem_of_lookup hfreeY) rfl with k' | k' <;> rw [show X.env.scope.names.lookup y = _ from k'] at k <;> cases k
    · rw [h2] at e'; cases e'
      exact ⟨c, h1, z.keeps kp⟩
  · obtain ⟨w, z⟩ := I.cell y c (mem e).1
    exact ⟨w, z.keeps kp⟩
  · show H cenv.locals = none
    rw [hL]; exact I.hok.fresh (Nat.le_refl _)
  · exact I.freeC y c (mem e).1
  · exact absurd (show p ∈ ([] : List (Addr × Obj)) ++ [] from hp) (by simp)
  · show (σ ++ [none]).length = (X.N ++ [x]).length
    simp [I.len]
end

/-! ### the turns -/
def GR (XG : Cx) (pn : List (Addr × Obj)) (σ0 : L2.St) (QF : Hp → Prop) : Nat → Shared → Shared → Prop := fun _ _ s₁ => ∃ H, Inv XG pn σ0 H s₁ ∧ QF H
def GYp (XG : Cx) (pn : List (Addr × Obj)) (σ0 : L2.St) (stopv : Bool) (QS : Hp → Prop) (fp : List Addr) (tn : Nat → Heap → Prop) (W : Nat → Nat → Hp → Prop) : Protocol := fun k _ v s kap =>
  ∃ H b, v = .bool b ∧ Inv XG pn σ0 H s ∧ (if b = stopv then QS H else ∃ i m, m < k ∧ tn i s.heap ∧ (∀ c ∈ fp, H c = none) ∧ W i m H ∧ ∀ s'' : Shared, s''.heap = s.heap → s''.os = s.os → AllBare s''.gens → kap (.send .none) s'')
theorem set_last {α : Type} (l : List (Option α)) (v : α) : (l ++ [none]).set l.length (some v) = l ++ [some v] := by
  induction l with
  | nil => rfl
  | cons a r ih => show a :: ((r ++ [none]).set r.length (some v)) = a :: (r ++ [some v]); rw [ih]
section
variable {X : Cx} {s1 : Shared} {H1 : Hp} {cenv : Env} {fp : List Addr} {x : Str} {px : Pos} {J : It} {it : Addr} {tn : Nat → Heap → Prop} {pn : List (Addr × Obj)} {σ : L2.St} {stopv : Bool} {QS QF : Hp → Prop} {W : Nat → Nat → Hp → Prop} {elt iter : Expr} {te : TE} {scope : Scope} {pos : Pos}
theorem seg_turns (hc : X.calm = true) (T : Turn X.prog X.w X.K (.Name x px) J fp it tn) (hpn : ∀ p ∈ pn, ∀ b ∈ fp, p.1 ≠ b) (nd : (X.N ++ [x]).Nodup) (hx : cenv.scope.names.lookup x = some .local) (hco : cenv.scope.isCoroutine = false)
    (he : PE (Cx.gen X s1 H1 cenv fp x) elt te)
    (turn : ∀ i m H, W i m H → (J.stop i H ∧ QF H) ∨ (J.go i H ∧ ∃ Nx : Hp → Prop, (∀ H', Nx H' → ∃ m', m' < m ∧ W (i + 1) m' H') ∧ ∀ v H', J.yld i H v H' → te (σ ++ [some v]) H' fun y H2 => ∃ b, y = .bl b ∧ if b = stopv then QS H2 else Nx H2)) :
    ∀ (n m i : Nat) (s₀ s : Shared) (H : Hp), m < n → Inv (Cx.gen X s1 H1 cenv fp x) pn (σ ++ [none]) H s → tn i s.heap → (∀ b ∈ fp, H b = none) → W i m H →
      Seg (model X.prog X.w) X.A.in1.in1 (fun n s₀ r s₁ => r = .ok .next ∧ GR (Cx.gen X s1 H1 cenv fp x) pn (σ ++ [none]) QF n s₀ s₁) (GYp (Cx.gen X s1 H1 cenv fp x) pn (σ ++ [none]) stopv QS fp tn W) n s₀
        (.compLoop (.GeneratorExp elt [⟨.Name x px, iter, [], 0⟩] scope pos) 0 (.ref it) .none cenv) ((model X.prog X.w).den (.compLoop (.GeneratorExp elt [⟨.Name x px, iter, [], 0⟩] scope pos) 0 (.ref it) .none cenv)) [] s := by
  intro n
  induction n with
  | zero => intro m i s₀ s H hm; exact absurd hm (Nat.not_lt_zero _)
  | succ k ih =>
    intro m i s₀ s H hm I st fr w
    have ov : X.A.in1.in1.over (.compLoop (.GeneratorExp elt [⟨.Name x px, iter, [], 0⟩] scope pos) 0 (.ref it) .none cenv) [] = (Cx.gen X s1 H1 cenv fp x).A := over_loop
    have stat : ∀ {H' : Hp}, (∀ b ∈ fp, H' b = none) → ∀ b ∈ fp, FpOk (Cx.gen X s1 H1 cenv fp x) pn H' b := fun hn b hb =>
      ⟨hn b hb, (I.ok.exf b hb).1, I.ok.exfs b hb, .inl hb, fun x c e => (I.ok.exf b hb).2 x c e, fun p hp => by
        rcases List.mem_append.mp hp with z | z
        · cases z
        · exact hpn p z b hb⟩
    show Seg _ _ _ _ _ s₀ _ ((compTurn (.GeneratorExp elt [⟨.Name x px, iter, [], 0⟩] scope pos) 0 (.ref it) .none cenv).onRaise (leaving cenv)) [] s
    rw [compTurn_gen, Sem.onRaise_eq_wrap]
    refine seg_bind_wrap (wpAny_standAt ?_)
    refine seg_bind_wrap ?_
    rw [ov]
    rcases turn i m H w with ⟨stop, qf⟩ | ⟨go, Nx, hNx, step⟩
    · refine thnF (T.done (Cx.gen X s1 H1 cenv fp x) rfl rfl rfl hc i pn s _ H (fun _ _ => False) I (stat fr) st stop) fun r s2 ⟨hr, I2⟩ => ?_
      subst hr
      exact seg_end (.ok .next) ⟨rfl, H, I2, qf⟩
    · refine thnF (T.item (Cx.gen X s1 H1 cenv fp x) rfl rfl rfl hc i pn s _ H (fun _ _ => False) I (stat fr) st go) fun r s2 ⟨u, hr, h2⟩ => ?_
      subst hr
      refine seg_bind_wrap ?_
      rw [ov]
      refine thnF h2 fun _ s3 ⟨v, H3, I3, r3, y3, st3, fr3⟩ => ?_
      have I3' := I3.pinned (stat fr3) (T.obj _ _ st3)
      have hl : σ.length = X.N.length := by
        have := I.len
        simp at this
        exact this
      have pg : PG (Cx.gen X s1 H1 cenv fp x) (.Name x px) (gName X.N.length) := pg_name nd (by show (X.N ++ [x])[X.N.length]? = some x; simp) (.inl hx) (.inr hx)
      refine seg_bind_wrap ?_
      rw [ov]
      refine thnF (pg.run _ s3 _ H3 v u (fun σ' H' => σ' = σ ++ [some v] ∧ H' = H3) I3' r3 ⟨by rw [← hl]; exact set_last σ v, rfl⟩) fun _ s4 ⟨σ4, H4, I4, e4, e4'⟩ => ?_
      subst e4 e4'
      simp only [List.forIn_nil]
      refine seg_bind_wrap (wpAny_pure ?_)
      simp only [if_true]
      have hy : ∀ v, yieldOut cenv v = yieldValue v := fun v => by simp only [yieldOut, hco, Bool.false_eq_true, if_false]
      simp only [hy]
      rw [Sem.bind_eq_wrap', Sem.bind_eq_wrap', Sem.wrap_wrap, Sem.wrap_wrap]
      refine seg_wrap ?_
      rw [ov]
      refine thnF (he.run _ s4 _ H4 _ I4 (step v H4 y3)) fun z s5 ⟨yv, H5, I5, r5, b, eb, q5⟩ => ?_
      subst eb
      obtain rfl : z = Value.bool b := r5
      have pin' : ∀ c ∈ fp, ∀ o, s3.heap.get? c = some o → s5.heap.get? c = some o ∧ H5 c = none := fun c hc o e =>
        let z := I5.pin (c, o) (List.mem_append_right _ (List.mem_append_right _ (mem_pinsAt hc e)))
        ⟨z.1, z.2.1⟩
      have st5 : tn (i + 1) s5.heap := T.keep _ _ _ st3 fun c hc o e => (pin' c hc o e).1
      have fr5 : ∀ c ∈ fp, H5 c = none := fun c hc => by
        obtain ⟨o, e, _⟩ := T.obj _ _ st3 c hc
        exact (pin' c hc o e).2
      have I5' : Inv (Cx.gen X s1 H1 cenv fp x) pn (σ ++ [none]) H5 s5 := (I5.unpinned (pins := pn)).weak (by simp) fun j w e => by
        rcases Nat.lt_or_ge j σ.length with h | h
        · rw [List.getElem?_append_left h] at e ⊢; exact e
        · rw [List.getElem?_append_right h] at e
          rcases Nat.eq_zero_or_pos (j - σ.length) with z | z
          · rw [z] at e; cases e
          · rw [List.getElem?_eq_none (by simp; omega)] at e; cases e
      refine seg_at (seg_yield rfl rfl rfl ⟨H5, b, rfl, I5', ?_⟩)
      by_cases hb : b = stopv
      · rw [if_pos hb] at q5 ⊢
        exact q5
      · rw [if_neg hb] at q5 ⊢
        obtain ⟨m', hm', w'⟩ := hNx H5 q5
        refine ⟨i + 1, m', by omega, st5, fr5, w', fun s'' e1 e2 e3 => ?_⟩
        refine seg_again rfl (ih m' (i + 1) s'' s'' H5 (by omega) (Inv.regen I5' e1 e2 e3) ?_ fr5 w')
        rw [e1]; exact st5
theorem seg_first (hc : X.calm = true) (T : Turn X.prog X.w X.K (.Name x px) J fp it tn) (hpn : ∀ p ∈ pn, ∀ b ∈ fp, p.1 ≠ b) (nd : (X.N ++ [x]).Nodup) (hx : cenv.scope.names.lookup x = some .local) (hco : cenv.scope.isCoroutine = false)
    (he : PE (Cx.gen X s1 H1 cenv fp x) elt te)
    (turn : ∀ i m H, W i m H → (J.stop i H ∧ QF H) ∨ (J.go i H ∧ ∃ Nx : Hp → Prop, (∀ H', Nx H' → ∃ m', m' < m ∧ W (i + 1) m' H') ∧ ∀ v H', J.yld i H v H' → te (σ ++ [some v]) H' fun y H2 => ∃ b, y = .bl b ∧ if b = stopv then QS H2 else Nx H2))
    (n m : Nat) (s₀ s : Shared) (H : Hp) (hm : m < n) (I : Inv (Cx.gen X s1 H1 cenv fp x) pn (σ ++ [none]) H s) (st : tn 0 s.heap) (fr : ∀ b ∈ fp, H b = none) (w : W 0 m H) :
      Seg (model X.prog X.w) X.A.in1.in1 (fun n s₀ r s₁ => r = .ok .next ∧ GR (Cx.gen X s1 H1 cenv fp x) pn (σ ++ [none]) QF n s₀ s₁) (GYp (Cx.gen X s1 H1 cenv fp x) pn (σ ++ [none]) stopv QS fp tn W) n s₀
        (.compStart (.GeneratorExp elt [⟨.Name x px, iter, [], 0⟩] scope pos) 0 (.ref it) .none cenv) ((model X.prog X.w).den (.compStart (.GeneratorExp elt [⟨.Name x px, iter, [], 0⟩] scope pos) 0 (.ref it) .none cenv)) [] s := by
  have ov : X.A.in1.in1.over (.compStart (.GeneratorExp elt [⟨.Name x px, iter, [], 0⟩] scope pos) 0 (.ref it) .none cenv) [] = (Cx.gen X s1 H1 cenv fp x).A := over_start
  have loop := seg_turns (iter := iter) (px := px) (scope := scope) (pos := pos) hc T hpn nd hx hco he turn n m 0 s₀ s H hm I st fr w
  show Seg _ _ _ _ _ s₀ _ ((compStart (.GeneratorExp elt [⟨.Name x px, iter, [], 0⟩] scope pos) 0 (.ref it) .none cenv).onRaise (leaving cenv)) [] s
  unfold compStart
  rw [Sem.onRaise_eq_wrap]
  show Seg _ _ _ _ _ s₀ _ ((ask >>= _).wrap _ _ _ _) [] s
  refine seg_bind_wrap (wpAny_askSetting ?_)
  split
  · exact seg_again rfl loop
  · first
      | exact seg_bind_wrap (wpAny_rule (seg_bind_wrap (wpAny_standAt (seg_bind_wrap (T.self _ 0 s _ _ st (seg_again rfl loop))))))
      | (refine seg_bind_wrap (wpAny_rule ?_); show Seg _ _ _ _ _ s₀ _ ((standAt iter.pos >>= _).wrap _ _ _ _) [] s; exact seg_bind_wrap (wpAny_standAt (seg_bind_wrap (T.self _ 0 s _ _ st (seg_again rfl loop)))))
end
end GE
set_option Elab.async false
set_option linter.all false
set_option maxRecDepth 100000
set_option maxHeartbeats 4000000
namespace GE
open PySem PySem.Spec PyProof.Rows L2 GxR
theorem AllBare.setGen {s : Shared} {g : Nat} {x : GenState} (h : AllBare s.gens) (hx : x.bare = true) : AllBare (s.setGen g x).gens := by
  intro y hy
  have hy' : y ∈ s.gens.setIfInBounds g x := hy
  obtain ⟨i, hi, e⟩ := Array.mem_iff_getElem.mp hy'
  have hi' : i < s.gens.size := by simpa using hi
  rw [Array.getElem_setIfInBounds] at e
  split at e
  · rw [← e]; exact hx
  · rw [← e]; exact h _ (Array.getElem_mem hi')
  · exact hi'
section
variable {X : Cx} {s1 : Shared} {H1 : Hp} {cenv : Env} {fp : List Addr} {x : Str} {px : Pos} {J : It} {it a g : Nat} {tn : Nat → Heap → Prop} {pn : List (Addr × Obj)} {σ : L2.St} {stopv : Bool} {QS QF : Hp → Prop} {W : Nat → Nat → Hp → Prop} {elt iter : Expr} {te : TE} {scope : Scope} {pos : Pos} {R : Result → Shared → Prop}
/-- between two turns -/
def JG (X : Cx) (XG : Cx) (pn : List (Addr × Obj)) (σ0 : L2.St) (stopv : Bool) (QS QF : Hp → Prop) (fp : List Addr) (tn : Nat → Heap → Prop) (W : Nat → Nat → Hp → Prop) (a g n : Nat) (s : Shared) : Prop :=
  (∃ H, Inv XG pn σ0 H s) ∧ s.heap.IsGen a g ∧ ∃ gs, s.gens[g]? = some gs ∧ ∀ s'' : Shared, s''.heap = s.heap → s''.os = s.os → AllBare s''.gens →
    gs.Goes (model X.prog X.w) X.A.in1.in1 (fun n s₀ r s₁ => r = .ok .next ∧ GR XG pn σ0 QF n s₀ s₁) (GYp XG pn σ0 stopv QS fp tn W) n (.send .none) s''
/-- what pyNext leads to -/
def NX (X : Cx) (XG : Cx) (pn : List (Addr × Obj)) (σ0 : L2.St) (stopv : Bool) (QS QF : Hp → Prop) (fp : List Addr) (tn : Nat → Heap → Prop) (W : Nat → Nat → Hp → Prop) (a g n : Nat) (r : Option Value) (s : Shared) : Prop :=
  match r with
  | none => ∃ H, Inv XG pn σ0 H s ∧ QF H
  | some v => ∃ b, v = .bool b ∧ if b = stopv then ∃ H, Inv XG pn σ0 H s ∧ QS H else ∃ n', n' < n ∧ JG X XG pn σ0 stopv QS QF fp tn W a g n' s
theorem next_gen {XG : Cx} {σ0 : L2.St} {n : Nat} {s : Shared} {go : Obj} (hh : X.A.handled = none) (hroom : X.A.depth < recursionLimit) (hgo : (a, go) ∈ pn) (hG : ∀ h : Heap, h.get? a = some go → h.IsGen a g) (h : JG X XG pn σ0 stopv QS QF fp tn W a g n s) {E : Value → Shared → Prop} :
    wpAny (model X.prog X.w) X.A.in1 (pyNext (.ref a)) (NX X XG pn σ0 stopv QS QF fp tn W a g n) E s := by
  obtain ⟨⟨H, I⟩, hg, gs, hgs, goes⟩ := h
  have hsz : g + 1 ≤ s.gens.size := by
    rcases Nat.lt_or_ge g s.gens.size with h' | h'
    · exact h'
    · rw [Array.getElem?_eq_none h'] at hgs; cases hgs
  refine GenW.wpAny_gsz hsz ?_
  refine wpAny_pyNext_genexpQ (A := X.A.in1) (P := GR XG pn σ0 QF) hh I.nolimit hroom hg hgs (goes _ rfl rfl (AllBare.setGen I.bare rfl)) (fun v s₁ gs' hb hv => ?_) (fun s₁ hp h' hk => ?_)
  · obtain ⟨H', b, rfl, I', q⟩ := hv
    intro hsz'
    have I2 : Inv XG pn σ0 H' (s₁.setGen g gs') := Inv.regen I' rfl rfl (AllBare.setGen I'.bare hb)
    refine ⟨b, rfl, ?_⟩
    by_cases hbs : b = stopv
    · rw [if_pos hbs] at q ⊢
      exact ⟨H', I2, q⟩
    · rw [if_neg hbs] at q ⊢
      obtain ⟨i, m, hm, st, fr, w, kap⟩ := q
      cases n with
      | zero => exact absurd hm (Nat.not_lt_zero _)
      | succ k =>
        refine ⟨k, Nat.lt_succ_self _, ⟨H', I2⟩, hG _ (I2.pin (a, go) (List.mem_append_right _ hgo)).1, gs', ?_, fun s'' e1 e2 e3 => ?_⟩
        · have h9 : g < (s₁.gens.setIfInBounds g gs').size := hsz'
          have h8 : g < s₁.gens.size := by simpa using h9
          show (s₁.gens.setIfInBounds g gs')[g]? = some gs'
          rw [Array.getElem?_setIfInBounds_self_of_lt h8]
        · exact kap s'' e1 e2 e3
  · intro _
    obtain ⟨H', I', q⟩ := hp
    have I2 : Inv XG pn σ0 H' (s₁.setGen g .finished) := Inv.regen I' rfl rfl (AllBare.setGen I'.bare rfl)
    exact ⟨H', I2.kept (t' := (s₁.setGen g .finished).toks) hk, q⟩
theorem any_turns {XG : Cx} {σ0 : L2.St} {go : Obj} (hh : X.A.handled = none) (hroom : X.A.depth < recursionLimit) (hgo : (a, go) ∈ pn) (hG : ∀ h : Heap, h.get? a = some go → h.IsGen a g)
    (hS : ∀ H s, Inv XG pn σ0 H s → QS H → R (.ok (.ret (.bool true))) s) (hF : ∀ H s, Inv XG pn σ0 H s → QF H → R (.ok (.ret (.bool false))) s) :
    ∀ (n : Nat) (s : Shared), JG X XG pn σ0 true QS QF fp tn W a g n s → codeAny (model X.prog X.w) X.A (.builtin "any.loop" ⟨[.ref a], []⟩) R s := by
  intro n
  induction n using Nat.strongRecOn with
  | ind n ih =>
    intro s h
    refine codeAny_builtin PySem.F.entry_any_loop ?_
    rw [Around.under_plainId PySem.F.plain_any_loop _]
    show wpAny _ X.A.in1 (pyNext (.ref a) >>= _) _ _ s
    refine wpAny_bind (wpAny_mono (next_gen hh hroom hgo hG h (E := fun _ _ => False)) (fun r s' hr => ?_) fun _ _ z => False.elim z)
    cases r with
    | none =>
      obtain ⟨H', I', q⟩ := hr
      exact wpAny_bind (wpAny_rule (wpAny_pure (hF H' s' I' q)))
    | some v =>
      obtain ⟨b, rfl, q⟩ := hr
      refine wpAny_bind (wpAny_holding (wpAny_truthy_bool ?_))
      refine wpAny_bind (wpAny_letGo ?_)
      cases b with
      | true =>
        simp only [if_true] at q ⊢
        obtain ⟨H', I', q⟩ := q
        exact wpAny_bind (wpAny_rule (wpAny_pure (hS H' s' I' q)))
      | false =>
        simp only [Bool.false_eq_true, if_false] at q ⊢
        obtain ⟨n', hn, j⟩ := q
        exact wpAny_pure ⟨plainId_quiet PySem.F.plain_any_loop _, ih n' hn s' j⟩
theorem all_turns {XG : Cx} {σ0 : L2.St} {go : Obj} (hh : X.A.handled = none) (hroom : X.A.depth < recursionLimit) (hgo : (a, go) ∈ pn) (hG : ∀ h : Heap, h.get? a = some go → h.IsGen a g)
    (hS : ∀ H s, Inv XG pn σ0 H s → QS H → R (.ok (.ret (.bool false))) s) (hF : ∀ H s, Inv XG pn σ0 H s → QF H → R (.ok (.ret (.bool true))) s) :
    ∀ (n : Nat) (s : Shared), JG X XG pn σ0 false QS QF fp tn W a g n s → codeAny (model X.prog X.w) X.A (.builtin "all.loop" ⟨[.ref a], []⟩) R s := by
  intro n
  induction n using Nat.strongRecOn with
  | ind n ih =>
    intro s h
    refine codeAny_builtin PySem.F.entry_all_loop ?_
    rw [Around.under_plainId PySem.F.plain_all_loop _]
    show wpAny _ X.A.in1 (pyNext (.ref a) >>= _) _ _ s
    refine wpAny_bind (wpAny_mono (next_gen hh hroom hgo hG h (E := fun _ _ => False)) (fun r s' hr => ?_) fun _ _ z => False.elim z)
    cases r with
    | none =>
      obtain ⟨H', I', q⟩ := hr
      exact wpAny_bind (wpAny_rule (wpAny_pure (hF H' s' I' q)))
    | some v =>
      obtain ⟨b, rfl, q⟩ := hr
      refine wpAny_bind (wpAny_holding (wpAny_truthy_bool ?_))
      refine wpAny_bind (wpAny_letGo ?_)
      cases b with
      | false =>
        simp only [if_true] at q
        simp only [Bool.false_eq_true, if_false]
        obtain ⟨H', I', q⟩ := q
        exact wpAny_bind (wpAny_rule (wpAny_pure (hS H' s' I' q)))
      | true =>
        simp only [Bool.true_eq_false, if_false] at q
        simp only [if_true]
        obtain ⟨n', hn, j⟩ := q
        exact wpAny_pure ⟨plainId_quiet PySem.F.plain_all_loop _, ih n' hn s' j⟩
end
section
variable {X : Cx} {pins : List (Addr × Obj)} {σ : L2.St} {H : Hp} {s : Shared}
/-- any(..), all(..): stopv the truth at which it ends -/
def tQuant (stopv : Bool) (P : Addr) (wi : TI) (te : TE) : TE := fun σ H Q => wi σ H fun J H1 => TabG H1 P ∧ ∀ H2, Tabbed P H1 H2 → ∃ W : Nat → Nat → Hp → Prop, (∃ m, W 0 m H2) ∧ ∀ i m H, W i m H →
  (J.stop i H ∧ Q (.bl (!stopv)) H) ∨ (J.go i H ∧ ∃ Nx : Hp → Prop, (∀ H', Nx H' → ∃ m', m' < m ∧ W (i + 1) m' H') ∧ ∀ v H', J.yld i H v H' → te (σ ++ [some v]) H' fun y H3 => ∃ b, y = .bl b ∧ if b = stopv then Q (.bl stopv) H3 else Nx H3)
theorem gen_made {c P : Addr} {elt iter : Expr} {x : Str} {px gpos : Pos} {scope : Scope} {wi : TI} {te : TE} {k : Nat} {stopv : Bool} {Q : VK} {Q' : Value → Shared → Prop}
    (hc : X.calm = true) (hr : Room k X.A) (TB : TabB X.base X.mg c P) (hcode : X.env.code = .ref c) (S : GSc X.N X.env.scope scope x) (hi : PI X (.Name x px) iter wi)
    (he : ∀ (s : Shared) (H : Hp) (C : Addr) (code : Value) (fp : List Addr), PE (Cx.gen X s H (gEnv X scope C code) fp x) elt te)
    (hs : ∀ v, genFold iter X.env v = pure v) (I : Inv X pins σ H s) (h : tQuant stopv P wi te σ H Q)
    (hQ : ∀ (a g : Nat) (s5 : Shared) (XG : Cx) (pn : List (Addr × Obj)) (σ0 : L2.St) (fp : List Addr) (tn : Nat → Heap → Prop) (W : Nat → Nat → Hp → Prop) (go : Obj) (n : Nat), (a, go) ∈ pn → (∀ h : Heap, h.get? a = some go → h.IsGen a g) → s5.heap.IsGen a g →
      JG X XG pn σ0 stopv (fun H => Q (.bl stopv) H) (fun H => Q (.bl (!stopv)) H) fp tn W a g n s5 →
      (∀ H s, Inv XG pn σ0 H s → Inv X pins σ H s) → Q' (.ref a) s5) :
    wpAny (model X.prog X.w) X.A (eval (.GeneratorExp elt [⟨.Name x px, iter, [], 0⟩] scope gpos) X.env) Q' X.xe s := by
  have hfree : ∀ y ∈ scope.names, y.2 = .free → ∃ c, X.env.cells.lookup y.1 = some c := fun y hy e => by
    rcases S.blk.free y hy e with k | k
    · exact I.ok.has _ (.inl k)
    · exact I.ok.has _ (.inr k)
  refine wpAny_GeneratorExp_make S.co (closure_ok hfree) S.cell S.dot S.blk.kind (by have := hr.dp; omega) ?_ hs
  refine thn (hi.run pins s σ H _ I h) fun xv s1 hx => thn hx fun itv s2 h2 => ?_
  obtain ⟨it, fp, tn, J, H2, rfl, I2, T, st2, f2, ⟨ps, hP, ht⟩, q⟩ := h2
  refine ⟨I2.nolimit, ?_⟩
  have hPs : s2.heap.get? P = some { cls := .none, data := .fields ps } := I2.hok P _ hP
  have cd : PySem.W.CodeHd s2.heap c P := TB.code.keeps fun b u e => I2.bk b u e
  have nfP : ∀ b ∈ fp, b ≠ P := fun b hb z => by
    have := (f2 b hb).1
    rw [z, hP] at this; cases this
  have cont : ∀ (code : Value) (s3 : Shared) (H3 : Hp), Tabbed P H2 H3 → Inv X pins σ H3 s3 → (∀ b o, b ≠ P → s2.heap.get? b = some o → s3.heap.get? b = some o) →
      wpAny (model X.prog X.w) X.A (builtinsFor X.env.globals X.env.builtins) (fun bi s₄ =>
        ∀ h', h'.Ns s₄.heap.objs.size (fun y => if y = ".0" then some (.ref it) else none) → Heap.SameBut s₄.heap.objs.size (s₄.heap.push { cls := .type "frame", data := .dict #[] }) h' →
          Q' (.ref h'.objs.size) { s₄ with
            gens := s₄.gens.push (.fresh (.compStart (.GeneratorExp elt [⟨.Name x px, iter, [], 0⟩] scope gpos) 0 (.ref it) .none (genEnv scope (cloFrom X.env.cells scope.names []) s₄.heap.objs.size code bi X.env))),
            toks := s₄.toks + 1 + 1 + 1,
            heap := h'.push { cls := .type "generator", data := .fields #[.int s₄.gens.size 0, .str "<genexpr>" (s₄.toks + 1), .str (X.env.qual ++ "<genexpr>") (s₄.toks + 1 + 1)] } }) X.xe s3 := by
    intro code s3 H3 tb I3 keep3
    obtain ⟨bm, ob, e1, e2, e3, e4, e5, e6, e7, e8⟩ := TB.bm
    refine wpAny_builtinsFor (m := X.mg) (by rw [I3.ok.glob]; exact I3.mod.glob.keeps I3.bk) e1 e2 (I3.bk _ _ e5) e6 e7 e8 ?_
    intro h' hn' hs'
    obtain ⟨W, ⟨m0, w0⟩, turn⟩ := q H3 tb
    have hsz : h'.objs.size = s3.heap.objs.size + 1 := by rw [hs'.1, Heap.size_push]
    have keep' : ∀ b o, s3.heap.get? b = some o → h'.get? b = some o := fun b o e => hs'.extBut b o (Nat.ne_of_lt (Heap.lt_size e)) (Heap.get?_push_of_some _ e)
    generalize hgo : ({ cls := .type "generator", data := .fields #[.int s3.gens.size 0, .str "<genexpr>" (s3.toks + 1), .str (X.env.qual ++ "<genexpr>") (s3.toks + 1 + 1)] } : Obj) = go
    have hG : ∀ h : Heap, h.get? h'.objs.size = some go → h.IsGen h'.objs.size s3.gens.size := fun h e => ⟨go, _, _, e, by rw [← hgo], by rw [← hgo], by rw [← hgo]⟩
    have keep5 : ∀ b o, s3.heap.get? b = some o → (h'.push go).get? b = some o := fun b o e => Heap.get?_push_of_some _ (keep' b o e)
    have gob : (h'.push go).get? h'.objs.size = some go := Heap.get?_push_size _ (by rw [← hgo]; rfl)
    have f3 : ∀ b ∈ fp, FpOk X pins H3 b ∧ b < s3.heap.objs.size := fun b hb => by
      obtain ⟨o, e, _⟩ := T.obj _ _ st2 b hb
      exact ⟨⟨by rw [tb.2 b (nfP b hb)]; exact (f2 b hb).1, (f2 b hb).2⟩, Heap.lt_size (keep3 b o (nfP b hb) e)⟩
    generalize hs5 : ({ s3 with
            gens := s3.gens.push (.fresh (.compStart (.GeneratorExp elt [⟨.Name x px, iter, [], 0⟩] scope gpos) 0 (.ref it) .none (genEnv scope (cloFrom X.env.cells scope.names []) s3.heap.objs.size code builtinsNs X.env))),
            toks := s3.toks + 1 + 1 + 1,
            heap := h'.push go } : Shared) = s5
    have eh : s5.heap = h'.push go := by rw [← hs5]
    have eo : s5.os = s3.os := by rw [← hs5]
    have eb : AllBare s5.gens := by rw [← hs5]; exact I3.bare.push rfl
    have I5 := gen_start (s' := s5) (code := code) I3 S f3 (by rw [eh]; exact hn'.push _) (fun b o e => by rw [eh]; exact keep5 b o e) eo eb
    have aL : h'.objs.size ≠ s3.heap.objs.size := by omega
    have aF : h'.objs.size ∉ frs X.stack := fun hm => by
      obtain ⟨_, o, ho, _⟩ := I3.stack.mem hm
      have h9 : h'.objs.size < s3.heap.objs.size := Heap.lt_size ho
      omega
    have aH : H3 h'.objs.size = none := I3.hok.fresh (by omega)
    have I6 : Inv (Cx.gen X s3 H3 (gEnv X scope s3.heap.objs.size code) fp x) [(h'.objs.size, go)] (σ ++ [none]) H3 s5 := I5.pins_of fun p hp => by
      rw [List.mem_singleton.mp hp]
      exact ⟨by rw [eh]; exact gob, aH, aL, aF, fun v z => by rw [← hgo] at z; cases z⟩
    have st5 : tn 0 s5.heap := T.keep _ _ _ st2 fun b hb o e => by rw [eh]; exact keep5 b o (keep3 b o (nfP b hb) e)
    refine hQ h'.objs.size s3.gens.size s5 _ [(h'.objs.size, go)] (σ ++ [none]) fp tn W go (m0 + 1) (List.mem_singleton.mpr rfl) hG (hG _ (by rw [eh]; exact gob)) ⟨⟨H3, I6⟩, hG _ (by rw [eh]; exact gob),
      .fresh (.compStart (.GeneratorExp elt [⟨.Name x px, iter, [], 0⟩] scope gpos) 0 (.ref it) .none (gEnv X scope s3.heap.objs.size code)), ?_, fun s'' e1 e2 e3 => ⟨rfl, ?_⟩⟩ fun H' s' I' => ?_
    · rw [← hs5]; exact Array.getElem?_push_size ..
    · refine seg_first (cenv := gEnv X scope s3.heap.objs.size code) hc T ?_ S.nd S.loc S.co (he s3 H3 _ code fp) turn (m0 + 1) m0 s'' s'' H3 (Nat.lt_succ_self _) (Inv.regen I6 e1 e2 e3) (by rw [e1]; exact st5) (fun b hb => (f3 b hb).1.1) w0
      intro p hp b hb z
      rw [List.mem_singleton.mp hp] at z
      have h9 : b < s3.heap.objs.size := (f3 b hb).2
      have h8 : h'.objs.size < s3.heap.objs.size := Eq.mp (congrArg (fun (n : Nat) => n < s3.heap.objs.size) (show b = h'.objs.size from z.symm)) h9
      omega
    · exact I3.call' (ch := fp) I'.os I'.base I'.hok I'.bare fun b hb => ⟨(f3 b hb).1.2.2.2.1, (f3 b hb).1.2.1, (f3 b hb).1.2.2.2.2.1, (f3 b hb).1.2.2.2.2.2⟩
  cases hf : codeAmong gpos ps.toList with
  | none =>
    refine wpAny_genexprCodeX hcode (cd.code hPs ht) (cd.tab hPs) hf fun c' h' tk hx hge hlt hco' _ htab' _ => ?_
    obtain ⟨o1, vs, f1, tf, fl, tg, inF, tx, tt, op, _, _, _, _, _, _, _, _, _, htr, _⟩ := hco'
    have J3 := inv_tab (more := #[rawInt gpos.line, rawInt gpos.col, .ref c']) (h' := h') (g' := s2.gens) (d' := s2.drawn) (t' := tk) I2 hP (fun b o hb e => hx b o hb e) htab'.2 I2.bare
    exact cont _ _ _ ⟨⟨_, upd_same, htr⟩, fun b hb => upd_ne hb⟩ J3 fun b o hb e => hx b o hb e
  | some cv =>
    refine wpAny_genexprCode_hit hcode (cd.code hPs ht) hf ?_
    exact cont cv s2 H2 ⟨⟨ps, hP, ht⟩, fun b _ => rfl⟩ I2 fun b o _ e => e

theorem pe_anyE {c P : Addr} {elt iter : Expr} {x : Str} {px p pos gpos : Pos} {scope : Scope} {wi : TI} {te : TE} {k : Nat}
    (hc : X.calm = true) (hr : Room k X.A) (hg : Gl X "any") (hm : X.mg "any" = none) (TB : TabB X.base X.mg c P) (hcode : X.env.code = .ref c) (S : GSc X.N X.env.scope scope x) (hi : PI X (.Name x px) iter wi)
    (he : ∀ (s : Shared) (H : Hp) (C : Addr) (code : Value) (fp : List Addr), PE (Cx.gen X s H (gEnv X scope C code) fp x) elt te)
    (hs : ∀ v, genFold iter X.env v = pure v)
    (hst : starEach [.GeneratorExp elt [⟨.Name x px, iter, [], 0⟩] scope gpos] X.env = (false, eval (.GeneratorExp elt [⟨.Name x px, iter, [], 0⟩] scope gpos) X.env) :: starEach [] X.env := by rfl) :
    PE X (.Call (.Name "any" p) [.GeneratorExp elt [⟨.Name x px, iter, [], 0⟩] scope gpos] [] pos) (tQuant true P wi te) := by
  refine ⟨fun pins s σ H Q I h => ?_⟩
  refine wpAny_Call_Name_kw (ld_blt I hg hm boot_any ?_)
  refine PyProof.Rows.callWith_builtin1 ?_ hst (by rfl)
  rw [hst]
  show wpAny _ _ (spliced ((false, eval (.GeneratorExp elt [⟨.Name x px, iter, [], 0⟩] scope gpos) X.env) :: backTo pos (starEach [] X.env))) _ _ s
  refine Calls.spliced_cons (gen_made hc hr TB hcode S hi he hs I h fun a g s5 XG pn σ0 fp tn W go n hgo hG hg5 j back => ?_)
  refine Calls.spliced_nil ?_
  refine call_function_tree PySem.F.kind_any PySem.F.plain_any PySem.F.entry_any (PySem.F.args_any1 _) ?_
  unfold Builtin.«any»
  refine wpAny_bind (m := oneArg "any" _) (wpAny_pure ?_)
  refine wpAny_bind (wpAny_pyIter_gen hg5 ?_)
  exact wpAny_pure ⟨plainId_quiet PySem.F.plain_any_loop _, any_turns (I.ok.hd hc) hr.depth hgo hG (fun H' s' I' q => ⟨.bl true, H', back H' s' I', rfl, q⟩) (fun H' s' I' q => ⟨.bl false, H', back H' s' I', rfl, q⟩) n s5 j⟩
theorem pe_allE {c P : Addr} {elt iter : Expr} {x : Str} {px p pos gpos : Pos} {scope : Scope} {wi : TI} {te : TE} {k : Nat}
    (hc : X.calm = true) (hr : Room k X.A) (hg : Gl X "all") (hm : X.mg "all" = none) (TB : TabB X.base X.mg c P) (hcode : X.env.code = .ref c) (S : GSc X.N X.env.scope scope x) (hi : PI X (.Name x px) iter wi)
    (he : ∀ (s : Shared) (H : Hp) (C : Addr) (code : Value) (fp : List Addr), PE (Cx.gen X s H (gEnv X scope C code) fp x) elt te)
    (hs : ∀ v, genFold iter X.env v = pure v)
    (hst : starEach [.GeneratorExp elt [⟨.Name x px, iter, [], 0⟩] scope gpos] X.env = (false, eval (.GeneratorExp elt [⟨.Name x px, iter, [], 0⟩] scope gpos) X.env) :: starEach [] X.env := by rfl) :
    PE X (.Call (.Name "all" p) [.GeneratorExp elt [⟨.Name x px, iter, [], 0⟩] scope gpos] [] pos) (tQuant false P wi te) := by
  refine ⟨fun pins s σ H Q I h => ?_⟩
  refine wpAny_Call_Name_kw (ld_blt I hg hm boot_all ?_)
  refine PyProof.Rows.callWith_builtin1 ?_ hst (by rfl)
  rw [hst]
  show wpAny _ _ (spliced ((false, eval (.GeneratorExp elt [⟨.Name x px, iter, [], 0⟩] scope gpos) X.env) :: backTo pos (starEach [] X.env))) _ _ s
  refine Calls.spliced_cons (gen_made hc hr TB hcode S hi he hs I h fun a g s5 XG pn σ0 fp tn W go n hgo hG hg5 j back => ?_)
  refine Calls.spliced_nil ?_
  refine call_function_tree PySem.F.kind_all PySem.F.plain_all PySem.F.entry_all (PySem.F.args_all1 _) ?_
  unfold Builtin.«all»
  refine wpAny_bind (m := oneArg "all" _) (wpAny_pure ?_)
  refine wpAny_bind (wpAny_pyIter_gen hg5 ?_)
  exact wpAny_pure ⟨plainId_quiet PySem.F.plain_all_loop _, all_turns (I.ok.hd hc) hr.depth hgo hG (fun H' s' I' q => ⟨.bl false, H', back H' s' I', rfl, q⟩) (fun H' s' I' q => ⟨.bl true, H', back H' s' I', rfl, q⟩) n s5 j⟩
end
end GE
set_option Elab.async false
set_option linter.all false
set_option maxRecDepth 100000
set_option maxHeartbeats 4000000
/-! rules that the layer lacks -/
namespace GE
open PySem PySem.Spec PyProof.Rows L2
/-- the signs of a text, each with its place, in a new pair -/
def Ites (x : Str) : It :=
  ⟨fun i _ => i < x.cps.size, fun i H v H' => ∃ T c, v = .ref T ∧ H T = none ∧ H' = upd H T (.tup [.int (i : Nat), .str ⟨#[c]⟩]) ∧ x.cps[i]? = some c, fun i _ => i = x.cps.size⟩
theorem draws_sign {prog : Program} {w : World} {A : Around} (hh : A.handled = none) (it : Addr) (x : Str) (t : Tok) : Draws prog w A it [it] x.cps.size (SignAt x) (fun i h => h.IsStrIter it (strIterType x) x t i) := by
  by_cases ha : strIterType x = "str_ascii_iterator"
  · rw [ha]; exact Draws.strAscii hh it x t
  · have : strIterType x = "str_iterator" := by
      unfold strIterType at ha ⊢
      split
      · rename_i h; rw [if_pos h] at ha; exact absurd rfl ha
      · rfl
    rw [this]; exact Draws.strWide hh it x t
theorem turn_enumS {P : Program} {w : World} {K : PySem.W.Frag} {elts : List Expr} {kk : Nat} {tpos : Pos} (x : Str) (t : Tok) (e it : Addr) (hne : e ≠ it) :
    Turn P w K (.Tuple elts kk tpos) (Ites x) [e, it] e (fun i h => (∃ old, IsEnum h e it ((i : Nat) : Int) old) ∧ h.IsStrIter it (strIterType x) x t i) where
  mem := by simp
  obj := fun i h st b hb => by
    obtain ⟨⟨old, he⟩, ⟨o, ho, hc, hd⟩⟩ := st
    have e' : b = e ∨ b = it := by simpa using hb
    rcases e' with z | z
    · rw [z]; exact ⟨_, he, fun v q => nomatch q⟩
    · rw [z]; exact ⟨o, ho, fun v q => by rw [hd] at q; cases q⟩
  keep := fun i h h' st k => by
    obtain ⟨⟨old, he⟩, ⟨o, ho, r⟩⟩ := st
    exact ⟨⟨old, k e (by simp) _ he⟩, o, k it (by simp) o ho, r⟩
  item := by
    intro X hP hw hK hc i pins s σ H E I hf st hg
    subst hP hw hK
    obtain ⟨⟨old, he⟩, hit⟩ := st
    have hel : e < s.heap.objs.size := Heap.lt_size he
    have hil : it < s.heap.objs.size := by obtain ⟨_, q, _⟩ := hit; exact Heap.lt_size q
    have D := draws_sign (prog := X.prog) (w := X.w) (A := X.A.in1) (I.ok.hd hc) it x t
    refine wpAny_pyNext_enum_itemD D he hit hg hne (by simpa using hne) fun v h' tk hv ho hit' hT hsz hk => ?_
    obtain ⟨c, u, hcx, rfl⟩ := hv
    refine ⟨_, rfl, wpAny_letOwnedTupleGo_enum (s := { s with heap := h', toks := tk + 1 }) ho fun h'' he' sb => ?_⟩
    have hT2 : h''.get? s.heap.objs.size = some { cls := .type "tuple", data := .seq #[.int i tk, .str ⟨#[c]⟩ u] } := (sb.2 _ (Nat.ne_of_gt hel)).trans hT
    have new : ObjOk X.prog X.w (upd H s.heap.objs.size (.tup [.int (i : Nat), .str ⟨#[c]⟩])) h'' s.heap.objs.size (.tup [.int (i : Nat), .str ⟨#[c]⟩]) :=
      ⟨by show 2 ≤ sizeLine; decide, [.int i tk, .str ⟨#[c]⟩ u], .cons ⟨_, rfl⟩ (.cons ⟨_, rfl⟩ .nil), ⟨_, hT2, rfl, _, rfl⟩⟩
    have I1 : Inv X pins σ (upd H s.heap.objs.size (.tup [.int (i : Nat), .str ⟨#[c]⟩])) { s with heap := h'', toks := tk + 1 } :=
      I.turnedNew (ch := [e, it]) (fun b ob hb q => (sb.2 b (fun z => hb (by simp [z]))).trans (hk b ob (fun z => hb (by simp [z])) (fun z => hb (by simp [z])) q)) hf (Nat.le_refl _) new
    refine ⟨.ref s.heap.objs.size, _, I1, rfl, ⟨_, c, rfl, I.hok.fresh (Nat.le_refl _), rfl, hcx⟩, ⟨⟨.str ⟨#[c]⟩ u, ?_⟩, ?_⟩, fun b hb => ?_⟩
    · have e1 : ((i + 1 : Nat) : Int) = (i : Int) + 1 := by omega
      rw [e1]; exact he'
    · obtain ⟨o, q, r⟩ := hit'
      exact ⟨o, (sb.2 it (Ne.symm hne)).trans q, r⟩
    · have hb' : b < s.heap.objs.size := by
        have e' : b = e ∨ b = it := by simpa using hb
        rcases e' with z | z
        · rw [z]; exact hel
        · rw [z]; exact hil
      rw [upd_ne (Nat.ne_of_lt hb')]
      exact (hf b hb).1
  done := by
    intro X hP hw hK hc i pins s σ H E I hf st hg
    subst hP hw hK
    obtain ⟨⟨old, he⟩, hit⟩ := st
    obtain ⟨f0, f1, f2, f3, f4, f5⟩ := hf it (by simp)
    have D := draws_sign (prog := X.prog) (w := X.w) (A := X.A.in1) (I.ok.hd hc) it x t
    obtain rfl : i = x.cps.size := hg
    exact wpAny_pyNext_enum_endD D he hit fun h' eb => ⟨rfl, I.turned (t' := s.toks) (fun b o hb q => eb b o hb q) f0 f1 f3 f4 f5⟩
  self := fun A i s Q E st h => let ⟨⟨_, he⟩, _⟩ := st; wpAny_pyIter_enum he h
def iEnumS (ta : TA) : TI := fun σ H R => ta σ H fun vs H1 => ∃ x : Str, vs = [.str x] ∧ R (Ites x) H1
theorem pi_enumS {X : Cx} {e : Expr} {ta : TA} {p pos tpos : Pos} {elts : List Expr} {kk : Nat} (hg : Gl X "enumerate") (hm : X.mg "enumerate" = none) (ha : PA X [e] ta) (hs : starEach [e] X.env = [(false, eval e X.env)] := by rfl) :
    PI X (.Tuple elts kk tpos) (.Call (.Name "enumerate" p) [e] [] pos) (iEnumS ta) := by
  refine ⟨fun pins s σ H R I h => ?_⟩
  refine Call_ (ld_blt I hg hm boot_enumerate (PyProof.Rows.callWith_type1 (thn (ha.run pos pins s σ H _ I h) fun us s1 ⟨vs, H1, I1, r1, q1⟩ => ?_) hs rfl))
  obtain ⟨x, ex, q⟩ := q1
  subst ex
  cases r1 with
  | cons r rr =>
    cases rr
    obtain ⟨t, rfl⟩ := r
    refine call_enumerate_str fun h' he hit hsz hk => wpAny_pyIter_enum he ?_
    have I2 : Inv X pins σ H1 { s1 with heap := h' } := I1.kept (t' := s1.toks) hk
    refine ⟨s1.heap.objs.size + 1, [s1.heap.objs.size + 1, s1.heap.objs.size], _, _, H1, rfl, I2, turn_enumS x t (s1.heap.objs.size + 1) s1.heap.objs.size (Nat.succ_ne_self _), ⟨⟨.none, he⟩, hit⟩, fun b hb => ?_, q⟩
    have hle : s1.heap.objs.size ≤ b := by
      rcases List.mem_cons.mp hb with z | z
      · rw [z]; exact Nat.le_add_right _ _
      · rw [List.mem_singleton.mp z]; exact Nat.le_refl _
    exact I1.fpOk hle (I1.hok.fresh hle)

/-! ### len(set(text)) -/
def sig (a : Str) (i : Nat) : Str := ⟨#[a.cps.getD i 0]⟩
/-- is k among the first i signs of a -/
def seenS (a : Str) : Nat → Str → Bool
  | 0, _ => false
  | i + 1, k => seenS a i k || decide (k = sig a i)
/-- how many unlike signs the first i are -/
def unlike (a : Str) : Nat → Nat
  | 0 => 0
  | i + 1 => if seenS a i (sig a i) = true then unlike a i else unlike a i + 1
theorem unlike_le (a : Str) : ∀ i, unlike a i ≤ i
  | 0 => Nat.le_refl _
  | i + 1 => by have := unlike_le a i; unfold unlike; split <;> omega
section
variable {prog : Program} {w : World} {A : Around} {R : Result → Shared → Prop} {I S : Addr}
theorem set_turns {a : Str} {t : Tok} (W : WalksS prog w A.in1 I [I] [I] (fun a b => b = a) a.cps.size (SignAt a) (fun i s => s.heap.IsStrIter I (strIterType a) a t i)) (hSI : S ≠ I) (hm : a.cps.size ≤ 100) :
    ∀ (k i : Nat) (s : Shared), a.cps.size - i = k → i ≤ a.cps.size → s.heap.IsStrIter I (strIterType a) a t i → s.heap.SetOf (PySem.strKind prog w) S (seenS a i) (unlike a i) →
      (∀ s', Moved [S, I] (fun a b => b = a) s s' → s'.heap.SetOf (PySem.strKind prog w) S (seenS a a.cps.size) (unlike a a.cps.size) → R (.ok (.ret .none)) s') →
      codeAny (model prog w) A (.builtin "set.update.loop" ⟨[.ref S, .ref I], []⟩) R s := by
  have hSw : S ∉ [I] := by simpa using hSI
  have sub : ∀ b ∈ [I], b ∈ [S, I] := fun b hb => List.mem_cons_of_mem _ hb
  have keepS : ∀ {s s' : Shared} {T : Str → Bool} {n : Nat}, Moved [I] (fun a b => b = a) s s' → s.heap.SetOf (PySem.strKind prog w) S T n → s'.heap.SetOf (PySem.strKind prog w) S T n := fun hm ⟨o, es, ep, tb, ho, rest⟩ => ⟨o, es, ep, tb, hm.heap S _ hSw ho, rest⟩
  intro k
  induction k with
  | zero =>
    intro i s hk hi hst hS hR
    obtain rfl : i = a.cps.size := by omega
    refine codeAny_builtin PyProof.Rows.F.entry_set_update_loop ?_
    rw [Around.under_plainId PyProof.Rows.F.plain_set_update_loop _]
    show wpAny _ A.in1 (pyNext (.ref I) >>= _) _ _ s
    refine wpAny_bind (W.done s _ _ hst fun s' hm => ?_)
    exact wpAny_pure (hR s' (hm.mono sub) (keepS hm hS))
  | succ k ih =>
    intro i s hk hi hst hS hR
    have hlt : i < a.cps.size := by omega
    refine codeAny_builtin PyProof.Rows.F.entry_set_update_loop ?_
    rw [Around.under_plainId PyProof.Rows.F.plain_set_update_loop _]
    show wpAny _ A.in1 (pyNext (.ref I) >>= _) _ _ s
    refine wpAny_bind (W.item i s _ _ hlt hst fun v s' hP hst' hm => ?_)
    obtain ⟨c, u, hc, rfl⟩ := hP
    have ec : (⟨#[c]⟩ : Str) = sig a i := by
      unfold sig
      obtain ⟨h1, h2⟩ := Array.getElem?_eq_some_iff.mp hc
      simp [Array.getD, h1, h2]
    rw [ec]
    show wpAny _ A.in1 (holding [Value.str (sig a i) u] (setAdd S (.str (sig a i) u)) >>= _) _ _ s'
    refine wpAny_bind (wpAny_holding ?_)
    unfold setAdd
    refine wpAny_holding ?_
    refine wpAny_bind ((PySem.strKind prog w).pyHash (k := sig a i) (strKind_is _ _ _ _) ?_)
    have hu := unlike_le a i
    refine wpAny_setAddHashed_of (knd := PySem.strKind prog w) (s := { s' with toks := s'.toks + 1 }) (strKind_is _ _ _ _) rfl (show s'.heap.SetOf _ _ _ _ from keepS hm hS) (by unfold scanBound; omega) fun h' hsb hS2 => ?_
    refine wpAny_pure ⟨plainId_quiet PyProof.Rows.F.plain_set_update_loop _, ih (i + 1) _ (by omega) hlt ?_ hS2 fun s'' hm'' hS'' => ?_⟩
    · obtain ⟨o, ho, r⟩ := hst'
      exact ⟨o, (hsb.2 I (Ne.symm hSI)).trans ho, r⟩
    · refine hR s'' (Moved.trans (fun _ _ _ x y => y.trans x) ((hm.mono sub).then_heap (Nat.le_succ _) fun b o hb e => ?_) hm'') hS''
      exact (hsb.2 b (fun h => hb (by rw [h]; exact List.mem_cons_self))).trans e
end

section
variable {prog : Program} {w : World} {A : Around} {E : Value → Shared → Prop} {s : Shared}
theorem sub_str_set : isSubtype (.type "str") (.type "set") = pure false := by rw [isSubtype_type]; kernel_rfl
theorem sub_str_frozenset : isSubtype (.type "str") (.type "frozenset") = pure false := by rw [isSubtype_type]; kernel_rfl
theorem call_set_text {a : Str} {t : Tok} {Q : Value → Shared → Prop} (hh : A.handled = none) (hm : a.cps.size ≤ 100)
    (h : ∀ (h' : Heap) (tk : Nat), h'.SetOf (PySem.strKind prog w) s.heap.objs.size (seenS a a.cps.size) (unlike a a.cps.size) →
      (∀ b o, b < s.heap.objs.size → s.heap.get? b = some o → h'.get? b = some o) → Q (.ref s.heap.objs.size) { s with heap := h', toks := tk }) :
    wpAny (model prog w) A (call (.type "set") [.str a t]) Q E s := by
  obtain ⟨c, tl, hmro⟩ := PySem.F.called_set.mro
  have made := PySem.F.called_set.made
  have ofT := PySem.F.called_set.sub
  refine wpAny_call (codeAny_of_tree ?_)
  show wpAny _ _ (callAny (.type "set") _) _ _ _
  refine wpAny_pure ⟨Code.quiet_builtin _ (by decide +kernel), codeAny_builtin PySem.F.entry_type_call ?_⟩
  rw [Around.under_plain (weight_type_call_type "set" [.str a t] []) rfl]
  have notT := PySem.F.called_set.notType
  have can := PySem.F.called_set.canCreate
  have chk := PySem.F.typeCall_set_1 (.str a t)
  repeat (any_goals (first | assumption | wp_step))
  refine codeAny_mono (code_set_new_1 (.str a t) (E := E) (Q₁ := fun obj s₁ => ∃ led : Bool, obj = .ref s.heap.objs.size ∧ s₁ = { s with heap := s.heap.push { cls := .type "set", dict := none, data := .set #[] 0 (.fresh 0 0 led) } }) fun led => ⟨led, rfl, rfl⟩) fun r s₁ hr => ?_
  cases r with
  | error e => exact hr
  | ok fl =>
    cases fl with
    | ret obj =>
      obtain ⟨led, rfl, rfl⟩ := hr
      generalize hob : ({ cls := .type "set", dict := none, data := .set #[] 0 (.fresh 0 0 led) } : Obj) = ob
      have at0 : (s.heap.push ob).get? s.heap.objs.size = some ob := Heap.get?_push_size _ (by rw [← hob]; rfl)
      have ty0 : Shared.TypeIs { s with heap := s.heap.push ob } (.ref s.heap.objs.size) "set" := ⟨_, at0, by rw [← hob]⟩
      have look := PySem.F.called_set.init.lookup
      have bnd := PySem.F.called_set.init.bind (.ref s.heap.objs.size)
      repeat (any_goals (first | assumption | wp_step))
      refine codeAny_mono (codeAny_call_builtin (R := wants (fun r s₂ => r = .none ∧ ∃ h' tk, s₂ = { s with heap := h', toks := tk } ∧
          h'.SetOf (PySem.strKind prog w) s.heap.objs.size (seenS a a.cps.size) (unlike a a.cps.size) ∧
          (∀ b o, b < s.heap.objs.size → s.heap.get? b = some o → h'.get? b = some o)) E) PySem.F.called_set.init.plain PySem.F.entry_set_init (check_set_init_1 ty0 ?_)) fun r₂ s₂ hr₂ => ?_
      · have s1 := sub_str_set
        have s2 := sub_str_frozenset
        have nd : (Value.type "str" == Value.type "dict") = false := by decide
        subst hob
        unfold Builtin.«set.__init__» noKeywords Builtin.Frozenset.updateFrom
        generalize hPI : pyIter = PI
        wp_walk
        subst hPI
        generalize hob : ({ cls := .type "set", dict := none, data := .set #[] 0 (.fresh 0 0 led) } : Obj) = ob at at0 ty0 ⊢
        refine wpAny_pyIter_strU ?_
        refine wpAny_bind (wpAny_runValue ?_)
        have hh3 : A.in1.in1.in1.handled = none := by simp [hh]
        have hIe : (s.heap.push ob).objs.size = s.heap.objs.size + 1 := Heap.size_push ..
        have W : Walks prog w A.in1.in1.in1 (s.heap.push ob).objs.size [(s.heap.push ob).objs.size] [(s.heap.push ob).objs.size] a.cps.size (SignAt a) (fun i h => h.IsStrIter (s.heap.push ob).objs.size (strIterType a) a t i) := by
          by_cases ha : strIterType a = "str_ascii_iterator"
          · rw [ha]; exact Walks.strAscii hh3 _ a t
          · have : strIterType a = "str_iterator" := by
              unfold strIterType at ha ⊢
              split
              · rename_i h; rw [if_pos h] at ha; exact absurd rfl ha
              · rfl
            rw [this]; exact Walks.strWide hh3 _ a t
        refine set_turns W.toS (by rw [hIe]; exact Nat.ne_of_lt (Nat.lt_succ_self _)) hm (a.cps.size - 0) 0 _ rfl (Nat.zero_le _) ⟨_, Heap.get?_push_size _ rfl, rfl, rfl⟩ ?hS0 ?hR
        case hS0 =>
          have at1 : ((s.heap.push ob).push { cls := .type (strIterType a), data := .fields #[.str a t, .int 0 0] }).get? s.heap.objs.size = some ob := Heap.get?_push_of_some _ at0
          subst hob
          exact PyProof.Rows.SetOf_congr ((PyProof.Rows.setObjOf_fresh (knd := PySem.strKind prog w) led).setOf at1 (by unfold scanBound; omega)) (fun _ => rfl) rfl
        case hR =>
          intro s' hm hS'
          obtain ⟨h', g', d', tk', os'⟩ := s'
          obtain rfl : g' = s.gens := hm.gens
          obtain rfl : d' = s.drawn := hm.drawn
          obtain rfl : os' = s.os := hm.os
          show wpAny _ _ _ _ _ _
          refine wpAny_pure ?_
          show wpAny _ _ (ret Value.none) _ _ _
          refine wpAny_pure ⟨rfl, h', tk', rfl, hS', fun b o hb e => ?_⟩
          refine hm.heap b o (fun hmem => ?_) (Heap.get?_push_of_some _ (Heap.get?_push_of_some _ e))
          rcases List.mem_cons.mp hmem with z | z
          · exact absurd hb (by rw [z]; exact Nat.lt_irrefl _)
          · rw [List.mem_singleton.mp z, hIe] at hb
            exact absurd (Nat.lt_of_succ_lt hb) (Nat.lt_irrefl _)
      · cases r₂ with
        | error e => exact hr₂
        | ok fl₂ =>
          cases fl₂ with
          | ret r =>
            obtain ⟨rfl, h', tk, rfl, hS', hk'⟩ := hr₂
            repeat (any_goals (first | assumption | wp_step))
            exact h _ _ hS' hk'
          | _ => exact hr₂.elim
    | _ => exact hr.elim
end
section
variable {X : Cx}
def tLenSetT (ta : TE) : TE := fun σ H Q => ta σ H fun x H1 => ∃ a : Str, x = .str a ∧ a.cps.size ≤ 100 ∧ Q (.int (unlike a a.cps.size : Nat)) H1
theorem pe_lenSetT {a : Expr} {ta : TE} {p p2 q pos : Pos} (hc : X.calm = true) (hg : Gl X "len") (hm : X.mg "len" = none) (hg2 : Gl X "set") (hm2 : X.mg "set" = none) (ha : PE X a ta)
    (na : starEach [a] X.env = (false, eval a X.env) :: starEach [] X.env := by rfl) : PE X (.Call (.Name "len" p) [.Call (.Name "set" p2) [a] [] q] [] pos) (tLenSetT ta) := by
  refine ⟨fun pins s σ H Q I h => ?_⟩
  refine Call_ (ld_blt I hg hm boot_len ?_)
  refine PyProof.Rows.callWith_builtin1 (PyProof.Rows.args_cons ?_ rfl) rfl rfl
  refine Call_ (ld_blt I hg2 hm2 boot_set ?_)
  refine PyProof.Rows.callWith_type1 (PyProof.Rows.args_cons (thn (ha.run pins s σ H _ I h) fun v s1 ⟨x, H1, I1, r1, a, ea, hz, q1⟩ => PyProof.Rows.args_nil ?_) na) na rfl
  subst ea
  obtain ⟨t, rfl⟩ := r1
  refine call_set_text (I1.ok.hd hc) hz fun h' tk hS hk => ?_
  refine PyProof.Rows.args_nil ?_
  obtain ⟨o, es, ep, tb, ho, hex, hd, _, _, _, hf, hn⟩ := hS
  have I2 : Inv X pins σ H1 { s1 with heap := h', toks := tk } := I1.kept fun b o e => hk b o (Heap.lt_size e) e
  have hu := unlike_le a a.cps.size
  refine call_len_set ho hex hd hf (by rw [hn] <;> omega) ⟨.int _, H1, I2.tok _, ⟨_, by rw [hn]⟩, q1⟩
end
end GE
set_option Elab.async false
set_option linter.all false
set_option maxRecDepth 100000
/-! patterns, and which stretches of a text fit them -/
namespace Bo
open PySem L2
inductive Pat where
  | none | empty
  | sign (c : Nat)
  | row (ps : List Pat) | or (ps : List Pat) | and (ps : List Pat)
  | many (p : Pat) | not (p : Pat)
mutual
def Pat.dep : Pat → Nat
  | .row ps => depL ps + 1
  | .or ps => depL ps + 1
  | .and ps => depL ps + 1
  | .many p => p.dep + 1
  | .not p => p.dep + 1
  | _ => 1
def depL : List Pat → Nat
  | [] => 0
  | p :: ps => max p.dep (depL ps)
end
mutual
def Pat.size : Pat → Nat
  | .row ps => sizeL ps + 1
  | .or ps => sizeL ps + 1
  | .and ps => sizeL ps + 1
  | .many p => p.size + 1
  | .not p => p.size + 1
  | _ => 1
def sizeL : List Pat → Nat
  | [] => 0
  | p :: ps => p.size + sizeL ps
end
mutual
theorem dep_le_size : ∀ p : Pat, p.dep ≤ p.size
  | .row ps => Nat.succ_le_succ (depL_le_size ps)
  | .or ps => Nat.succ_le_succ (depL_le_size ps)
  | .and ps => Nat.succ_le_succ (depL_le_size ps)
  | .many p => Nat.succ_le_succ (dep_le_size p)
  | .not p => Nat.succ_le_succ (dep_le_size p)
  | .none => Nat.le_refl _
  | .empty => Nat.le_refl _
  | .sign _ => Nat.le_refl _
theorem depL_le_size : ∀ ps : List Pat, depL ps ≤ sizeL ps
  | [] => Nat.le_refl _
  | p :: ps => Nat.max_le.mpr ⟨Nat.le_trans (dep_le_size p) (Nat.le_add_right _ _), Nat.le_trans (depL_le_size ps) (Nat.le_add_left _ _)⟩
end
theorem dep_pos (p : Pat) : 1 ≤ p.dep := by cases p <;> simp [Pat.dep]
theorem size_pos (p : Pat) : 1 ≤ p.size := by cases p <;> simp [Pat.size]
theorem dep_mem {p : Pat} : ∀ {ps : List Pat}, p ∈ ps → p.dep ≤ depL ps
  | q :: ps, h => by
    rcases List.mem_cons.mp h with e | h
    · rw [e]; exact Nat.le_max_left _ _
    · exact Nat.le_trans (dep_mem h) (Nat.le_max_right _ _)
/-- from i to j by steps of R -/
inductive Star (R : Nat → Nat → Prop) : Nat → Nat → Prop
  | refl (i : Nat) : Star R i i
  | step {i j k : Nat} : R i j → Star R j k → Star R i k
theorem Star.trans {R : Nat → Nat → Prop} {i j k : Nat} (a : Star R i j) (b : Star R j k) : Star R i k := by
  induction a with
  | refl => exact b
  | step h _ ih => exact .step h (ih b)
theorem Star.snoc {R : Nat → Nat → Prop} {i j k : Nat} (a : Star R i j) (b : R j k) : Star R i k := a.trans (.step b (.refl _))
mutual
/-- the stretch of t from i to j fits the pattern -/
def M (t : List Nat) : Pat → Nat → Nat → Prop
  | .none => fun _ _ => False
  | .empty => fun i j => i = j
  | .sign c => fun i j => t[i]? = some c ∧ j = i + 1
  | .row ps => fun i j => MRow t ps i j
  | .or ps => fun i j => MOr t ps i j
  | .and ps => fun i j => i ≤ j ∧ j ≤ t.length ∧ MAnd t ps i j
  | .many p => fun i j => Star (fun a b => M t p a b) i j
  | .not p => fun i j => i ≤ j ∧ j ≤ t.length ∧ ¬ M t p i j
def MRow (t : List Nat) : List Pat → Nat → Nat → Prop
  | [] => fun i j => i = j
  | p :: ps => fun i j => ∃ k, M t p i k ∧ MRow t ps k j
def MOr (t : List Nat) : List Pat → Nat → Nat → Prop
  | [] => fun _ _ => False
  | p :: ps => fun i j => M t p i j ∨ MOr t ps i j
def MAnd (t : List Nat) : List Pat → Nat → Nat → Prop
  | [] => fun _ _ => True
  | p :: ps => fun i j => M t p i j ∧ MAnd t ps i j
end
theorem star_bound {R : Nat → Nat → Prop} {n : Nat} (h : ∀ i j, i ≤ n → R i j → i ≤ j ∧ j ≤ n) {i j : Nat} (s : Star R i j) : i ≤ n → i ≤ j ∧ j ≤ n := by
  induction s with
  | refl => intro hi; exact ⟨Nat.le_refl _, hi⟩
  | step r _ ih =>
    intro hi
    obtain ⟨h1, h2⟩ := h _ _ hi r
    obtain ⟨h3, h4⟩ := ih h2
    exact ⟨Nat.le_trans h1 h3, h4⟩
mutual
theorem M_bound (t : List Nat) : ∀ (p : Pat) (i j : Nat), i ≤ t.length → M t p i j → i ≤ j ∧ j ≤ t.length
  | .none, i, j, hi, h => by simp [M] at h
  | .empty, i, j, hi, h => by
    have h : i = j := h
    subst h; exact ⟨Nat.le_refl _, hi⟩
  | .sign c, i, j, hi, h => by
    obtain ⟨h1, h2⟩ : t[i]? = some c ∧ j = i + 1 := h
    have := (List.getElem?_eq_some_iff.mp h1).1
    omega
  | .row ps, i, j, hi, h => MRow_bound t ps i j hi h
  | .or ps, i, j, hi, h => MOr_bound t ps i j hi h
  | .and ps, i, j, hi, h => ⟨h.1, h.2.1⟩
  | .many p, i, j, hi, h => star_bound (R := fun a b => M t p a b) (fun a b ha hab => M_bound t p a b ha hab) h hi
  | .not p, i, j, hi, h => ⟨h.1, h.2.1⟩
theorem MRow_bound (t : List Nat) : ∀ (ps : List Pat) (i j : Nat), i ≤ t.length → MRow t ps i j → i ≤ j ∧ j ≤ t.length
  | [], i, j, hi, h => by
    have h : i = j := h
    subst h; exact ⟨Nat.le_refl _, hi⟩
  | p :: ps, i, j, hi, h => by
    obtain ⟨k, h1, h2⟩ := h
    obtain ⟨a, b⟩ := M_bound t p i k hi h1
    obtain ⟨c, d⟩ := MRow_bound t ps k j b h2
    exact ⟨Nat.le_trans a c, d⟩
theorem MOr_bound (t : List Nat) : ∀ (ps : List Pat) (i j : Nat), i ≤ t.length → MOr t ps i j → i ≤ j ∧ j ≤ t.length
  | [], i, j, hi, h => by simp [MOr] at h
  | p :: ps, i, j, hi, h => by
    rcases h with h | h
    · exact M_bound t p i j hi h
    · exact MOr_bound t ps i j hi h
end
mutual
/-- the value stands for the pattern -/
def PatAt (H : Hp) : Pat → V → Prop
  | .none => fun v => ∃ a, v = .ref a ∧ H a = some (.tup [.str "none"])
  | .empty => fun v => ∃ a, v = .ref a ∧ H a = some (.tup [.str "empty"])
  | .sign c => fun v => ∃ a, v = .ref a ∧ H a = some (.tup [.str "sign", .str ⟨#[c]⟩])
  | .row ps => fun v => ∃ a b vs, v = .ref a ∧ H a = some (.tup [.str "row", .ref b]) ∧ H b = some (.tup vs) ∧ PatsAt H ps vs
  | .or ps => fun v => ∃ a b vs, v = .ref a ∧ H a = some (.tup [.str "or", .ref b]) ∧ H b = some (.tup vs) ∧ PatsAt H ps vs
  | .and ps => fun v => ∃ a b vs, v = .ref a ∧ H a = some (.tup [.str "and", .ref b]) ∧ H b = some (.tup vs) ∧ PatsAt H ps vs
  | .many p => fun v => ∃ a u, v = .ref a ∧ H a = some (.tup [.str "many", u]) ∧ PatAt H p u
  | .not p => fun v => ∃ a u, v = .ref a ∧ H a = some (.tup [.str "not", u]) ∧ PatAt H p u
def PatsAt (H : Hp) : List Pat → List V → Prop
  | [] => fun vs => vs = []
  | p :: ps => fun vs => ∃ v r, vs = v :: r ∧ PatAt H p v ∧ PatsAt H ps r
end
/-- all but the tables of code stays; the tables may grow -/
structure Ext (H H' : Hp) : Prop where
  keep : ∀ b o, H b = some o → (∀ ps, o ≠ .tbl ps) → H' b = some o
  tab : ∀ b, GxR.TabG H b → GxR.TabG H' b
  there : ∀ b o, H b = some o → ∃ o', H' b = some o'
theorem Ext.refl (H : Hp) : Ext H H := ⟨fun _ _ h _ => h, fun _ h => h, fun _ o h => ⟨o, h⟩⟩
theorem Ext.trans {H H1 H2 : Hp} (a : Ext H H1) (b : Ext H1 H2) : Ext H H2 := ⟨fun c o h n => b.keep c o (a.keep c o h n) n, fun c h => b.tab c (a.tab c h), fun c o h => let ⟨o', h'⟩ := a.there c o h; b.there c o' h'⟩
theorem Ext.new {H : Hp} {p : Addr} {o : HO} (h : H p = Option.none) : Ext H (upd H p o) :=
  ⟨fun b u q _ => by rw [upd_ne (ne_of_none q h)]; exact q, fun b ⟨ps, q, t⟩ => ⟨ps, by rw [upd_ne (ne_of_none q h)]; exact q, t⟩, fun b u q => ⟨u, by rw [upd_ne (ne_of_none q h)]; exact q⟩⟩
/-- a list of ours is written -/
theorem Ext.wr {H0 H : Hp} {p : Addr} {o : HO} (e : Ext H0 H) (h : H0 p = Option.none) : Ext H0 (upd H p o) :=
  ⟨fun b u q n => by rw [upd_ne (ne_of_none q h)]; exact e.keep b u q n, fun b q => by
    obtain ⟨ps, z, _⟩ := id q
    obtain ⟨ps', z', t'⟩ := e.tab b q
    exact ⟨ps', by rw [upd_ne (ne_of_none z h)]; exact z', t'⟩, fun b u q => let ⟨u', z⟩ := e.there b u q; ⟨u', by rw [upd_ne (ne_of_none q h)]; exact z⟩⟩
theorem Ext.tabbed {P : Addr} {H H' : Hp} (h0 : GxR.TabG H P) (h : GxR.Tabbed P H H') : Ext H H' :=
  ⟨fun b o q n => by
    by_cases e : b = P
    · subst e
      obtain ⟨ps, z, _⟩ := h0
      rw [q] at z
      exact absurd (Option.some.inj z) (n ps)
    · rw [h.2 b e]; exact q, fun b q => by
    by_cases e : b = P
    · rw [e]; exact h.1
    · obtain ⟨ps, z, t⟩ := q
      exact ⟨ps, by rw [h.2 b e]; exact z, t⟩, fun b o q => by
    by_cases e : b = P
    · obtain ⟨ps, z, _⟩ := h.1
      exact ⟨_, by rw [e]; exact z⟩
    · exact ⟨o, by rw [h.2 b e]; exact q⟩⟩
theorem Ext.free {H H' : Hp} (e : Ext H H') {l : Addr} (h : H' l = Option.none) : H l = Option.none := by
  cases q : H l with
  | none => rfl
  | some o =>
    obtain ⟨o', z⟩ := e.there l o q
    rw [h] at z
    cases z
theorem Ext.tup {H H' : Hp} (e : Ext H H') {a : Addr} {xs : List V} (h : H a = some (.tup xs)) : H' a = some (.tup xs) := e.keep a _ h (fun ps z => by cases z)
theorem Ext.lst {H H' : Hp} (e : Ext H H') {a : Addr} {xs : List V} (h : H a = some (.lst xs)) : H' a = some (.lst xs) := e.keep a _ h (fun ps z => by cases z)
theorem Ext.sqL {K : PySem.W.Frag} {H H' : Hp} (e : Ext H H') {a : Addr} {xs : List V} (h : SqL K H a xs) : SqL K H' a xs := by
  rcases h with (h | ⟨o, h⟩) | h
  · exact .inl (.inl (e.lst h))
  · exact .inl (.inr ⟨o, e.keep _ _ h (fun ps z => by cases z)⟩)
  · exact .inr h
mutual
theorem PatAt.ext {H H' : Hp} (e : Ext H H') : ∀ (p : Pat) (v : V), PatAt H p v → PatAt H' p v
  | .none, v, h => let ⟨a, h1, h2⟩ := h; ⟨a, h1, e.tup h2⟩
  | .empty, v, h => let ⟨a, h1, h2⟩ := h; ⟨a, h1, e.tup h2⟩
  | .sign c, v, h => let ⟨a, h1, h2⟩ := h; ⟨a, h1, e.tup h2⟩
  | .row ps, v, h => let ⟨a, b, vs, h1, h2, h3, h4⟩ := h; ⟨a, b, vs, h1, e.tup h2, e.tup h3, PatsAt.ext e ps vs h4⟩
  | .or ps, v, h => let ⟨a, b, vs, h1, h2, h3, h4⟩ := h; ⟨a, b, vs, h1, e.tup h2, e.tup h3, PatsAt.ext e ps vs h4⟩
  | .and ps, v, h => let ⟨a, b, vs, h1, h2, h3, h4⟩ := h; ⟨a, b, vs, h1, e.tup h2, e.tup h3, PatsAt.ext e ps vs h4⟩
  | .many p, v, h => let ⟨a, u, h1, h2, h3⟩ := h; ⟨a, u, h1, e.tup h2, PatAt.ext e p u h3⟩
  | .not p, v, h => let ⟨a, u, h1, h2, h3⟩ := h; ⟨a, u, h1, e.tup h2, PatAt.ext e p u h3⟩
theorem PatsAt.ext {H H' : Hp} (e : Ext H H') : ∀ (ps : List Pat) (vs : List V), PatsAt H ps vs → PatsAt H' ps vs
  | [], vs, h => h
  | p :: ps, vs, h => let ⟨v, r, h1, h2, h3⟩ := h; ⟨v, r, h1, PatAt.ext e p v h2, PatsAt.ext e ps r h3⟩
end
theorem PatsAt.len {H : Hp} : ∀ {ps : List Pat} {vs : List V}, PatsAt H ps vs → vs.length = ps.length
  | [], _, h => by rw [show _ = [] from h]; rfl
  | p :: ps, _, ⟨v, r, e, _, h⟩ => by rw [e]; show r.length + 1 = ps.length + 1; rw [h.len]
theorem PatsAt.get {H : Hp} : ∀ {ps : List Pat} {vs : List V} {i : Nat} {v : V}, PatsAt H ps vs → vs[i]? = some v → ∃ p, ps[i]? = some p ∧ PatAt H p v
  | [], _, i, v, h, e => by rw [show _ = [] from h] at e; simp at e
  | p :: ps, _, 0, v, ⟨u, r, e1, h1, _⟩, e => by rw [e1] at e; simp at e; exact ⟨p, rfl, e ▸ h1⟩
  | p :: ps, _, i + 1, v, ⟨u, r, e1, _, h2⟩, e => by
    rw [e1] at e
    obtain ⟨q, h3, h4⟩ := PatsAt.get (i := i) h2 (by simpa using e)
    exact ⟨q, by simpa using h3, h4⟩
mutual
def nullb : Pat → Bool
  | .empty => true
  | .many _ => true
  | .row ps => nullAll ps
  | .and ps => nullAll ps
  | .or ps => nullAny ps
  | .not p => !nullb p
  | _ => false
def nullAll : List Pat → Bool
  | [] => true
  | p :: ps => nullb p && nullAll ps
def nullAny : List Pat → Bool
  | [] => false
  | p :: ps => nullb p || nullAny ps
end
theorem nullAll_eq : ∀ ps : List Pat, nullAll ps = ps.all nullb
  | [] => rfl
  | p :: ps => by rw [nullAll, List.all_cons, nullAll_eq ps]
theorem nullAny_eq : ∀ ps : List Pat, nullAny ps = ps.any nullb
  | [] => rfl
  | p :: ps => by rw [nullAny, List.any_cons, nullAny_eq ps]
theorem iffT {c : Bool} {A B : Prop} (h : c = true) (a : A) : if c = true then A else B := by rw [if_pos h]; exact a
theorem iffF {c : Bool} {A B : Prop} (h : c = false) (b : B) : if c = true then A else B := by rw [if_neg (by rw [h]; exact Bool.false_ne_true)]; exact b
end Bo
set_option Elab.async false
set_option linter.all false
set_option maxRecDepth 100000
set_option maxHeartbeats 4000000
/-! readings in short: a pattern's head, its tests -/
namespace Bo
open PySem PySem.Spec PyProof.Rows L2 GE
abbrev FnP (K : PySem.W.Frag) (x : Str) (st : Stmt) (f : Addr) (fd : FuncData) : Prop := FunD K x x (defArgs st) (defBody st) (defScope st) [] [] f fd
section
variable {P : Program} {w : World} {K : PySem.W.Frag} {mg : Str → Option Value} {base : Heap}
/-- FunD.ok where the code object is known -/
theorem okC {CX : CXT} {x qual : Str} {params : Arguments} {body : List Stmt} {scope : Scope} {dvs : List V} {kws : List (Str × V)} {f : Addr} {fd : FuncData} {N ps : List Str} {k : Nat} {sp : Sp} {c : Addr} (F : FunD K x qual params body scope dvs kws f fd) (hc : fd.code = .ref c) (S : FnScope N ps scope) (len : ∀ vs H Q E, sp vs H Q E → vs.length = ps.length)
    (hbody : ∀ (A : Around) (outer : List Env) (s : Shared) (H : Hp) (vs : List V) (Q : VK) (E : XK), Room k (A.deeper (envOfC qual scope s.heap.objs.size f (.ref c))) → sp vs H Q E →
      ∃ t, PSs (cxOf CX P w K mg base N qual scope f (.ref c) A outer s H E) body t ∧ t { nx := fun _ H' => Q .non H', rt := Q } (start N vs) H) : FnOk P w K mg base CX (k + 1) f fd ps sp := by
  obtain ⟨oc, od, dV, kV, doc, pm, an, cdv, ct, osl, e, lk, hcd, _, _⟩ := F.ex
  subst e
  obtain rfl : cdv = .ref c := hc
  exact fn_of lk hcd S len fun A outer s H vs Q E hr hsp => hbody A outer s H vs Q E hr hsp
/-- FunD.ok for a def that lets nothing out -/
theorem okD {x qual : Str} {params : Arguments} {body : List Stmt} {scope : Scope} {dvs : List V} {kws : List (Str × V)} {f : Addr} {fd : FuncData} {N ps : List Str} {k : Nat} {sp : Sp} (F : FunD K x qual params body scope dvs kws f fd) (S : FnScope N ps scope) (len : ∀ vs H Q E, sp vs H Q E → vs.length = ps.length)
    (hbody : ∀ (cdv : Value) (A : Around) (outer : List Env) (s : Shared) (H : Hp) (vs : List V) (Q : VK) (E : XK), Room k (A.deeper (envOfC qual scope s.heap.objs.size f cdv)) → sp vs H Q E →
      ∃ t, PSs (cxOf CX0 P w K mg base N qual scope f cdv A outer s H E).nox body t ∧ t { nx := fun _ H' => Q .non H', rt := Q } (start N vs) H) : FnOk P w K mg base CX0 (k + 1) f fd ps sp :=
  F.ok S len fun cdv A outer s H vs Q E hr h => let ⟨t, a, b⟩ := hbody cdv A outer s H vs Q E hr h; ⟨t, a.nox, b⟩
end
def Pat.kind : Pat → Str
  | .none => "none" | .empty => "empty" | .sign _ => "sign" | .row _ => "row" | .or _ => "or" | .and _ => "and" | .many _ => "many" | .not _ => "not"
theorem PatAt.hd {H : Hp} : ∀ {p : Pat} {v : V}, PatAt H p v → ∃ a xs, v = .ref a ∧ H a = some (.tup (.str p.kind :: xs))
  | .none, _, ⟨a, e, h⟩ => ⟨a, _, e, h⟩
  | .empty, _, ⟨a, e, h⟩ => ⟨a, _, e, h⟩
  | .sign _, _, ⟨a, e, h⟩ => ⟨a, _, e, h⟩
  | .row _, _, ⟨a, b, vs, e, h, _⟩ => ⟨a, _, e, h⟩
  | .or _, _, ⟨a, b, vs, e, h, _⟩ => ⟨a, _, e, h⟩
  | .and _, _, ⟨a, b, vs, e, h, _⟩ => ⟨a, _, e, h⟩
  | .many _, _, ⟨a, u, e, h, _⟩ => ⟨a, _, e, h⟩
  | .not _, _, ⟨a, u, e, h, _⟩ => ⟨a, _, e, h⟩
section
variable {K : PySem.W.Frag} {σ : L2.St} {H : Hp} {a : Addr} {xs : List V} {v : V} {Q : VK} {D : Ends} {t u : TS}
/-- x[j], x a tuple in slot i -/
theorem r_ix {i : Nat} (j : Nat) (h0 : σ[i]? = some (some (.ref a))) (ha : H a = some (.tup xs)) (hx : xs[j]? = some v) (q : Q v H) : tOp (rIxT K) (tVar i) (tC (.int (j : Int))) σ H Q :=
  ⟨_, h0, a, xs, _, v, rfl, rfl, SqT.of ha, atI_nat hx, q⟩
theorem r_kind {i : Nat} {k z : Str} {Q : Bool → Hp → Prop} (h0 : σ[i]? = some (some (.ref a))) (ha : H a = some (.tup (.str k :: xs))) (q : Q (decide (k = z)) H) : tTest (tOp rEq (tOp (rIxT K) (tVar i) (tC (.int 0))) (tC (.str z))) σ H Q := by
  refine r_ix 0 h0 ha rfl ⟨rfl, _, rfl, ?_⟩
  have e : decide (V.str k = V.str z) = decide (k = z) := by rw [dec_str, Bool.beq_eq_decide_eq]
  rw [e]; exact q
theorem if_kT {i : Nat} {z : Str} (h0 : σ[i]? = some (some (.ref a))) (ha : H a = some (.tup (.str z :: xs))) (h : t D σ H) : tIfS (tTest (tOp rEq (tOp (rIxT K) (tVar i) (tC (.int 0))) (tC (.str z)))) t u D σ H :=
  r_kind h0 ha (iffT (decide_eq_true rfl) h)
theorem if_kF {i : Nat} {k z : Str} (h0 : σ[i]? = some (some (.ref a))) (ha : H a = some (.tup (.str k :: xs))) (n : k ≠ z) (h : u D σ H) : tIfS (tTest (tOp rEq (tOp (rIxT K) (tVar i) (tC (.int 0))) (tC (.str z)))) t u D σ H :=
  r_kind h0 ha (iffF (decide_eq_false n) h)
def tCs : List Str → TA
  | [] => tNil
  | z :: zs => tCons (tC (.str z)) (tCs zs)
theorem tCs_go : ∀ (zs : List Str) (Q : List V → Hp → Prop), Q (zs.map V.str) H → tCs zs σ H Q
  | [], Q, h => h
  | z :: zs, Q, h => tCs_go zs (fun ys H1 => Q (.str z :: ys) H1) h
theorem inV_str (k : Str) (zs : List Str) : inV (.str k) (zs.map V.str) = decide (k ∈ zs) := by
  unfold inV
  induction zs with
  | nil => rfl
  | cons z zs ih =>
    rw [List.map_cons, List.any_cons, ih]
    show (z == k || decide (k ∈ zs)) = decide (k ∈ z :: zs)
    rw [Bool.eq_iff_iff, Bool.or_eq_true, beq_iff_eq, decide_eq_true_eq, decide_eq_true_eq, List.mem_cons]
    exact ⟨fun h => h.elim (fun e => .inl e.symm) .inr, fun h => h.elim (fun e => .inl e.symm) .inr⟩
/-- x[0] in ("..", ..) -/
theorem r_in {i : Nat} {k : Str} (zs : List Str) (h0 : σ[i]? = some (some (.ref a))) (ha : H a = some (.tup (.str k :: xs))) (hz : zs.length ≤ 20) (q : ∀ p, H p = none → Q (.bl (decide (k ∈ zs))) (upd H p (.tup (zs.map V.str)))) :
    tOp (rIn K false) (tOp (rIxT K) (tVar i) (tC (.int 0))) (tTup (tCs zs)) σ H Q := by
  refine r_ix 0 h0 ha rfl (tCs_go zs _ ⟨?_, fun p np => ?_⟩)
  · rw [List.length_map]; exact Nat.le_of_lt (small1000 (by omega))
  · refine ⟨p, _, rfl, .inr (SqT.of upd_same), rfl, ?_, ?_⟩
    · rw [List.all_map, List.all_eq_true]; intro z _; rfl
    · rw [inV_str]; exact q p np
theorem if_inT {i : Nat} {k : Str} (zs : List Str) (h0 : σ[i]? = some (some (.ref a))) (ha : H a = some (.tup (.str k :: xs))) (hk : k ∈ zs) (h : ∀ p, H p = none → t D σ (upd H p (.tup (zs.map V.str)))) (hz : zs.length ≤ 20 := by decide) :
    tIfS (tTest (tOp (rIn K false) (tOp (rIxT K) (tVar i) (tC (.int 0))) (tTup (tCs zs)))) t u D σ H :=
  r_in zs h0 ha hz fun p np => ⟨_, rfl, iffT (decide_eq_true hk) (h p np)⟩
theorem if_inF {i : Nat} {k : Str} (zs : List Str) (h0 : σ[i]? = some (some (.ref a))) (ha : H a = some (.tup (.str k :: xs))) (hk : k ∉ zs) (h : ∀ p, H p = none → u D σ (upd H p (.tup (zs.map V.str)))) (hz : zs.length ≤ 20 := by decide) :
    tIfS (tTest (tOp (rIn K false) (tOp (rIxT K) (tVar i) (tC (.int 0))) (tTup (tCs zs)))) t u D σ H :=
  r_in zs h0 ha hz fun p np => ⟨_, rfl, iffF (decide_eq_false hk) (h p np)⟩
theorem t_seq {D : Ends} (h : t { D with nx := u D } σ H) : tSeq t u D σ H := h
theorem t_setC {v : V} {i : Nat} {D : Ends} (h : u D (σ.set i (some v)) H) : tSeq (tAsg (tC v) (gName i)) u D σ H := h
theorem t_set {te : TE} {i : Nat} {D : Ends} (h : te σ H fun x H1 => u D (σ.set i (some x)) H1) : tSeq (tAsg te (gName i)) u D σ H := h
/-- any, all over a tuple -/
theorem quant_tup {stopv : Bool} {T a : Addr} {xs : List V} {te : TE} {σ : L2.St} {H1 : Hp} {Q : VK} (h0 : GxR.TabG H1 T) (ha : H1 a = some (.tup xs)) (Pv : Nat → Hp → Prop) (p0 : ∀ H, Ext H1 H → Pv 0 H) (hl : ∀ i H, Pv i H → H a = some (.tup xs))
    (hs : ∀ i v H, xs[i]? = some v → Pv i H → te (σ ++ [some v]) H fun y H3 => ∃ b, y = .bl b ∧ if b = stopv then Q (.bl stopv) H3 else Pv (i + 1) H3) (hd : ∀ H, Pv xs.length H → Q (.bl (!stopv)) H) :
    GxR.TabG H1 T ∧ ∀ H2, GxR.Tabbed T H1 H2 → ∃ W : Nat → Nat → Hp → Prop, (∃ m, W 0 m H2) ∧ ∀ i m H, W i m H →
      ((Itt K a).stop i H ∧ Q (.bl (!stopv)) H) ∨ ((Itt K a).go i H ∧ ∃ Nx : Hp → Prop, (∀ H', Nx H' → ∃ m', m' < m ∧ W (i + 1) m' H') ∧ ∀ v H', (Itt K a).yld i H v H' → te (σ ++ [some v]) H' fun y H3 => ∃ b, y = .bl b ∧ if b = stopv then Q (.bl stopv) H3 else Nx H3) := by
  refine ⟨h0, fun H2 hT => ⟨fun i m H => i ≤ xs.length ∧ m = xs.length - i ∧ Pv i H, ⟨xs.length, Nat.zero_le _, rfl, p0 H2 (Ext.tabbed h0 hT)⟩, ?_⟩⟩
  rintro i m H ⟨hi, rfl, p⟩
  have q := hl i H p
  by_cases hlt : i < xs.length
  · refine .inr ⟨⟨xs, xs[i], SqT.of q, by simp [hlt]⟩, Pv (i + 1), fun H' p' => ⟨xs.length - (i + 1), by omega, hlt, rfl, p'⟩, fun v H' y => ?_⟩
    obtain ⟨e, y⟩ := y
    subst e
    exact hs i v H' (y xs (SqT.of q)) p
  · have e : i = xs.length := by omega
    subst e
    exact .inl ⟨⟨xs, SqT.of q, Nat.le_refl _⟩, hd H p⟩
end
end Bo
set_option Elab.async false
set_option linter.all false
set_option maxRecDepth 100000
/-! sets of places as numbers -/
namespace Bo
open PySem L2
theorem tb_add : ∀ (p y : Nat), y.testBit p = false → ∀ j, (y + 2 ^ p).testBit j = (y.testBit j || decide (j = p))
  | 0, y, h, j => by
    have e : y % 2 = 0 := by
      rw [Nat.testBit_zero] at h
      have := of_decide_eq_false h
      omega
    cases j with
    | zero => rw [Nat.testBit_zero, Nat.testBit_zero]; simp; omega
    | succ j =>
      rw [Nat.testBit_succ, Nat.testBit_succ]
      have : (y + 2 ^ 0) / 2 = y / 2 := by rw [Nat.pow_zero]; omega
      rw [this]; simp
  | p + 1, y, h, j => by
    rw [Nat.testBit_succ] at h
    cases j with
    | zero =>
      rw [Nat.testBit_zero, Nat.testBit_zero]
      have : (y + 2 ^ (p + 1)) % 2 = y % 2 := by rw [Nat.pow_succ]; omega
      rw [this]; simp
    | succ j =>
      rw [Nat.testBit_succ, Nat.testBit_succ]
      have : (y + 2 ^ (p + 1)) / 2 = y / 2 + 2 ^ p := by rw [Nat.pow_succ]; omega
      rw [this, tb_add p (y / 2) h j]
      simp
theorem tb_sub {x p : Nat} (h : x.testBit p = true) (j : Nat) : (x - 2 ^ p).testBit j = (x.testBit j && decide (j ≠ p)) := by
  have hx : 2 ^ p ≤ x := Nat.ge_two_pow_of_testBit h
  have e : x = (x - 2 ^ p) + 2 ^ p := by omega
  have h0 : (x - 2 ^ p).testBit p = false := by
    have := Nat.testBit_two_pow_add_eq (x - 2 ^ p) p
    rw [Nat.add_comm, ← e, h] at this
    cases hc : (x - 2 ^ p).testBit p with
    | false => rfl
    | true => rw [hc] at this; cases this
  have key := tb_add p (x - 2 ^ p) h0 j
  rw [← e] at key
  rw [key]
  by_cases ej : j = p
  · subst ej; rw [h0]; simp
  · simp [ej]
/-- x & ~(1 << p) -/
def clr (x p : Nat) : Nat := if x.testBit p then x - 2 ^ p else x
theorem tb_clr (x p j : Nat) : (clr x p).testBit j = (x.testBit j && decide (j ≠ p)) := by
  unfold clr
  split
  · rename_i h; exact tb_sub h j
  · rename_i h
    by_cases e : j = p
    · subst e; simp at h; simp [h]
    · simp [e]
theorem and_not_bit (x p : Nat) : Builtin.bitAnd (x : Int) (Builtin.bitNot (1 * 2 ^ p)) = (clr x p : Int) := by
  have h2 : (0 : Int) ≤ 2 ^ p := two_pow_nn p
  unfold Builtin.bitAnd
  have e1 : decide (0 ≤ (x : Int)) = true := decide_eq_true (Int.natCast_nonneg x)
  have e2 : decide (0 ≤ Builtin.bitNot (1 * 2 ^ p)) = false := by
    apply decide_eq_false
    unfold Builtin.bitNot
    omega
  rw [e1, e2]
  show (x : Int) - (((x : Int).toNat &&& (Builtin.bitNot (Builtin.bitNot (1 * 2 ^ p))).toNat : Nat) : Int) = _
  have e3 : (Builtin.bitNot (Builtin.bitNot (1 * 2 ^ p))).toNat = 2 ^ p := by
    unfold Builtin.bitNot
    have : (-(-(1 * 2 ^ p : Int) - 1) - 1) = ((2 ^ p : Nat) : Int) := by rw [Int.natCast_pow]; simp; omega
    rw [this]; rfl
  have e4 : x &&& 2 ^ p = (x.testBit p).toNat * 2 ^ p := Nat.eq_of_testBit_eq fun i => by
    rw [Nat.testBit_and, Nat.testBit_two_pow]
    by_cases e : p = i
    · subst e
      cases hx : x.testBit p with
      | true => simp [Nat.testBit_two_pow_self]
      | false => simp
    · cases hx : x.testBit p with
      | true => simp [e, Nat.testBit_two_pow_of_ne e]
      | false => simp [e]
  rw [e3, Int.toNat_natCast, e4]
  unfold clr
  cases h : x.testBit p with
  | true =>
    have := Nat.ge_two_pow_of_testBit h
    simp only [Bool.toNat_true, if_true, Nat.one_mul]
    omega
  | false => simp
theorem or_nat (a b : Nat) : Builtin.bitOr (a : Int) (b : Int) = ((a ||| b : Nat) : Int) := by rw [bitOr_nn (Int.natCast_nonneg _) (Int.natCast_nonneg _)]; simp
theorem xor_nat (a b : Nat) : Builtin.bitXor (a : Int) (b : Int) = ((a ^^^ b : Nat) : Int) := by rw [Bits.bitXor_pp (Int.natCast_nonneg _) (Int.natCast_nonneg _)]; simp
theorem and_nat (a b : Nat) : Builtin.bitAnd (a : Int) (b : Int) = ((a &&& b : Nat) : Int) := by
  unfold Builtin.bitAnd
  rw [decide_eq_true (Int.natCast_nonneg a), decide_eq_true (Int.natCast_nonneg b)]
  show (((a : Int).toNat &&& (b : Int).toNat : Nat) : Int) = _
  rw [Int.toNat_natCast, Int.toNat_natCast]
theorem shl_nat (a p : Nat) : (a : Int) * 2 ^ ((p : Int)).toNat = ((a * 2 ^ p : Nat) : Int) := by
  rw [Int.toNat_natCast, Int.natCast_mul, Int.natCast_pow]; rfl
theorem one_shl (p : Nat) : (1 : Int) * 2 ^ ((p : Int)).toNat = ((2 ^ p : Nat) : Int) := by
  rw [Int.toNat_natCast, Int.one_mul, Int.natCast_pow]; rfl
theorem xor_top_lt {m : Nat} (h : m ≠ 0) : m ^^^ 2 ^ m.log2 < m := by
  refine Nat.lt_of_lt_of_le (m := 2 ^ m.log2) ?_ (Nat.log2_self_le h)
  refine Nat.lt_pow_two_of_testBit _ fun i hi => ?_
  rw [Nat.testBit_xor, Nat.testBit_two_pow]
  by_cases e : m.log2 = i
  · subst e; rw [Nat.testBit_log2 h]; simp
  · have : m.testBit i = false := Nat.testBit_lt_two_pow (Nat.lt_of_lt_of_le Nat.lt_log2_self (Nat.pow_le_pow_right (by omega) (by omega)))
    rw [this]; simp [e]
theorem tb_xor_top {m : Nat} (h : m ≠ 0) (k : Nat) : (m ^^^ 2 ^ m.log2).testBit k = (m.testBit k && decide (k ≠ m.log2)) := by
  rw [Nat.testBit_xor, Nat.testBit_two_pow]
  by_cases e : m.log2 = k
  · subst e; rw [Nat.testBit_log2 h]; simp
  · have : ¬ k = m.log2 := fun z => e z.symm
    simp [e, this]
theorem bits_nat {m : Nat} (h : m ≠ 0) : ((Builtin.Int.intBits (m : Int) : Nat) : Int) - 1 = ((m.log2 : Nat) : Int) := by
  unfold Builtin.Int.intBits
  have : ((m : Int) == 0) = false := by simpa using h
  rw [this]
  simp
/-- the places where a stretch from i ends, for each i -/
def Rep (n : Nat) (R : Nat → Nat → Prop) (E : List Nat) : Prop := E.length = n + 1 ∧ ∀ i, i ≤ n → ∀ j, (E.getD i 0).testBit j = true ↔ R i j
/-- the number of the places that are led to from those of m -/
def Beh (E : List Nat) (m r : Nat) : Prop := ∀ j, r.testBit j = true ↔ ∃ k, m.testBit k = true ∧ (E.getD k 0).testBit j = true
theorem Beh.uniq {E : List Nat} {m r r' : Nat} (a : Beh E m r) (b : Beh E m r') : r = r' := Nat.eq_of_testBit_eq fun j => by rw [Bool.eq_iff_iff, a j, b j]
theorem lt_of_bits {x n : Nat} (h : ∀ j, x.testBit j = true → j < n) : x < 2 ^ n := Nat.lt_pow_two_of_testBit _ fun i hi => by
  cases e : x.testBit i with
  | false => rfl
  | true => have := h i e; omega
theorem bit_of_shift {x n : Nat} (h : x < 2 ^ (n + 1)) : (x / 2 ^ n = 1) ↔ x.testBit n = true := by
  rw [Nat.testBit_eq_decide_div_mod_eq, decide_eq_true_eq]
  have h9 : x / 2 ^ n < 2 := Nat.div_lt_of_lt_mul (by rw [Nat.pow_succ] at h; omega)
  generalize x / 2 ^ n = q at h9 ⊢
  omega
theorem star_iff {R : Nat → Nat → Prop} {i j : Nat} : Star R i j ↔ i = j ∨ ∃ k, k ≠ i ∧ R i k ∧ Star R k j := by
  constructor
  · intro h
    induction h with
    | refl => exact .inl rfl
    | @step a b c r s ih =>
      by_cases e : b = a
      · subst e; exact ih
      · exact .inr ⟨b, e, r, s⟩
  · rintro (rfl | ⟨k, _, r, s⟩)
    · exact .refl _
    · exact .step r s
theorem MRow_snoc (t : List Nat) (p : Pat) : ∀ (ps : List Pat) (i j : Nat), MRow t (ps ++ [p]) i j ↔ ∃ k, MRow t ps i k ∧ M t p k j
  | [], i, j => by
    show (∃ k, M t p i k ∧ k = j) ↔ ∃ k, i = k ∧ M t p k j
    exact ⟨fun ⟨k, h, e⟩ => ⟨i, rfl, e ▸ h⟩, fun ⟨k, e, h⟩ => ⟨j, e ▸ h, rfl⟩⟩
  | q :: ps, i, j => by
    show (∃ k, M t q i k ∧ MRow t (ps ++ [p]) k j) ↔ ∃ k, (∃ l, M t q i l ∧ MRow t ps l k) ∧ M t p k j
    constructor
    · rintro ⟨k, h, h2⟩
      obtain ⟨l, a, b⟩ := (MRow_snoc t p ps k j).mp h2
      exact ⟨l, ⟨k, h, a⟩, b⟩
    · rintro ⟨k, ⟨l, a, b⟩, c⟩
      exact ⟨l, a, (MRow_snoc t p ps l j).mpr ⟨k, b, c⟩⟩
theorem MOr_snoc (t : List Nat) (p : Pat) : ∀ (ps : List Pat) (i j : Nat), MOr t (ps ++ [p]) i j ↔ MOr t ps i j ∨ M t p i j
  | [], i, j => by show (M t p i j ∨ False) ↔ (False ∨ M t p i j); simp
  | q :: ps, i, j => by
    show (M t q i j ∨ MOr t (ps ++ [p]) i j) ↔ (M t q i j ∨ MOr t ps i j) ∨ M t p i j
    rw [MOr_snoc t p ps i j, or_assoc]
theorem MAnd_snoc (t : List Nat) (p : Pat) : ∀ (ps : List Pat) (i j : Nat), MAnd t (ps ++ [p]) i j ↔ MAnd t ps i j ∧ M t p i j
  | [], i, j => by show (M t p i j ∧ True) ↔ (True ∧ M t p i j); simp
  | q :: ps, i, j => by
    show (M t q i j ∧ MAnd t (ps ++ [p]) i j) ↔ (M t q i j ∧ MAnd t ps i j) ∧ M t p i j
    rw [MAnd_snoc t p ps i j, and_assoc]
theorem MAnd_mem {t : List Nat} {i j : Nat} : ∀ {ps : List Pat}, MAnd t ps i j ↔ ∀ p ∈ ps, M t p i j
  | [] => by show True ↔ _; simp
  | q :: ps => by
    show (M t q i j ∧ MAnd t ps i j) ↔ _
    rw [MAnd_mem (ps := ps)]; simp
theorem MOr_mem {t : List Nat} {i j : Nat} : ∀ {ps : List Pat}, MOr t ps i j ↔ ∃ p ∈ ps, M t p i j
  | [] => by show False ↔ _; simp
  | q :: ps => by
    show (M t q i j ∨ MOr t ps i j) ↔ _
    rw [MOr_mem (ps := ps)]; simp
theorem tb_between {N p : Nat} (h : p ≤ N) (j : Nat) : (2 ^ N - 2 ^ p).testBit j = (decide (p ≤ j) && decide (j < N)) := by
  have hp : 1 ≤ 2 ^ p := Nat.one_le_two_pow
  have hN : 2 ^ p ≤ 2 ^ N := Nat.pow_le_pow_right (by omega) h
  have e : 2 ^ N - 2 ^ p = 2 ^ N - ((2 ^ p - 1) + 1) := by omega
  rw [e, Nat.testBit_two_pow_sub_succ (by omega), Nat.testBit_two_pow_sub_one, Bool.and_comm]
  congr 1
  by_cases q : j < p <;> simp [q] <;> omega
end Bo
set_option Elab.async false
set_option linter.all false
set_option maxRecDepth 100000
set_option maxHeartbeats 4000000
/-! list comprehensions that put values in a row -/
namespace Bo
open PySem PySem.Spec PyProof.Rows L2 GE
abbrev nV (x : Nat) : V := V.int (x : Int)
/-- a new list at D holds the first i of some values; what was there before H0 stays -/
def Built (H0 : Hp) (D : Addr) (vals : Nat → V) (i : Nat) (H : Hp) : Prop := Ext H0 H ∧ H D = some (.lst ((List.range i).map vals))
theorem Built.zero {H0 : Hp} {D : Addr} {vals : Nat → V} (h : H0 D = none) : Built H0 D vals 0 (upd H0 D (.lst [])) := ⟨(Ext.refl _).wr h, upd_same⟩
theorem Built.next {H0 H H4 : Hp} {D : Addr} {vals : Nat → V} {i : Nat} {y : V} (h0 : H0 D = none) (b : Built H0 D vals i H) (e : Ext H H4) (ey : y = vals i) (hi : i < sizeLine) :
    ∃ acc, H4 D = some (.lst acc) ∧ acc.length < sizeLine ∧ Built H0 D vals (i + 1) (upd H4 D (.lst (acc ++ [y]))) := by
  refine ⟨_, e.lst b.2, by simpa using hi, (b.1.trans e).wr h0, ?_⟩
  rw [upd_same, ey, List.range_succ, List.map_append]
  rfl
section
variable {K : PySem.W.Frag} {g : TG} {tt : TT} {te : TE} {vs : List Nat} {σ : L2.St} {H1 : Hp} {D : Addr} {Qd : Hp → Prop}
/-- over the signs of a text with their places -/
theorem lc_ites {x : Str} (Pv : Nat → Hp → Prop) (h0 : Pv 0 (upd H1 D (.lst [])))
    (hs : ∀ i c T H, x.cps[i]? = some c → H T = none → Pv i H → g (.ref T) (wipe σ vs) (upd H T (.tup [nV i, .str ⟨#[c]⟩])) fun σ2 H2 => wipe σ2 vs = wipe σ vs ∧ tt σ2 H2 fun b H3 =>
      if b = true then te σ2 H3 fun y H4 => ∃ acc, H4 D = some (.lst acc) ∧ acc.length < sizeLine ∧ Pv (i + 1) (upd H4 D (.lst (acc ++ [y]))) else Pv (i + 1) H3) (hd : ∀ H, Pv x.cps.size H → Qd H) :
    ∃ W : Nat → Nat → Hp → Prop, (∃ m, W 0 m (upd H1 D (.lst []))) ∧ ∀ i m H, W i m H →
      ((Ites x).stop i H ∧ Qd H) ∨ ((Ites x).go i H ∧ ∃ Nx : Hp → Prop, (∀ H', Nx H' → ∃ m', m' < m ∧ W (i + 1) m' H') ∧ ∀ v H', (Ites x).yld i H v H' → g v (wipe σ vs) H' fun σ2 H2 => wipe σ2 vs = wipe σ vs ∧ tt σ2 H2 fun b H3 =>
        if b = true then te σ2 H3 fun y H4 => ∃ acc, H4 D = some (.lst acc) ∧ acc.length < sizeLine ∧ Nx (upd H4 D (.lst (acc ++ [y]))) else Nx H3) := by
  refine ⟨fun i m H => m = x.cps.size - i ∧ i ≤ x.cps.size ∧ Pv i H, ⟨x.cps.size, by simp, Nat.zero_le _, h0⟩, ?_⟩
  rintro i m H ⟨rfl, hi, p⟩
  by_cases hlt : i < x.cps.size
  · refine .inr ⟨hlt, Pv (i + 1), fun H' p' => ⟨x.cps.size - (i + 1), by omega, rfl, hlt, p'⟩, fun v H' y => ?_⟩
    obtain ⟨T, c, rfl, hT, rfl, hc⟩ := y
    exact hs i c T H hc hT p
  · have e : i = x.cps.size := by omega
    subst e
    exact .inl ⟨rfl, hd H p⟩
/-- over a list with places -/
theorem lc_ite {a : Addr} {xs : List V} (Pv : Nat → Hp → Prop) (h0 : Pv 0 (upd H1 D (.lst []))) (hl : ∀ i H, Pv i H → SqL K H a xs)
    (hs : ∀ i x T H, xs[i]? = some x → H T = none → Pv i H → g (.ref T) (wipe σ vs) (upd H T (.tup [nV i, x])) fun σ2 H2 => wipe σ2 vs = wipe σ vs ∧ tt σ2 H2 fun b H3 =>
      if b = true then te σ2 H3 fun y H4 => ∃ acc, H4 D = some (.lst acc) ∧ acc.length < sizeLine ∧ Pv (i + 1) (upd H4 D (.lst (acc ++ [y]))) else Pv (i + 1) H3) (hd : ∀ H, Pv xs.length H → Qd H) :
    ∃ W : Nat → Nat → Hp → Prop, (∃ m, W 0 m (upd H1 D (.lst []))) ∧ ∀ i m H, W i m H →
      ((Ite K a).stop i H ∧ Qd H) ∨ ((Ite K a).go i H ∧ ∃ Nx : Hp → Prop, (∀ H', Nx H' → ∃ m', m' < m ∧ W (i + 1) m' H') ∧ ∀ v H', (Ite K a).yld i H v H' → g v (wipe σ vs) H' fun σ2 H2 => wipe σ2 vs = wipe σ vs ∧ tt σ2 H2 fun b H3 =>
        if b = true then te σ2 H3 fun y H4 => ∃ acc, H4 D = some (.lst acc) ∧ acc.length < sizeLine ∧ Nx (upd H4 D (.lst (acc ++ [y]))) else Nx H3) := by
  refine ⟨fun i m H => m = xs.length - i ∧ i ≤ xs.length ∧ Pv i H, ⟨xs.length, by simp, Nat.zero_le _, h0⟩, ?_⟩
  rintro i m H ⟨rfl, hi, p⟩
  have q := hl i H p
  by_cases hlt : i < xs.length
  · refine .inr ⟨⟨xs, xs[i], q, by simp [hlt]⟩, Pv (i + 1), fun H' p' => ⟨xs.length - (i + 1), by omega, rfl, hlt, p'⟩, fun v H' y => ?_⟩
    obtain ⟨T, x, rfl, hT, rfl, hx⟩ := y
    exact hs i x T H (hx xs q) hT p
  · have e : i = xs.length := by omega
    subst e
    exact .inl ⟨⟨xs, q, Nat.le_refl _⟩, hd H p⟩
/-- over two lists of one length -/
theorem lc_itz {a b : Addr} {xs ys : List V} (hl : xs.length = ys.length) (Pv : Nat → Hp → Prop) (h0 : Pv 0 (upd H1 D (.lst []))) (hq : ∀ i H, Pv i H → SqL K H a xs ∧ SqL K H b ys)
    (hs : ∀ i x y T H, xs[i]? = some x → ys[i]? = some y → H T = none → Pv i H → g (.ref T) (wipe σ vs) (upd H T (.tup [x, y])) fun σ2 H2 => wipe σ2 vs = wipe σ vs ∧ tt σ2 H2 fun b H3 =>
      if b = true then te σ2 H3 fun y H4 => ∃ acc, H4 D = some (.lst acc) ∧ acc.length < sizeLine ∧ Pv (i + 1) (upd H4 D (.lst (acc ++ [y]))) else Pv (i + 1) H3) (hd : ∀ H, Pv xs.length H → Qd H) :
    ∃ W : Nat → Nat → Hp → Prop, (∃ m, W 0 m (upd H1 D (.lst []))) ∧ ∀ i m H, W i m H →
      ((Itz K a b).stop i H ∧ Qd H) ∨ ((Itz K a b).go i H ∧ ∃ Nx : Hp → Prop, (∀ H', Nx H' → ∃ m', m' < m ∧ W (i + 1) m' H') ∧ ∀ v H', (Itz K a b).yld i H v H' → g v (wipe σ vs) H' fun σ2 H2 => wipe σ2 vs = wipe σ vs ∧ tt σ2 H2 fun b H3 =>
        if b = true then te σ2 H3 fun y H4 => ∃ acc, H4 D = some (.lst acc) ∧ acc.length < sizeLine ∧ Nx (upd H4 D (.lst (acc ++ [y]))) else Nx H3) := by
  refine ⟨fun i m H => m = xs.length - i ∧ i ≤ xs.length ∧ Pv i H, ⟨xs.length, by simp, Nat.zero_le _, h0⟩, ?_⟩
  rintro i m H ⟨rfl, hi, p⟩
  obtain ⟨q1, q2⟩ := hq i H p
  by_cases hlt : i < xs.length
  · have hlt2 : i < ys.length := by omega
    refine .inr ⟨⟨xs, ys, xs[i], ys[i], q1, q2, by simp [hlt], by simp [hlt2]⟩, Pv (i + 1), fun H' p' => ⟨xs.length - (i + 1), by omega, rfl, hlt, p'⟩, fun v H' y => ?_⟩
    obtain ⟨T, x, y, rfl, hT, rfl, hx, hy⟩ := y
    exact hs i x y T H (hx xs q1) (hy ys q2) hT p
  · have e : i = xs.length := by omega
    subst e
    exact .inl ⟨⟨xs, ys, q1, q2, .inl (Nat.le_refl _)⟩, hd H p⟩
end
/-- a pair just made taken apart into slots i and j -/
theorem g_pair {K : PySem.W.Frag} {i j : Nat} {T : Addr} {x y : V} {σ : L2.St} {H : Hp} {Q : L2.St → Hp → Prop} (h : H T = some (.tup [x, y])) (q : Q ((σ.set i (some x)).set j (some y)) H) :
    gTup K 2 (gCons (gName i) (gCons (gName j) gNil)) (.ref T) σ H Q := ⟨T, _, rfl, SqT.of h, rfl, x, _, rfl, y, _, rfl, rfl, q⟩
end Bo
set_option Elab.async false
set_option linter.all false
set_option maxRecDepth 100000
set_option maxHeartbeats 0
namespace Bo
open PySem PySem.Spec PyProof.Rows L2
def top (i : Nat) : Stmt := PySem.Challenge.pw_bothreed_k01_patterns.main.body.getD i (.Pass ⟨0, 0, 0, 0⟩)
abbrev sNeedLetters : Stmt := top 11
abbrev sNeedPattern : Stmt := top 13
abbrev sIsPattern : Stmt := top 14
abbrev sNodes : Stmt := top 15
abbrev sIsNode : Stmt := top 16
abbrev sIsLetter : Stmt := top 17
abbrev sPartsOf : Stmt := top 18
abbrev sFits : Stmt := top 55
abbrev sRead : Stmt := top 68
abbrev sMachineOf : Stmt := top 84
abbrev sToldAlike : Stmt := top 86
abbrev sLawCellAt : Stmt := top 90
abbrev sLawLetters : Stmt := top 91
abbrev sLawSize : Stmt := top 92
abbrev sLawStep : Stmt := top 93
abbrev sLawDrawn : Stmt := top 94
abbrev sLawKind : Stmt := top 95
abbrev sLawNoLetters : Stmt := top 96
abbrev sLawStranger : Stmt := top 97
abbrev sLawNoPattern : Stmt := top 98
abbrev sLawAbout : Stmt := top 99
abbrev sLawAsked : Stmt := top 100
abbrev sLawTold : Stmt := top 101
abbrev sLawRead : Stmt := top 102
abbrev sLawGrown : Stmt := top 103
abbrev sLaw : Stmt := top 104
def dNeedLetters : He.DefD := ⟨("need_letters", none), "need_letters", "need_letters", defArgs sNeedLetters, defBody sNeedLetters, defScope sNeedLetters, [], []⟩
def dNeedPattern : He.DefD := ⟨("need_pattern", none), "need_pattern", "need_pattern", defArgs sNeedPattern, defBody sNeedPattern, defScope sNeedPattern, [], []⟩
def dIsPattern : He.DefD := ⟨("is_pattern", none), "is_pattern", "is_pattern", defArgs sIsPattern, defBody sIsPattern, defScope sIsPattern, [], []⟩
def dNodes : He.DefD := ⟨("nodes", none), "nodes", "nodes", defArgs sNodes, defBody sNodes, defScope sNodes, [], []⟩
def dIsNode : He.DefD := ⟨("is_node", none), "is_node", "is_node", defArgs sIsNode, defBody sIsNode, defScope sIsNode, [], []⟩
def dIsLetter : He.DefD := ⟨("is_letter", none), "is_letter", "is_letter", defArgs sIsLetter, defBody sIsLetter, defScope sIsLetter, [], []⟩
def dPartsOf : He.DefD := ⟨("parts_of", none), "parts_of", "parts_of", defArgs sPartsOf, defBody sPartsOf, defScope sPartsOf, [], []⟩
def dFits : He.DefD := ⟨("fits", none), "fits", "fits", defArgs sFits, defBody sFits, defScope sFits, [], []⟩
def dRead : He.DefD := ⟨("read", none), "read", "read", defArgs sRead, defBody sRead, defScope sRead, [], []⟩
def dMachineOf : He.DefD := ⟨("machine_of", none), "machine_of", "machine_of", defArgs sMachineOf, defBody sMachineOf, defScope sMachineOf, [], []⟩
def dToldAlike : He.DefD := ⟨("told_alike", none), "told_alike", "told_alike", defArgs sToldAlike, defBody sToldAlike, defScope sToldAlike, [], []⟩
def dLawCellAt : He.DefD := ⟨("_law_cell_at", none), "_law_cell_at", "_law_cell_at", defArgs sLawCellAt, defBody sLawCellAt, defScope sLawCellAt, [], []⟩
def dLawLetters : He.DefD := ⟨("_law_letters", none), "_law_letters", "_law_letters", defArgs sLawLetters, defBody sLawLetters, defScope sLawLetters, [], []⟩
def dLawSize : He.DefD := ⟨("_law_size", none), "_law_size", "_law_size", defArgs sLawSize, defBody sLawSize, defScope sLawSize, [], []⟩
def dLawStep : He.DefD := ⟨("_law_step", none), "_law_step", "_law_step", defArgs sLawStep, defBody sLawStep, defScope sLawStep, [], []⟩
def dLawDrawn : He.DefD := ⟨("_law_drawn", none), "_law_drawn", "_law_drawn", defArgs sLawDrawn, defBody sLawDrawn, defScope sLawDrawn, [], []⟩
def dLawKind : He.DefD := ⟨("_law_kind", none), "_law_kind", "_law_kind", defArgs sLawKind, defBody sLawKind, defScope sLawKind, [], []⟩
def dLawNoLetters : He.DefD := ⟨("_law_no_letters", none), "_law_no_letters", "_law_no_letters", defArgs sLawNoLetters, defBody sLawNoLetters, defScope sLawNoLetters, [], []⟩
def dLawStranger : He.DefD := ⟨("_law_stranger", none), "_law_stranger", "_law_stranger", defArgs sLawStranger, defBody sLawStranger, defScope sLawStranger, [], []⟩
def dLawNoPattern : He.DefD := ⟨("_law_no_pattern", none), "_law_no_pattern", "_law_no_pattern", defArgs sLawNoPattern, defBody sLawNoPattern, defScope sLawNoPattern, [], []⟩
def dLawAbout : He.DefD := ⟨("_law_about", none), "_law_about", "_law_about", defArgs sLawAbout, defBody sLawAbout, defScope sLawAbout, [], []⟩
def dLawAsked : He.DefD := ⟨("_law_asked", none), "_law_asked", "_law_asked", defArgs sLawAsked, defBody sLawAsked, defScope sLawAsked, [], []⟩
def dLawTold : He.DefD := ⟨("_law_told", none), "_law_told", "_law_told", defArgs sLawTold, defBody sLawTold, defScope sLawTold, [], []⟩
def dLawRead : He.DefD := ⟨("_law_read", none), "_law_read", "_law_read", defArgs sLawRead, defBody sLawRead, defScope sLawRead, [], []⟩
def dLawGrown : He.DefD := ⟨("_law_grown", none), "_law_grown", "_law_grown", defArgs sLawGrown, defBody sLawGrown, defScope sLawGrown, [], []⟩
def dLaw : He.DefD := ⟨("law", none), "law", "law", defArgs sLaw, defBody sLaw, defScope sLaw, [], []⟩
def fn : List He.DefD := [dNeedLetters, dNeedPattern, dIsPattern, dNodes, dIsNode, dIsLetter, dPartsOf, dFits, dRead, dMachineOf, dToldAlike, dLawCellAt, dLawLetters, dLawSize, dLawStep, dLawDrawn, dLawKind, dLawNoLetters, dLawStranger, dLawNoPattern, dLawAbout, dLawAsked, dLawTold, dLawRead, dLawGrown, dLaw]
def fa : List He.Fa := [.glo "need_letters", .glo "need_pattern", .glo "is_pattern", .glo "nodes", .glo "is_node", .glo "is_letter", .glo "parts_of", .glo "fits", .glo "read", .glo "machine_of", .glo "told_alike", .glo "_law_cell_at", .glo "_law_letters", .glo "_law_size", .glo "_law_step", .glo "_law_drawn", .glo "_law_kind", .glo "_law_no_letters", .glo "_law_stranger", .glo "_law_no_pattern", .glo "_law_about", .glo "_law_asked", .glo "_law_told", .glo "_law_read", .glo "_law_grown", .glo "law", .glo "PatternError", .glo "NoLetters", .glo "NoPattern", .glo "TooGreat", .glo "NoText", .glo "NoRoom", .exc "PatternError", .exc "NoLetters", .exc "NoPattern", .exc "TooGreat", .exc "NoText", .exc "NoRoom", .free "ValueError", .free "all", .free "bool", .free "int", .free "isinstance", .free "len", .free "max", .free "min", .free "range", .free "set", .free "str", .free "sum", .free "tuple", .int "MOST_LETTERS" 4, .int "MOST_SIGNS" 200, .int "MOST_NODES" 60, .int "DEPTH" 8, .int "MOST_WRITTEN" 400, .exm "PatternError" "PatternError" true, .exm "NoLetters" "PatternError" true, .exm "NoPattern" "PatternError" true, .exm "TooGreat" "PatternError" true, .exm "NoText" "PatternError" true, .exm "NoRoom" "PatternError" true]
def tf : List He.Defn := [("need_letters", none)]
def names0 : List PySem.Str := ["need_letters", "need_text", "need_pattern", "is_pattern", "nodes", "is_node", "is_letter", "parts_of", "endings", "sign_endings", "not_endings", "many_endings", "merged", "ends_behind", "takes_empty", "covers", "covers_by_shape", "many_covers", "row_covers", "pieces_of"]
def names1 : List PySem.Str := ["normal", "negated", "either", "both", "joined", "needed", "covered", "spread", "row_of", "shortened", "takes_along", "many_of", "piece_kinds", "empty", "left_of_each", "fits", "behind", "row_behind", "denied", "together"]
def names2 : List PySem.Str := ["shown", "part_shown", "read", "written", "words", "close_level", "take_word", "least_machine", "blocks_of", "arrivals_by", "text_along", "machine_of", "told_alike", "parted", "pairs_behind", "_law_cell_at", "_law_letters", "_law_size", "_law_step", "_law_drawn"]
def names3 : List PySem.Str := ["_law_kind", "_law_no_letters", "_law_stranger", "_law_no_pattern", "_law_about", "_law_asked", "_law_told", "_law_read", "_law_grown", "PatternError", "NoLetters", "NoPattern", "TooGreat", "NoText", "NoRoom", "Level", "Leavings", "Blocks", "MOST_LETTERS", "MOST_SIGNS"]
def names4 : List PySem.Str := ["MOST_NODES", "NONE", "EMPTY", "ALL", "DEPTH", "MOST_WRITTEN", "MARKS", "BRACKETED"]
def names : List PySem.Str := names0 ++ names1 ++ names2 ++ names3 ++ names4
def cn : Nat → PySem.Str
  | 0 => "NoLetters" | 1 => "NoPattern" | 2 => "TooGreat" | 3 => "NoText" | _ => "NoRoom"
/-- isinstance may ask the instances of the class at D -/
def excB (K : PySem.W.Frag) (D : Addr) : Bool :=
  decide (PySem.W.findIn K (.ref D) "__getattribute__" = some (some (.builtin "BaseException.__getattribute__"))) && decide (PySem.W.findIn K (.ref D) "__getattr__" = some none) && decide (PySem.W.subIn K (.ref D) (.type "BaseException") = some true) && PySem.W.hasDictIn K D &&
  decide (PySem.W.findIn K (.ref D) "__class__" = some (some (.builtin "object.__class__"))) && decide (PySem.W.specialIn K (.builtin "object.__class__") "__get__" = some (some (.builtin "getset_descriptor.__get__"))) && decide (PySem.W.takesIn K (.builtin "object.__class__") = some true) && decide (PySem.W.mroIn K D (.type "object") = some true)
def ex (K : PySem.W.Frag) : Bool :=
  ((List.range 4).all fun i => excB K (He.ga K (cn i))) && ((List.range 4).all fun i => (List.range 5).all fun j => decide (PySem.W.kitOne K (.ref (He.ga K (cn i))) (.ref (He.ga K (cn j))) = some (decide (i = j)))) &&
  (List.range 4).all fun i => decide (PySem.W.kitOne K (.ref (He.ga K (cn i))) (.type "ValueError") = some true)

abbrev R : PySem.W.OpenRow := PySem.W.OpenLaw.row PySem.Challenge.rw_bothreed_k01_patterns
abbrev hk : PySem.W.Hook := He.hookX 2 fa fn [] tf ex
def ob (s : PySem.W.SharedT) : He.AlX := He.obsX 2 fa fn [] tf ex (HandSHeadRun.getT s)
theorem ob_eq (s : PySem.W.SharedT) : ob s = hk.obs s.abs := He.obsX_eq (HandSHeadRun.getT_eq s)
theorem runF (w : World) (os : PySem.OsState) : (fun w => (HandSHeadRun.endF (HandSHeadRun.stepQ (HandSHeadRun.denQ HandSHeadRun.tabQ) R.prog w) 9000 R.prog w os).map (fun s => (HandSHeadRun.looksF R.prog (PySem.W.boot_heap w.params) s.abs, HandSHeadRun.seenQ (PySem.W.view R.prog [104]) names (PySem.importedModules R.prog.main.body) (fun s => PySem.W.xlAt (PySem.W.view R.prog [104]) [] s && PySem.W.recOk R.toRowW.records s) s.abs, ob s)) = some (true, PySem.W.openGood (PySem.W.view R.prog [104]) names, hk.val w)) (w.withFollow "special-get-raises" false) := by
  kernel_rfl
theorem runT (w : World) (os : PySem.OsState) : (fun w => (HandSHeadRun.endF (HandSHeadRun.stepQ (HandSHeadRun.denQ HandSHeadRun.tabQ) R.prog w) 9000 R.prog w os).map (fun s => (HandSHeadRun.looksF R.prog (PySem.W.boot_heap w.params) s.abs, HandSHeadRun.seenQ (PySem.W.view R.prog [104]) names (PySem.importedModules R.prog.main.body) (fun s => PySem.W.xlAt (PySem.W.view R.prog [104]) [] s && PySem.W.recOk R.toRowW.records s) s.abs, ob s)) = some (true, PySem.W.openGood (PySem.W.view R.prog [104]) names, hk.val w)) (w.withFollow "special-get-raises" true) := by
  kernel_rfl
theorem run (w : World) : HandSHeadRun.RunEq R (PySem.W.view R.prog [104]) hk ob 9000 names w :=
  PySem.W.byRow2 "special-get-raises" (P := fun w => HandSHeadRun.RunEq R (PySem.W.view R.prog [104]) hk ob 9000 names w) (fun w os => runF w os) (fun w os => runT w os) w
end Bo
set_option Elab.async false
set_option linter.all false
set_option maxRecDepth 100000
set_option maxHeartbeats 4000000
namespace Bo
open PySem PySem.Spec PyProof.Rows L2 GE
/-- the text's codes -/
abbrev cds (z : Str) : List Nat := z.cps.toList
/-- an own error class -/
structure EX (K : PySem.W.Frag) (mg : Str → Option Value) (x : Str) (C : Addr) : Prop where
  g : mg x = some (.ref C)
  q : PySem.W.excIn K C He.veBase "ValueError.__new__" = true
  k : PySem.W.keepIn K (.ref C) = true
  s : PySem.W.subIn K (.ref C) (.type "BaseException") = some true
  t : PySem.W.typeIn K (.ref C) = some (.type "type")
def tys : List String := ["NoneType", "bool", "int", "str", "list", "tuple", "dict"]
/-- a value of a known kind -/
def Kn (K : PySem.W.Frag) (H : Hp) (v : V) (T : String) : Prop := TyX K H v (.type T) ∧ T ∈ tys
theorem kn_str {K : PySem.W.Frag} {T : String} (h : T ∈ tys) : PySem.W.kitOne K (.type T) (.type "str") = some (decide (T = "str")) := by
  simp only [tys, List.mem_cons, List.not_mem_nil, or_false] at h
  rcases h with rfl | rfl | rfl | rfl | rfl | rfl | rfl <;> exact kit_ty (by decide +kernel)
theorem kn_tup {K : PySem.W.Frag} {T : String} (h : T ∈ tys) : PySem.W.kitOne K (.type T) (.type "tuple") = some (decide (T = "tuple")) := by
  simp only [tys, List.mem_cons, List.not_mem_nil, or_false] at h
  rcases h with rfl | rfl | rfl | rfl | rfl | rfl | rfl <;> exact kit_ty (by decide +kernel)
def tagS : V → Value → Prop
  | .str _, t => t = .type "str"
  | _, t => t ≠ .type "str"
theorem tag_s {K : PySem.W.Frag} {H : Hp} {v : V} {t : Value} (h : TyX K H v t) : tagS v t := by
  cases h with
  | base b => cases b <;> first | exact rfl | exact fun e => (by injection e with e; exact absurd e (by decide)) | exact fun e => nomatch e
  | _ => exact fun e => (by injection e with e; exact absurd e (by decide))
theorem Kn.str {K : PySem.W.Frag} {H : Hp} {v : V} (h : Kn K H v "str") : ∃ z, v = .str z := by
  have q := tag_s h.1
  cases v <;> first | exact ⟨_, rfl⟩ | exact absurd rfl q
theorem Kn.ofStr (K : PySem.W.Frag) (H : Hp) (z : Str) : Kn K H (.str z) "str" := ⟨.base (.str z), by decide⟩
theorem Kn.notStr {K : PySem.W.Frag} {H : Hp} {v : V} {T : String} (h : Kn K H v T) (n : T ≠ "str") : ∀ z, v ≠ .str z := by
  rintro z rfl
  have q : Value.type T = .type "str" := tag_s h.1
  exact n (by injection q)
def goodS (z : Str) : Bool := decide (1 ≤ z.cps.size) && decide (z.cps.size ≤ 4) && (cds z).all (fun c => decide (97 ≤ c ∧ c ≤ 122)) && decide (unlike z z.cps.size = z.cps.size)
def goodV : V → Bool
  | .str z => goodS z
  | _ => false
theorem goodV_not {v : V} (h : ∀ z, v ≠ .str z) : goodV v = false := by
  cases v <;> first | rfl | exact absurd rfl (h _)
def spNL (K : PySem.W.Frag) (C T : Addr) : Sp := fun vs H Q E => ∃ (v : V) (Ty : String), vs = [v] ∧ Kn K H v Ty ∧ (∀ z, v = .str z → z.cps.size ≤ 100) ∧ GxR.TabG H T ∧ (goodV v = true → ∀ H', Ext H H' → Q .non H') ∧ (goodV v = false → ∀ H', Ext H H' → E (.ref C) none H')
theorem lt_sign (a b : Nat) : (!decide ([a] < [b])) = decide (b ≤ a) := by
  rw [Bool.eq_iff_iff, Bool.not_eq_true', decide_eq_false_iff_not, decide_eq_true_eq, List.cons_lt_cons_iff]
  constructor
  · intro h; apply Nat.not_lt.mp; exact fun e => h (.inl e)
  · rintro h (e | ⟨_, e⟩)
    · omega
    · exact absurd e (List.not_lt_nil _)
theorem get_all {p : Nat → Bool} {l : List Nat} {i : Nat} {c : Nat} (h : l[i]? = some c) : (l.take (i + 1)).all p = ((l.take i).all p && p c) := by
  rw [List.take_succ, List.all_append, h]; simp
theorem all_false {p : Nat → Bool} {l : List Nat} {i : Nat} {c : Nat} (h : l[i]? = some c) (hp : p c = false) : l.all p = false := by
  rw [List.all_eq_false]
  exact ⟨c, List.mem_of_getElem? h, by rw [hp]; exact Bool.false_ne_true⟩
section
variable {P : Program} {w : World} {K : PySem.W.Frag} {mg : Str → Option Value} {base : Heap}
/-- all over a text -/
theorem quant_str {stopv : Bool} {T : Addr} {x : Str} {te : TE} {σ : L2.St} {H1 : Hp} {Q : VK} (h0 : GxR.TabG H1 T) (Pv : Nat → Hp → Prop) (p0 : ∀ H, Ext H1 H → Pv 0 H)
    (hs : ∀ i c H, x.cps[i]? = some c → Pv i H → te (σ ++ [some (.str ⟨#[c]⟩)]) H fun y H3 => ∃ b, y = .bl b ∧ if b = stopv then Q (.bl stopv) H3 else Pv (i + 1) H3) (hd : ∀ H, Pv x.cps.size H → Q (.bl (!stopv)) H) :
    GxR.TabG H1 T ∧ ∀ H2, GxR.Tabbed T H1 H2 → ∃ W : Nat → Nat → Hp → Prop, (∃ m, W 0 m H2) ∧ ∀ i m H, W i m H →
      ((Its x).stop i H ∧ Q (.bl (!stopv)) H) ∨ ((Its x).go i H ∧ ∃ Nx : Hp → Prop, (∀ H', Nx H' → ∃ m', m' < m ∧ W (i + 1) m' H') ∧ ∀ v H', (Its x).yld i H v H' → te (σ ++ [some v]) H' fun y H3 => ∃ b, y = .bl b ∧ if b = stopv then Q (.bl stopv) H3 else Nx H3) := by
  refine ⟨h0, fun H2 hT => ⟨fun i m H => i ≤ x.cps.size ∧ m = x.cps.size - i ∧ Pv i H, ⟨x.cps.size, Nat.zero_le _, rfl, p0 H2 (Ext.tabbed h0 hT)⟩, ?_⟩⟩
  rintro i m H ⟨hi, rfl, p⟩
  by_cases hlt : i < x.cps.size
  · refine .inr ⟨hlt, Pv (i + 1), fun H' p' => ⟨x.cps.size - (i + 1), by omega, hlt, rfl, p'⟩, fun v H' y => ?_⟩
    obtain ⟨e, c, hc, y⟩ := y
    subst e
    subst y
    exact hs i c H' hc p
  · have e : i = x.cps.size := by omega
    subst e
    exact .inl ⟨Nat.le_refl _, hd H p⟩
theorem t_next {D : Ends} {σ : L2.St} {H : Hp} (h : D.nx σ H) : tNext D σ H := h
theorem if_notB {t : TE} {a b : TS} {D : Ends} {σ : L2.St} {H : Hp} (h : t σ H fun x H1 => ∃ c, x = .bl c ∧ if (!c) = true then a D σ H1 else b D σ H1) : tIfS (tNot (tB t)) a b D σ H := h
theorem qs_var {stopv : Bool} {T : Addr} {x : Str} {te : TE} {σ : L2.St} {H1 : Hp} {Q : VK} {j : Nat} (hj : σ[j]? = some (some (.str x))) (h0 : GxR.TabG H1 T) (Pv : Nat → Hp → Prop) (p0 : ∀ H, Ext H1 H → Pv 0 H)
    (hs : ∀ i c H, x.cps[i]? = some c → Pv i H → te (σ ++ [some (.str ⟨#[c]⟩)]) H fun y H3 => ∃ b, y = .bl b ∧ if b = stopv then Q (.bl stopv) H3 else Pv (i + 1) H3) (hd : ∀ H, Pv x.cps.size H → Q (.bl (!stopv)) H) : tQuant stopv T (iStr (tVar j)) te σ H1 Q :=
  ⟨_, hj, x, rfl, quant_str h0 Pv p0 hs hd⟩
theorem scNL : FnScope ["letters"] ["letters"] (defScope sNeedLetters) := ⟨rfl, rfl, rfl, by decide +kernel, rfl, by decide +kernel, by decide +kernel⟩
theorem nl_ok {f : Addr} {fd : FuncData} {c T C : Addr} {tk : Tok} (F : FnP K "need_letters" sNeedLetters f fd) (hc : fd.code = .ref c) (TB : GxR.TabB base mg c T) (X : EX K mg "NoLetters" C) (mi : mg "isinstance" = none) (ms : mg "str" = none) (ml : mg "len" = none) (ma : mg "all" = none) (mset : mg "set" = none) (mL : mg "MOST_LETTERS" = some (.int 4 tk)) :
    FnOk P w K mg base (L2N.CX P w) 3 f fd ["letters"] (spNL K C T) := by
  refine okC F hc scNL (fun vs H Q E h => ?_) (fun A outer s H vs Q E hr h => ?_)
  · obtain ⟨z, _, rfl, _⟩ := h
    rfl
  obtain ⟨v, Ty, rfl, hk, hz, hT, qg, qb⟩ := h
  refine ⟨_, pss_cons (ps_if (pt_not (pt_val (pe_callB call_isi rfl mi (by decide +kernel) (pa_cons (pv 0) (pa_cons (pe_bltn (v := .ty "str") (u := .type "str") rfl ms (by decide +kernel) rfl) pa_nil)))))
      (pss_one (L2N.ps_raise rfl (L2N.takes_of rfl rfl rfl rfl) (L2N.pmk_own PySem.F.excBase_ValueError X.q X.g X.k (raises_own X.s X.t) rfl))) pss_nil)
    (pss_cons (ps_if (pt_not (pt_chain op_le op_le pe_int (pe_callB call_len rfl ml PySem.boot_len (pa_cons (pv 0) pa_nil)) (pe_glob (v := .int 4) rfl mL ⟨_, rfl⟩)))
      (pss_one (L2N.ps_raise rfl (L2N.takes_of rfl rfl rfl rfl) (L2N.pmk_own PySem.F.excBase_ValueError X.q X.g X.k (raises_own X.s X.t) rfl))) pss_nil)
    (pss_cons (ps_if (pt_not (pt_val (pe_allE rfl hr rfl ma TB rfl (gsc_by (N := ["letters"]) (sc := defScope sNeedLetters) (by decide +kernel)) (pi_str (pv 0))
        (fun s H C code fp => pe_chain op_le_str op_le_str pe_str (pv 1) pe_str) (fun _ => rfl))))
      (pss_one (L2N.ps_raise rfl (L2N.takes_of rfl rfl rfl rfl) (L2N.pmk_own PySem.F.excBase_ValueError X.q X.g X.k (raises_own X.s X.t) rfl))) pss_nil)
    (pss_one (ps_if (pt_cmpR op_ne (pe_lenSetT rfl rfl ml rfl mset (pv 0)) (pe_callB call_len rfl ml PySem.boot_len (pa_cons (pv 0) pa_nil)) (nomark _))
      (pss_one (L2N.ps_raise rfl (L2N.takes_of rfl rfl rfl rfl) (L2N.pmk_own PySem.F.excBase_ValueError X.q X.g X.k (raises_own X.s X.t) rfl))) pss_nil)))), ?_⟩
  refine t_seq ⟨v, rfl, v, .ty "str", .type Ty, .type "str", _, rfl, .ty _, hk.1, kn_str hk.2, _, rfl, ?_⟩
  by_cases hs : Ty = "str"
  case neg => exact iffT (by rw [Bool.not_eq_true', decide_eq_false_iff_not]; exact hs) (qb (goodV_not (hk.notStr hs)) _ (Ext.refl _))
  subst hs
  obtain ⟨z, rfl⟩ := hk.str
  have hz := hz z rfl
  have qg : goodS z = true → ∀ H', Ext H H' → Q .non H' := qg
  have qb : goodS z = false → ∀ H', Ext H H' → E (.ref C) none H' := qb
  have ln : z.length ≤ sizeLine := Nat.le_trans hz (by decide)
  have hn : (cds z).length = z.cps.size := Array.length_toList
  refine iffF (by decide) ?_
  refine t_seq ⟨.str z, rfl, .str z, _, rfl, ⟨ln, rfl⟩, _, _, rfl, rfl, _, rfl, ?_⟩
  by_cases h1 : 1 ≤ z.cps.size
  · refine iffT (decide_eq_true (by show (1 : Int) ≤ ((z.cps.size : Nat) : Int); omega)) ⟨_, _, rfl, rfl, _, rfl, ?_⟩
    by_cases h4 : z.cps.size ≤ 4
    · refine iffF (by rw [Bool.not_eq_false', decide_eq_true_eq]; show ((z.cps.size : Nat) : Int) ≤ 4; omega) ?_
      dsimp only [tNext]
      refine t_seq ?_
      refine if_notB ?_
      refine qs_var rfl hT (fun i H' => Ext H H' ∧ ((cds z).take i).all (fun c => decide (97 ≤ c ∧ c ≤ 122)) = true) (fun H' e => ⟨e, rfl⟩) ?_ ?_
      · rintro i c H' hc ⟨e, hall⟩
        have hc' : (cds z)[i]? = some c := by rw [← hc]; exact Array.getElem?_toList
        refine ⟨_, rfl, _, _, rfl, rfl, _, rfl, ?_⟩
        rw [show (!decide ((⟨#[c]⟩ : Str).cps.toList < (Str.ofString "a").cps.toList)) = decide (97 ≤ c) from lt_sign c 97]
        by_cases ha : 97 ≤ c
        · refine iffT (decide_eq_true ha) ⟨_, _, rfl, rfl, _, rfl, ?_⟩
          rw [show (!decide ((Str.ofString "z").cps.toList < (⟨#[c]⟩ : Str).cps.toList)) = decide (c ≤ 122) from lt_sign 122 c]
          by_cases hz : c ≤ 122
          · rw [if_neg (by rw [decide_eq_true hz]; decide)]
            exact ⟨e, by rw [get_all hc', hall, decide_eq_true (And.intro ha hz)]; rfl⟩
          · rw [if_pos (decide_eq_false hz)]
            refine ⟨_, rfl, iffT rfl (qb ?_ _ e)⟩
            rw [goodS, all_false hc' (decide_eq_false (fun e => hz e.2))]; simp
        · refine iffF (decide_eq_false ha) ⟨_, rfl, ?_⟩
          rw [if_pos rfl]
          refine ⟨_, rfl, iffT rfl (qb ?_ _ e)⟩
          rw [goodS, all_false hc' (decide_eq_false (fun e => ha e.1))]; simp
      · rintro H' ⟨e, hall⟩
        rw [← hn, List.take_length] at hall
        refine ⟨_, rfl, iffF rfl ?_⟩
        refine ⟨.str z, rfl, z, rfl, hz, .str z, rfl, .str z, _, rfl, ⟨ln, rfl⟩, rfl, _, rfl, ?_⟩
        rw [dec_int]
        by_cases hu : unlike z z.cps.size = z.cps.size
        · refine iffF (by rw [hu]; simp; rfl) (qg ?_ _ e)
          rw [goodS, hall, decide_eq_true h1, decide_eq_true h4, decide_eq_true hu]; rfl
        · refine iffT (by rw [Bool.not_eq_true', beq_eq_false_iff_ne]; intro h; exact hu (Int.ofNat.inj h)) (qb ?_ _ e)
          rw [goodS, decide_eq_false hu]; simp
    · refine iffT (by rw [Bool.not_eq_true', decide_eq_false_iff_not]; show ¬ ((z.cps.size : Nat) : Int) ≤ 4; omega) ?_
      exact qb (by simp [goodS, h4]) _ (Ext.refl _)
  · refine iffF (decide_eq_false (by show ¬ (1 : Int) ≤ ((z.cps.size : Nat) : Int); omega)) ⟨_, rfl, iffT rfl ?_⟩
    exact qb (by simp [goodS, h1]) _ (Ext.refl _)
end
end Bo
set_option Elab.async false
set_option linter.all false
set_option maxRecDepth 100000
/-! list.extend(a tuple) -/
namespace GE
open PySem PySem.Spec PyProof.Rows L2 PySem.AutoSeq1
theorem list_extend_tuple (l : Addr) (items : Array Value) (n : Nat) (b : Addr) (items2 : Array Value) (n2 : Nat) (dd : Option Addr) (sl : Array (Option Value)) (hs0 : ¬(!items.isEmpty && Builtin.List.listTooLong (items.size + items2.size)) = true) (hs1 : items.size ≤ sizeLine) (hs2 : items.size + items2.size ≤ sizeLine + 1) :
    Meets (Builtin.«list.extend» ⟨[.ref l, .ref b], []⟩) (fun _ R s => s.heap.get? l = some { cls := .type "list", dict := none, data := .seq items n, slots := #[] } ∧ s.heap.get? b = some { cls := .type "tuple", dict := dd, data := .seq items2 n2, slots := sl } ∧ R (.ok (.ret Value.none)) { s with heap := s.heap.update l (Obj.mapSeq fun x => x ++ items2), toks := s.toks }) :=
  .of_wp fun prog w A R s h => by
    obtain ⟨hp, g, d, tk, os⟩ := s; obtain ⟨hl, hb, h⟩ := h; have f1 := idx_int; have f2 := AutoSeq1.sub_tuple_tuple; have f3 := AutoSeq1.sub_list_list; have f4 := AutoSeq1.sub_tuple_list; have f5 := AutoSeq1.sub_list_tuple;
    have hz' : (items ++ items2).size ≤ sizeLine + 1 := by rw [Array.size_append]; exact hs2
    wp_walk using (wpAny_updateSeq hl rfl (hz := hs1) (_hz' := hz')), AutoSeq1.wpAny_loadPart' hl, AutoSeq1.wpAny_loadPart' hb; exact ⟨_, rfl, h⟩
variable {X : Cx}
def rExtendTu : V → List V → Hp → VK → Prop := fun x vs H Q => ∃ l b xs zs, x = .ref l ∧ vs = [.ref b] ∧ H l = some (.lst xs) ∧ SqT X.K H b zs ∧ xs.length + zs.length ≤ sizeLine ∧ Q .non (upd H l (.lst (xs ++ zs)))
theorem mt_extendT : MtM X "list.extend" (rExtendTu (X := X)) := by
  intro pins s σ H x vs v us Q I rx rv h
  obtain ⟨l, b, xs, zs, rfl, rfl, hH, hB, hz, q⟩ := h
  cases rx
  obtain ⟨u, rfl, ru⟩ := rv.one
  cases ru
  obtain ⟨z, its, n, r, hl, e⟩ := I.lstM hH
  obtain ⟨its2, r2, ⟨⟨oc, od, odat, osl⟩, e2, ec, n2, ed⟩, _⟩ := I.tuple hB
  have ec : oc = .type "tuple" := ec
  have ed : odat = .seq its2.toArray n2 := ed
  subst ec
  subst ed
  have hl2 := r2.length
  have hsz : its.toArray.size + its2.toArray.size ≤ sizeLine := by rw [List.size_toArray, List.size_toArray]; omega
  have hlong : ¬ (!its.toArray.isEmpty && Builtin.List.listTooLong (its.toArray.size + its2.toArray.size)) = true := by
    rw [notLongL hsz, Bool.and_false]
    exact Bool.false_ne_true
  refine call_meets F.slot_list_extend ⟨_, e, rfl⟩ F.entry_list_extend (F.args_list_extend_2 _ _)
    (list_extend_tuple l its.toArray n b its2.toArray n2 od osl hlong (by rw [List.size_toArray]; omega) (by omega)) ⟨e, e2, ?_⟩
  refine ⟨.non, _, I.lset (its' := its ++ its2) hH e (by simp) (r.append r2) ?_, rfl, q⟩
  rw [List.length_append]
  omega
end GE
set_option Elab.async false
set_option linter.all false
set_option maxRecDepth 100000
set_option maxHeartbeats 4000000
namespace Bo
open PySem PySem.Spec PyProof.Rows L2 GE
mutual
/-- a pattern over the letters of L -/
def Pat.ok (L : Str) : Pat → Prop
  | .none => True | .empty => True
  | .sign c => c ∈ cds L
  | .row ps => 2 ≤ ps.length ∧ okL L ps
  | .or ps => 2 ≤ ps.length ∧ okL L ps
  | .and ps => 2 ≤ ps.length ∧ okL L ps
  | .many p => p.ok L | .not p => p.ok L
def okL (L : Str) : List Pat → Prop
  | [] => True
  | p :: ps => p.ok L ∧ okL L ps
end
def Pat.parts : Pat → List Pat
  | .row ps => ps | .or ps => ps | .and ps => ps
  | .many p => [p] | .not p => [p]
  | _ => []
theorem size_parts (p : Pat) : p.size = sizeL p.parts + 1 := by cases p <;> simp [Pat.size, Pat.parts, sizeL]
theorem ok_parts {L : Str} {p : Pat} (h : p.ok L) : okL L p.parts := by
  cases p with
  | none => trivial
  | empty => trivial
  | sign => trivial
  | row ps => exact h.2
  | or ps => exact h.2
  | and ps => exact h.2
  | many p => exact ⟨h, trivial⟩
  | not p => exact ⟨h, trivial⟩
theorem sizeL_append : ∀ (ps qs : List Pat), sizeL (ps ++ qs) = sizeL ps + sizeL qs
  | [], qs => by simp [sizeL]
  | p :: ps, qs => by rw [List.cons_append, sizeL, sizeL, sizeL_append ps qs]; omega
theorem okL_append {L : Str} : ∀ {ps qs : List Pat}, okL L (ps ++ qs) ↔ okL L ps ∧ okL L qs
  | [], qs => by simp [okL]
  | p :: ps, qs => by rw [List.cons_append, okL, okL, okL_append (ps := ps)]; exact ⟨fun ⟨a, b, c⟩ => ⟨⟨a, b⟩, c⟩, fun ⟨⟨a, b⟩, c⟩ => ⟨a, b, c⟩⟩
theorem len_le_sizeL : ∀ ps : List Pat, ps.length ≤ sizeL ps
  | [] => Nat.le_refl _
  | p :: ps => by have := size_pos p; have := len_le_sizeL ps; rw [List.length_cons, sizeL]; omega
theorem PatsAt.append {H : Hp} : ∀ {ps qs : List Pat} {vs us : List V}, PatsAt H ps vs → PatsAt H qs us → PatsAt H (ps ++ qs) (vs ++ us)
  | [], qs, vs, us, h, g => by rw [show vs = [] from h]; exact g
  | p :: ps, qs, vs, us, ⟨v, r, e, a, b⟩, g => by rw [e]; exact ⟨v, r ++ us, rfl, a, b.append g⟩
theorem PatsAt.cut {H : Hp} : ∀ {ps qs : List Pat} {vs : List V}, PatsAt H (ps ++ qs) vs → ∃ us ws, vs = us ++ ws ∧ PatsAt H ps us ∧ PatsAt H qs ws
  | [], qs, vs, h => ⟨[], vs, rfl, rfl, h⟩
  | p :: ps, qs, vs, ⟨v, r, e, a, b⟩ => by
    obtain ⟨us, ws, e2, c, d⟩ := PatsAt.cut (ps := ps) b
    exact ⟨v :: us, ws, by rw [e, e2]; rfl, ⟨v, us, rfl, a, c⟩, d⟩
theorem tyx_ext {K : PySem.W.Frag} {H H' : Hp} {v : V} {t : Value} (e : Ext H H') (h : TyX K H v t) : TyX K H' v t := by
  cases h with
  | base b =>
    cases b with
    | non => exact .base .non
    | bl x => exact .base (.bl x)
    | int i => exact .base (.int i)
    | str x => exact .base (.str x)
    | flt x => exact .base (.flt x)
    | lst k => exact .base (.lst (e.keep _ _ k (fun ps z => by cases z)))
    | frz k => exact .base (.frz (e.keep _ _ k (fun ps z => by cases z)))
    | tup k => exact .base (.tup (e.keep _ _ k (fun ps z => by cases z)))
    | dK k => exact .base (.dK (e.keep _ _ k (fun ps z => by cases z)))
    | dT k => exact .base (.dT (e.keep _ _ k (fun ps z => by cases z)))
    | ins k a b c d f => exact .base (.ins (e.keep _ _ k (fun ps z => by cases z)) a b c d f)
  | byt b => exact .byt b
  | set k => exact .set (e.keep _ _ k (fun ps z => by cases z))
  | kList k c => exact .kList k c
  | kTuple k c => exact .kTuple k c
  | kDict k c => exact .kDict k c
  | fTuple k => exact .fTuple (e.keep _ _ k (fun ps z => by cases z))
  | fDict k => exact .fDict (e.keep _ _ k (fun ps z => by cases z))
theorem kn_ext {K : PySem.W.Frag} {H H' : Hp} {v : V} {T : String} (e : Ext H H') (h : Kn K H v T) : Kn K H' v T := ⟨tyx_ext e h.1, h.2⟩
theorem kn_tupA {K : PySem.W.Frag} {H : Hp} {a : Addr} {xs : List V} (h : H a = some (.tup xs)) : Kn K H (.ref a) "tuple" := ⟨.base (.tup h), by decide⟩
theorem kn_lstA {K : PySem.W.Frag} {H : Hp} {a : Addr} {xs : List V} (h : H a = some (.lst xs)) : Kn K H (.ref a) "list" := ⟨.base (.lst h), by decide⟩
theorem kn_dicA {K : PySem.W.Frag} {H : Hp} {a : Addr} {xs : List (Key × V)} (h : H a = some (.dK xs)) : Kn K H (.ref a) "dict" := ⟨.base (.dK h), by decide⟩
def letB (L : Str) : V → Bool
  | .str z => match cds z with
    | [c] => decide (c ∈ cds L)
    | _ => false
  | _ => false
theorem letB_not {L : Str} {v : V} (h : ∀ z, v ≠ .str z) : letB L v = false := by
  cases v <;> first | rfl | exact absurd rfl (h _)
/-- is_node's answer by the kind and what stands behind it -/
inductive Nk (K : PySem.W.Frag) (L : Str) (H : Hp) : Str → List V → Bool → Prop
  | leaf {k : Str} {xs : List V} (m : k ∈ (["none", "empty"] : List Str)) : Nk K L H k xs xs.isEmpty
  | len {k : Str} {xs : List V} (m : k ∉ (["none", "empty"] : List Str)) (n : xs.length ≠ 1) : Nk K L H k xs false
  | sign {y : V} {T : String} (q : Kn K H y T) (z : ∀ z, y = .str z → z.cps.size ≤ 500) : Nk K L H "sign" [y] (letB L y)
  | seqO {k : Str} {y : V} {T : String} (m : k ∈ (["row", "or", "and"] : List Str)) (q : Kn K H y T) (n : T ≠ "tuple") : Nk K L H k [y] false
  | seq {k : Str} {b : Addr} {us : List V} (m : k ∈ (["row", "or", "and"] : List Str)) (hb : H b = some (.tup us)) : Nk K L H k [.ref b] (decide (2 ≤ us.length))
  | one {k : Str} {y : V} (n1 : k ∉ (["none", "empty"] : List Str)) (n2 : k ≠ "sign") (n3 : k ∉ (["row", "or", "and"] : List Str)) : Nk K L H k [y] (decide (k ∈ (["many", "not"] : List Str)))
/-- is_node's answer -/
inductive Nd (K : PySem.W.Frag) (L : Str) (H : Hp) : V → Bool → Prop
  | other {v : V} {T : String} (q : Kn K H v T) (n : T ≠ "tuple") : Nd K L H v false
  | nil {a : Addr} (h : H a = some (.tup [])) : Nd K L H (.ref a) false
  | head {a : Addr} {x : V} {xs : List V} {T : String} (h : H a = some (.tup (x :: xs))) (q : Kn K H x T) (n : T ≠ "str") : Nd K L H (.ref a) false
  | kind {a : Addr} {k : Str} {xs : List V} {b : Bool} (h : H a = some (.tup (.str k :: xs))) (n : Nk K L H k xs b) : Nd K L H (.ref a) b
/-- what parts_of tells -/
inductive Parts (H : Hp) : V → List V → Prop
  | seq {a b : Addr} {k : Str} {us : List V} (h : H a = some (.tup [.str k, .ref b])) (m : k ∈ (["row", "or", "and"] : List Str)) (hb : H b = some (.tup us)) : Parts H (.ref a) us
  | one {a : Addr} {k : Str} {u : V} (h : H a = some (.tup [.str k, u])) (m : k ∈ (["many", "not"] : List Str)) : Parts H (.ref a) [u]
  | leaf {a : Addr} {k : Str} {xs : List V} (h : H a = some (.tup (.str k :: xs))) (n1 : k ∉ (["row", "or", "and"] : List Str)) (n2 : k ∉ (["many", "not"] : List Str)) : Parts H (.ref a) []
theorem nk_ext {K : PySem.W.Frag} {L : Str} {H H' : Hp} {k : Str} {xs : List V} {b : Bool} (e : Ext H H') (h : Nk K L H k xs b) : Nk K L H' k xs b := by
  cases h with
  | leaf m => exact .leaf m
  | len m n => exact .len m n
  | sign q z => exact .sign (kn_ext e q) z
  | seqO m q n => exact .seqO m (kn_ext e q) n
  | seq m hb => exact .seq m (e.tup hb)
  | one a b c => exact .one a b c
theorem nd_ext {K : PySem.W.Frag} {L : Str} {H H' : Hp} {v : V} {b : Bool} (e : Ext H H') (h : Nd K L H v b) : Nd K L H' v b := by
  cases h with
  | other q n => exact .other (kn_ext e q) n
  | nil h => exact .nil (e.tup h)
  | head h q n => exact .head (e.tup h) (kn_ext e q) n
  | kind h n => exact .kind (e.tup h) (nk_ext e n)
theorem parts_ext {H H' : Hp} {v : V} {us : List V} (e : Ext H H') (h : Parts H v us) : Parts H' v us := by
  cases h with
  | seq h m hb => exact .seq (e.tup h) m (e.tup hb)
  | one h m => exact .one (e.tup h) m
  | leaf h a b => exact .leaf (e.tup h) a b
theorem pat_parts {H : Hp} {p : Pat} {v : V} (h : PatAt H p v) : ∃ us, Parts H v us ∧ PatsAt H p.parts us := by
  cases p with
  | none => obtain ⟨a, rfl, ha⟩ := h; exact ⟨[], .leaf ha (by decide) (by decide), rfl⟩
  | empty => obtain ⟨a, rfl, ha⟩ := h; exact ⟨[], .leaf ha (by decide) (by decide), rfl⟩
  | sign c => obtain ⟨a, rfl, ha⟩ := h; exact ⟨[], .leaf ha (by decide) (by decide), rfl⟩
  | row ps => obtain ⟨a, b, vs, rfl, ha, hb, hps⟩ := h; exact ⟨vs, .seq ha (by decide) hb, hps⟩
  | or ps => obtain ⟨a, b, vs, rfl, ha, hb, hps⟩ := h; exact ⟨vs, .seq ha (by decide) hb, hps⟩
  | and ps => obtain ⟨a, b, vs, rfl, ha, hb, hps⟩ := h; exact ⟨vs, .seq ha (by decide) hb, hps⟩
  | many p => obtain ⟨a, u, rfl, ha, hu⟩ := h; exact ⟨[u], .one ha (by decide), u, [], rfl, hu, rfl⟩
  | not p => obtain ⟨a, u, rfl, ha, hu⟩ := h; exact ⟨[u], .one ha (by decide), u, [], rfl, hu, rfl⟩
theorem nk_cast {K : PySem.W.Frag} {L : Str} {H : Hp} {k : Str} {xs : List V} {b c : Bool} (e : b = c) (h : Nk K L H k xs b) : Nk K L H k xs c := e ▸ h
theorem pat_nd {K : PySem.W.Frag} {L : Str} {H : Hp} {p : Pat} {v : V} (h : PatAt H p v) (o : p.ok L) : Nd K L H v true := by
  cases p with
  | none => obtain ⟨a, rfl, ha⟩ := h; exact .kind ha (.leaf (by decide))
  | empty => obtain ⟨a, rfl, ha⟩ := h; exact .kind ha (.leaf (by decide))
  | sign c =>
    obtain ⟨a, rfl, ha⟩ := h
    exact .kind ha (nk_cast (decide_eq_true (show c ∈ cds L from o)) (.sign (Kn.ofStr _ _ _) (fun z e => by cases e; exact (show 1 ≤ 500 by decide))))
  | row ps => obtain ⟨a, b, vs, rfl, ha, hb, hps⟩ := h; exact .kind ha (nk_cast (decide_eq_true (by rw [hps.len]; exact o.1)) (.seq (by decide) hb))
  | or ps => obtain ⟨a, b, vs, rfl, ha, hb, hps⟩ := h; exact .kind ha (nk_cast (decide_eq_true (by rw [hps.len]; exact o.1)) (.seq (by decide) hb))
  | and ps => obtain ⟨a, b, vs, rfl, ha, hb, hps⟩ := h; exact .kind ha (nk_cast (decide_eq_true (by rw [hps.len]; exact o.1)) (.seq (by decide) hb))
  | many p => obtain ⟨a, u, rfl, ha, hu⟩ := h; exact .kind ha (nk_cast (by decide) (.one (by decide) (by decide) (by decide)))
  | not p => obtain ⟨a, u, rfl, ha, hu⟩ := h; exact .kind ha (nk_cast (by decide) (.one (by decide) (by decide) (by decide)))
def spIL (K : PySem.W.Frag) : Sp := fun vs H Q _ => ∃ (L : Str) (v : V) (T : String), vs = [.str L, v] ∧ Kn K H v T ∧ (∀ z, v = .str z → z.cps.size ≤ 500) ∧ Q (.bl (letB L v)) H
def spPO (K : PySem.W.Frag) : Sp := fun vs H Q _ => ∃ (v : V) (us : List V), vs = [v] ∧ Parts H v us ∧ ∀ b H', Ext H H' → SqT K H' b us → Q (.ref b) H'
def spIN (K : PySem.W.Frag) : Sp := fun vs H Q _ => ∃ (L : Str) (v : V) (b : Bool), vs = [.str L, v] ∧ Nd K L H v b ∧ ∀ H', Ext H H' → Q (.bl b) H'
section
variable {P : Program} {w : World} {K : PySem.W.Frag} {mg : Str → Option Value} {base : Heap}
theorem scIL : FnScope ["letters", "thing"] ["letters", "thing"] (defScope sIsLetter) := ⟨rfl, rfl, rfl, by decide +kernel, rfl, by decide +kernel, by decide +kernel⟩
theorem scPO : FnScope ["pattern"] ["pattern"] (defScope sPartsOf) := ⟨rfl, rfl, rfl, by decide +kernel, rfl, by decide +kernel, by decide +kernel⟩
theorem scIN : FnScope ["letters", "thing"] ["letters", "thing"] (defScope sIsNode) := ⟨rfl, rfl, rfl, by decide +kernel, rfl, by decide +kernel, by decide +kernel⟩
theorem il_ok {f : Addr} {fd : FuncData} (F : FnP K "is_letter" sIsLetter f fd) (mi : mg "isinstance" = none) (ms : mg "str" = none) (ml : mg "len" = none) : FnOk P w K mg base CX0 1 f fd ["letters", "thing"] (spIL K) := by
  refine okD F scIL (fun vs H Q E h => ?_) (fun cdv A outer s H vs Q E hr h => ?_)
  · obtain ⟨L, c, T, rfl, _⟩ := h
    rfl
  obtain ⟨L, v, T, rfl, hk, hz, q⟩ := h
  refine ⟨_, pss_one (ps_ret (pe_and (pe_callB call_isi rfl mi (by decide +kernel) (pa_cons (pv 1) (pa_cons (pe_bltn (v := .ty "str") (u := .type "str") rfl ms (by decide +kernel) rfl) pa_nil)))
    (pe_and (pe_cmpR op_eq (pe_callB call_len rfl ml PySem.boot_len (pa_cons (pv 1) pa_nil)) pe_int (nomark _)) (pe_one (pe_cmpR op_in_sign (pv 1) (pv 0) (by rfl)))))), ?_⟩
  refine ⟨_, rfl, v, .ty "str", .type T, .type "str", _, rfl, .ty _, hk.1, kn_str hk.2, _, rfl, ?_⟩
  by_cases hs : T = "str"
  · subst hs
    obtain ⟨z, rfl⟩ := hk.str
    refine iffT (by decide) ?_
    refine ⟨_, rfl, .str z, z.length, rfl, ⟨Nat.le_trans (hz z rfl) (by decide), rfl⟩, rfl, _, rfl, ?_⟩
    have hl : (cds z).length = z.length := Array.length_toList
    rw [dec_int]
    by_cases h1 : z.length = 1
    · rw [show (((z.length : Nat) : Int) == 1) = true by rw [h1]; rfl]
      refine iffT rfl ?_
      obtain ⟨c, hc⟩ : ∃ c, cds z = [c] := List.length_eq_one_iff.mp (by omega)
      obtain ⟨⟨cs⟩⟩ := z
      have hc : cs = [c] := hc
      subst hc
      exact ⟨_, rfl, _, rfl, c, L, rfl, rfl, q⟩
    · rw [show (((z.length : Nat) : Int) == 1) = false from beq_eq_false_iff_ne.mpr (by omega)]
      refine iffF rfl ?_
      have e : letB L (.str z) = false := by
        show (match cds z with | [c] => decide (c ∈ cds L) | _ => false) = false
        split
        · rename_i c hc
          rw [hc] at hl
          exact absurd hl.symm h1
        · rfl
      rw [e] at q
      exact q
  · rw [show decide (T = "str") = false from decide_eq_false hs]
    refine iffF rfl ?_
    rw [letB_not (hk.notStr hs)] at q
    exact q
theorem po_ok {f : Addr} {fd : FuncData} (F : FnP K "parts_of" sPartsOf f fd) : FnOk P w K mg base CX0 1 f fd ["pattern"] (spPO K) := by
  refine okD F scPO (fun vs H Q E h => ?_) (fun cdv A outer s H vs Q E hr h => ?_)
  · obtain ⟨v, us, rfl, _⟩ := h
    rfl
  obtain ⟨v, us, rfl, hp, q⟩ := h
  refine ⟨_, pss_cons (ps_if (pt_cmpR op_in_seq (pe_ix ix_tup (pv 0) pe_int (fun _ _ => rfl)) (pe_tup (pa_cons pe_str (pa_cons pe_str (pa_cons pe_str pa_nil)))) (by rfl))
      (pss_one (ps_ret (pe_ix ix_tup (pv 0) pe_int (fun _ _ => rfl)))) pss_nil)
    (pss_cons (ps_if (pt_cmpR op_in_seq (pe_ix ix_tup (pv 0) pe_int (fun _ _ => rfl)) (pe_tup (pa_cons pe_str (pa_cons pe_str pa_nil))) (by rfl))
      (pss_one (ps_ret (pe_tup (pa_cons (pe_ix ix_tup (pv 0) pe_int (fun _ _ => rfl)) pa_nil)))) pss_nil)
    (pss_one (ps_ret (pe_tup pa_nil)))), ?_⟩
  cases hp with
  | @leaf a k xs ha n1 n2 =>
    refine t_seq (if_inF ["row", "or", "and"] rfl ha n1 fun p1 np => t_seq (if_inF ["many", "not"] rfl ((Ext.new np).tup ha) n2 fun p2 np2 => ?_))
    exact ⟨Nat.zero_le _, fun p3 np3 => q p3 _ ((Ext.new np).trans ((Ext.new np2).trans (Ext.new np3))) (SqT.of upd_same)⟩
  | @seq a b k us ha n1 hb =>
    refine t_seq (if_inT ["row", "or", "and"] rfl ha n1 fun p1 np => ?_)
    refine r_ix 1 rfl ((Ext.new np).tup ha) rfl ?_
    exact q b _ (Ext.new np) (SqT.of ((Ext.new np).tup hb))
  | @one a k u ha n2 =>
    have n1 : k ∉ (["row", "or", "and"] : List Str) := by
      simp only [List.mem_cons, List.not_mem_nil, or_false] at n2
      rcases n2 with rfl | rfl <;> decide
    refine t_seq (if_inF ["row", "or", "and"] rfl ha n1 fun p1 np => t_seq (if_inT ["many", "not"] rfl ((Ext.new np).tup ha) n2 fun p2 np2 => ?_))
    have e2 := (Ext.new (o := .tup ((["row", "or", "and"] : List Str).map V.str)) np).trans (Ext.new (o := .tup ((["many", "not"] : List Str).map V.str)) np2)
    exact r_ix 1 rfl (e2.tup ha) rfl ⟨by show 1 ≤ sizeLine; decide, fun p3 np3 => q p3 _ (e2.trans (Ext.new np3)) (SqT.of upd_same)⟩
theorem in_ok {f g : Addr} {fd gd : FuncData} (F : FnP K "is_node" sIsNode f fd) (G : FnOk P w K mg base CX0 1 g gd ["letters", "thing"] (spIL K)) (bG : Binds K gd ["letters", "thing"] []) (kG : PySem.W.keepIn K (.ref g) = true) (mG : mg "is_letter" = some (.ref g))
    (mi : mg "isinstance" = none) (ms : mg "str" = none) (mt : mg "tuple" = none) (ml : mg "len" = none) : FnOk P w K mg base CX0 2 f fd ["letters", "thing"] (spIN K) := by
  refine okD F scIN (fun vs H Q E h => ?_) (fun cdv A outer s H vs Q E hr h => ?_)
  · obtain ⟨L, v, b, rfl, _⟩ := h
    rfl
  obtain ⟨L, v, bb, rfl, h, q⟩ := h
  have ln1 : 1 ≤ sizeLine := by decide
  have isiT : ∀ (a : Addr) (xs : List V) (H' : Hp), H' a = some (.tup xs) → TyX K H' (.ref a) (.type "tuple") := fun a xs H' h => .base (.tup h)
  refine ⟨_, pss_cons (ps_if (PW.pt (pw_or (pt_not (pt_val (pe_callB call_isi rfl mi (by decide +kernel) (pa_cons (pv 1) (pa_cons (pe_bltn (v := .ty "tuple") (u := .type "tuple") rfl mt (by decide +kernel) rfl) pa_nil)))))
      (pw_or (pt_cmpR op_eq (pe_callB call_len rfl ml PySem.boot_len (pa_cons (pv 1) pa_nil)) pe_int (nomark _))
      (pw_or1 (pt_not (pt_val (pe_callB call_isi rfl mi (by decide +kernel) (pa_cons (pe_ix ix_tup (pv 1) pe_int (fun _ _ => rfl)) (pa_cons (pe_bltn (v := .ty "str") (u := .type "str") rfl ms (by decide +kernel) rfl) pa_nil))))))))) (pss_one (ps_ret pe_bl)) pss_nil)
    (pss_cons (ps_if (pt_cmpR op_in_seq (pe_ix ix_tup (pv 1) pe_int (fun _ _ => rfl)) (pe_tup (pa_cons pe_str (pa_cons pe_str pa_nil))) (by rfl))
      (pss_one (ps_ret (pe_cmpR op_eq (pe_callB call_len rfl ml PySem.boot_len (pa_cons (pv 1) pa_nil)) pe_int (nomark _)))) pss_nil)
    (pss_cons (ps_if (pt_cmpR op_ne (pe_callB call_len rfl ml PySem.boot_len (pa_cons (pv 1) pa_nil)) pe_int (nomark _)) (pss_one (ps_ret pe_bl)) pss_nil)
    (pss_cons (ps_if (pt_cmpR op_eq (pe_ix ix_tup (pv 1) pe_int (fun _ _ => rfl)) pe_str (nomark _))
      (pss_one (ps_ret (pe_call G hr rfl mG kG bG .nil pass0 (pa_cons (pv 0) (pa_cons (pe_ix ix_tup (pv 1) pe_int (fun _ _ => rfl)) pa_nil))))) pss_nil)
    (pss_cons (ps_if (pt_cmpR op_in_seq (pe_ix ix_tup (pv 1) pe_int (fun _ _ => rfl)) (pe_tup (pa_cons pe_str (pa_cons pe_str (pa_cons pe_str pa_nil)))) (by rfl))
      (pss_one (ps_ret (pe_and (pe_callB call_isi rfl mi (by decide +kernel) (pa_cons (pe_ix ix_tup (pv 1) pe_int (fun _ _ => rfl)) (pa_cons (pe_bltn (v := .ty "tuple") (u := .type "tuple") rfl mt (by decide +kernel) rfl) pa_nil)))
        (pe_one (pe_cmpR op_ge (pe_callB call_len rfl ml PySem.boot_len (pa_cons (pe_ix ix_tup (pv 1) pe_int (fun _ _ => rfl)) pa_nil)) pe_int (nomark _)))))) pss_nil)
    (pss_one (ps_ret (pe_cmpR op_in_seq (pe_ix ix_tup (pv 1) pe_int (fun _ _ => rfl)) (pe_tup (pa_cons pe_str (pa_cons pe_str pa_nil))) (by rfl)))))))), ?_⟩
  have le500 : ∀ n : Nat, n ≤ 500 → n ≤ sizeLine := fun n h => Nat.le_trans h (by decide)
  cases h with
  | @other v T qk n => exact t_seq ⟨v, rfl, v, .ty "tuple", .type T, .type "tuple", _, rfl, .ty _, qk.1, kn_tup qk.2, _, rfl, iffT (by rw [Bool.not_eq_true', decide_eq_false_iff_not]; exact n) (q _ (Ext.refl _))⟩
  | @nil a ha =>
    refine t_seq ⟨_, rfl, _, .ty "tuple", .type "tuple", .type "tuple", _, rfl, .ty _, isiT a _ H ha, kn_tup (by decide), _, rfl, iffF (by decide) ?_⟩
    exact ⟨_, rfl, .ref a, _, rfl, .inr ⟨_, SqT.of ha, rfl⟩, rfl, _, rfl, iffT (by decide) (q _ (Ext.refl _))⟩
  | @head a x xs T ha qk n =>
    refine t_seq ⟨_, rfl, _, .ty "tuple", .type "tuple", .type "tuple", _, rfl, .ty _, isiT a _ H ha, kn_tup (by decide), _, rfl, iffF (by decide) ?_⟩
    refine ⟨_, rfl, .ref a, _, rfl, .inr ⟨_, SqT.of ha, rfl⟩, rfl, _, rfl, iffF ?_ ?_⟩
    · rw [dec_int, List.length_cons, beq_eq_false_iff_ne]
      omega
    exact r_ix 0 rfl ha rfl ⟨x, .ty "str", .type T, .type "str", _, rfl, .ty _, qk.1, kn_str qk.2, _, rfl, iffT (by rw [Bool.not_eq_true', decide_eq_false_iff_not]; exact n) (q _ (Ext.refl _))⟩
  | @kind a k xs b ha nk =>
    refine t_seq ⟨_, rfl, _, .ty "tuple", .type "tuple", .type "tuple", _, rfl, .ty _, isiT a _ H ha, kn_tup (by decide), _, rfl, iffF (by decide) ?_⟩
    refine ⟨_, rfl, .ref a, _, rfl, .inr ⟨_, SqT.of ha, rfl⟩, rfl, _, rfl, iffF ?_ ?_⟩
    · rw [dec_int, List.length_cons, beq_eq_false_iff_ne]
      omega
    refine r_ix 0 rfl ha rfl ⟨_, .ty "str", .type "str", .type "str", _, rfl, .ty _, .base (.str _), kn_str (by decide), _, rfl, iffF (by decide) ?_⟩
    dsimp only [tNext]
    have len2 : ∀ (H' : Hp) (ys : List V), H' a = some (.tup ys) → ys.length = 2 → ∀ {t u : TS} {D : Ends}, u D [some (.str L), some (.ref a)] H' → tIfS (tTest (tOp rNe (tCB (fun xs H Q => ∃ x n, xs = [x] ∧ LenV K x H n ∧ Q (.int n) H) (tCons (tVar 1) tNil)) (tC (.int 2)))) t u D [some (.str L), some (.ref a)] H' := by
      intro H' ys hy hl t u D hu
      refine ⟨_, rfl, .ref a, _, rfl, .inr ⟨_, SqT.of hy, rfl⟩, rfl, _, rfl, iffF ?_ hu⟩
      rw [hl]; rfl
    cases nk with
    | leaf m =>
      refine t_seq (if_inT ["none", "empty"] rfl ha m fun p1 np => ⟨_, rfl, .ref a, _, rfl, .inr ⟨_, SqT.of ((Ext.new np).tup ha), rfl⟩, rfl, ?_⟩)
      have e : decide (V.int (((V.str k :: xs).length : Nat) : Int) = V.int 1) = xs.isEmpty := by
        rw [dec_int]
        cases xs with
        | nil => rfl
        | cons y ys => 
          rw [List.length_cons, List.length_cons]
          exact beq_eq_false_iff_ne.mpr (by omega)
      rw [e]
      exact q _ (Ext.new np)
    | len m n =>
      refine t_seq (if_inF ["none", "empty"] rfl ha m fun p1 np => t_seq ⟨_, rfl, .ref a, _, rfl, .inr ⟨_, SqT.of ((Ext.new np).tup ha), rfl⟩, rfl, _, rfl, iffT ?_ (q _ (Ext.new np))⟩)
      rw [Bool.not_eq_true', dec_int, List.length_cons, beq_eq_false_iff_ne]
      omega
    | @sign y T qk hz =>
      refine t_seq (if_inF ["none", "empty"] rfl ha (by decide) fun p1 np => t_seq (len2 _ _ ((Ext.new np).tup ha) rfl ?_))
      refine t_seq (if_kT rfl ((Ext.new np).tup ha) ?_)
      exact ⟨_, rfl, r_ix 1 rfl ((Ext.new np).tup ha) rfl ⟨L, y, T, rfl, kn_ext (Ext.new np) qk, hz, q _ (Ext.new np)⟩⟩
    | @seqO k y T m qk n =>
      have n12 : k ∉ (["none", "empty"] : List Str) ∧ k ≠ "sign" := by
        simp only [List.mem_cons, List.not_mem_nil, or_false] at m
        rcases m with rfl | rfl | rfl <;> decide
      refine t_seq (if_inF ["none", "empty"] rfl ha n12.1 fun p1 np => t_seq (len2 _ _ ((Ext.new np).tup ha) rfl ?_))
      refine t_seq (if_kF rfl ((Ext.new np).tup ha) n12.2 (t_seq (if_inT ["row", "or", "and"] rfl ((Ext.new np).tup ha) m fun p2 np2 => ?_)))
      have e2 := (Ext.new (o := .tup ((["none", "empty"] : List Str).map V.str)) np).trans (Ext.new (o := .tup ((["row", "or", "and"] : List Str).map V.str)) np2)
      refine r_ix 1 rfl (e2.tup ha) rfl ⟨y, .ty "tuple", .type T, .type "tuple", _, rfl, .ty _, (kn_ext e2 qk).1, kn_tup qk.2, _, rfl, ?_⟩
      rw [show decide (T = "tuple") = false from decide_eq_false n]
      exact iffF rfl (q _ e2)
    | @seq k b us m hb =>
      have n12 : k ∉ (["none", "empty"] : List Str) ∧ k ≠ "sign" := by
        simp only [List.mem_cons, List.not_mem_nil, or_false] at m
        rcases m with rfl | rfl | rfl <;> decide
      refine t_seq (if_inF ["none", "empty"] rfl ha n12.1 fun p1 np => t_seq (len2 _ _ ((Ext.new np).tup ha) rfl ?_))
      refine t_seq (if_kF rfl ((Ext.new np).tup ha) n12.2 (t_seq (if_inT ["row", "or", "and"] rfl ((Ext.new np).tup ha) m fun p2 np2 => ?_)))
      have e2 := (Ext.new (o := .tup ((["none", "empty"] : List Str).map V.str)) np).trans (Ext.new (o := .tup ((["row", "or", "and"] : List Str).map V.str)) np2)
      refine r_ix 1 rfl (e2.tup ha) rfl ⟨_, .ty "tuple", .type "tuple", .type "tuple", _, rfl, .ty _, isiT b _ _ (e2.tup hb), kn_tup (by decide), _, rfl, iffT (by decide) ?_⟩
      refine r_ix 1 rfl (e2.tup ha) rfl ⟨.ref b, _, rfl, .inr ⟨_, SqT.of (e2.tup hb), rfl⟩, _, _, rfl, rfl, ?_⟩
      have e : decide ((2 : Int) ≤ (us.length : Int)) = decide (2 ≤ us.length) := by
        rw [Bool.eq_iff_iff, decide_eq_true_eq, decide_eq_true_eq]; omega
      show Q (.bl (decide ((2 : Int) ≤ (us.length : Int)))) _
      rw [e]
      exact q _ e2
    | @one k y n1 n2 n3 =>
      refine t_seq (if_inF ["none", "empty"] rfl ha n1 fun p1 np => t_seq (len2 _ _ ((Ext.new np).tup ha) rfl ?_))
      refine t_seq (if_kF rfl ((Ext.new np).tup ha) n2 (t_seq (if_inF ["row", "or", "and"] rfl ((Ext.new np).tup ha) n3 fun p2 np2 => ?_)))
      have e2 := (Ext.new (o := .tup ((["none", "empty"] : List Str).map V.str)) np).trans (Ext.new (o := .tup ((["row", "or", "and"] : List Str).map V.str)) np2)
      exact r_in ["many", "not"] rfl (e2.tup ha) (by decide) fun p3 np3 => q _ (e2.trans (Ext.new np3))
end
end Bo
set_option Elab.async false
set_option linter.all false
set_option maxRecDepth 100000
set_option maxHeartbeats 4000000
namespace Bo
open PySem PySem.Spec PyProof.Rows L2 GE
/-- a thing that is no pattern: going through it from behind, is_pattern meets what is no node after so many turns at most -/
inductive Bd (K : PySem.W.Frag) (L : Str) (H : Hp) : V → Nat → Prop
  | leaf {v : V} (h : Nd K L H v false) : Bd K L H v 1
  | node {v : V} {us pre post : List V} {u : V} {ps : List Pat} {n : Nat} (h : Nd K L H v true) (hp : Parts H v us) (e : us = pre ++ u :: post) (hu : Bd K L H u n) (hs : PatsAt H ps post) (ho : okL L ps) : Bd K L H v (pre.length + n + sizeL ps + 1)
theorem bd_ext {K : PySem.W.Frag} {L : Str} {H H' : Hp} {v : V} {n : Nat} (e : Ext H H') (h : Bd K L H v n) : Bd K L H' v n := by
  induction h with
  | leaf h => exact .leaf (nd_ext e h)
  | node h hp e1 hu hs ho ih => exact .node (nd_ext e h) (parts_ext e hp) e1 ih (PatsAt.ext e _ _ hs) ho
theorem bd_pos {K : PySem.W.Frag} {L : Str} {H : Hp} {v : V} {n : Nat} (h : Bd K L H v n) : 1 ≤ n := by cases h <;> omega
def spIP (K : PySem.W.Frag) : Sp := fun vs H Q _ => ∃ (L : Str) (v : V), vs = [.str L, v] ∧ ((∃ p : Pat, PatAt H p v ∧ p.ok L ∧ p.size ≤ 500 ∧ ∀ H', Ext H H' → Q (.bl true) H') ∨ ∃ n, Bd K L H v n ∧ n ≤ 500 ∧ ∀ H', Ext H H' → Q (.bl false) H')
def spNo : Sp := fun vs H Q _ => ∃ (v : V) (p : Pat), vs = [v] ∧ PatAt H p v ∧ p.size ≤ 500 ∧ ∀ H', Ext H H' → Q (nV p.size) H'
section
variable {P : Program} {w : World} {K : PySem.W.Frag} {mg : Str → Option Value} {base : Heap}
theorem scIP : FnScope ["letters", "thing", "waiting", "node"] ["letters", "thing"] (defScope sIsPattern) := ⟨rfl, rfl, rfl, by decide +kernel, rfl, by decide +kernel, by decide +kernel⟩
theorem scNo : FnScope ["pattern", "count", "waiting"] ["pattern"] (defScope sNodes) := ⟨rfl, rfl, rfl, by decide +kernel, rfl, by decide +kernel, by decide +kernel⟩
theorem r_pop {σ : L2.St} {H : Hp} {l : Addr} {us : List V} {y : V} {i : Nat} {Q : VK} (h0 : σ[i]? = some (some (.ref l))) (hl : H l = some (.lst (us ++ [y]))) (q : Q y (upd H l (.lst us))) : tBM0 K "list" rPop (tVar i) σ H Q :=
  ⟨_, h0, .inl ⟨rfl, _, SqL.of hl⟩, l, _, y, rfl, rfl, hl, by simp, by rw [List.dropLast_concat]; exact q⟩
theorem cut_last {H : Hp} {ps : List Pat} {p : Pat} {vs : List V} (h : PatsAt H (ps ++ [p]) vs) : ∃ us y, vs = us ++ [y] ∧ PatsAt H ps us ∧ PatAt H p y := by
  obtain ⟨us, ws, rfl, a, b⟩ := PatsAt.cut h
  obtain ⟨y, r, rfl, hy, hr⟩ := b
  rw [show r = [] from hr]
  exact ⟨us, y, rfl, a, hy⟩
theorem sizeL_one (p : Pat) : sizeL [p] = p.size := by simp [sizeL]
/-- what is_pattern may still meet: patterns alone, or one that is none and patterns behind it; so many turns at most -/
def Left (K : PySem.W.Frag) (L : Str) (H : Hp) (bad : Bool) (vs : List V) (m : Nat) : Prop := if bad = true then ∃ pre u post ps n, vs = pre ++ u :: post ∧ Bd K L H u n ∧ PatsAt H ps post ∧ okL L ps ∧ pre.length + n + sizeL ps = m
  else ∃ ps, PatsAt H ps vs ∧ okL L ps ∧ sizeL ps = m
theorem left_len {K : PySem.W.Frag} {L : Str} {H : Hp} {bad : Bool} {vs : List V} {m : Nat} (h : Left K L H bad vs m) : vs.length ≤ m := by
  unfold Left at h
  cases bad with
  | true =>
    rw [if_pos rfl] at h
    obtain ⟨pre, u, post, ps, n, rfl, hb, hp, ho, rfl⟩ := h
    have := bd_pos hb
    have := hp.len
    have := len_le_sizeL ps
    rw [List.length_append, List.length_cons]
    omega
  | false =>
    rw [if_neg (by decide)] at h
    obtain ⟨ps, hp, ho, rfl⟩ := h
    rw [hp.len]
    exact len_le_sizeL ps
theorem left_nil {K : PySem.W.Frag} {L : Str} {H : Hp} {bad : Bool} {m : Nat} (h : Left K L H bad [] m) : bad = false := by
  cases bad with
  | false => rfl
  | true =>
    unfold Left at h
    rw [if_pos rfl] at h
    obtain ⟨pre, u, post, ps, n, e, _⟩ := h
    exact absurd e.symm (by simp)
/-- one turn -/
theorem left_pop {K : PySem.W.Frag} {L : Str} {H : Hp} {bad : Bool} {vs : List V} {y : V} {m : Nat} (h : Left K L H bad (vs ++ [y]) m) :
    (bad = true ∧ Nd K L H y false) ∨ (Nd K L H y true ∧ ∃ us, Parts H y us ∧ ∃ m', m' < m ∧ Left K L H bad (vs ++ us) m') := by
  unfold Left at h
  cases bad with
  | true =>
    rw [if_pos rfl] at h
    obtain ⟨pre, u, post, ps, n, e, hb, hp, ho, rfl⟩ := h
    rcases List.eq_nil_or_concat ps with rfl | ⟨ps, r, rfl⟩
    · have e2 : post = [] := hp
      subst e2
      obtain ⟨rfl, e3⟩ := List.append_inj' e rfl
      cases e3
      cases hb with
      | leaf h => exact .inl ⟨rfl, h⟩
      | @node _ us pre' post' u' ps' n' h hp' e1 hu hs ho' =>
        refine .inr ⟨h, us, hp', vs.length + pre'.length + n' + sizeL ps', by simp [sizeL]; omega, ?_⟩
        unfold Left
        rw [if_pos rfl]
        refine ⟨vs ++ pre', u', post', ps', n', by rw [e1, List.append_assoc], hu, hs, ho', by rw [List.length_append]⟩
    · rw [List.concat_eq_append] at hp ho ⊢
      obtain ⟨us, y', rfl, hus, hy⟩ := cut_last hp
      have e2 : vs ++ [y] = (pre ++ u :: us) ++ [y'] := by rw [e]; simp
      obtain ⟨rfl, e3⟩ := List.append_inj' e2 rfl
      cases e3
      obtain ⟨hk1, hk2, _⟩ := okL_append.mp ho
      obtain ⟨zs, hz, hzp⟩ := pat_parts hy
      refine .inr ⟨pat_nd hy hk2, zs, hz, pre.length + n + sizeL (ps ++ r.parts), ?_, ?_⟩
      · rw [sizeL_append, sizeL_append, sizeL_one, size_parts r]; omega
      · unfold Left
        rw [if_pos rfl]
        exact ⟨pre, u, us ++ zs, ps ++ r.parts, n, by simp, hb, hus.append hzp, okL_append.mpr ⟨hk1, ok_parts hk2⟩, rfl⟩
  | false =>
    rw [if_neg (by decide)] at h
    obtain ⟨ps, hp, ho, rfl⟩ := h
    rcases List.eq_nil_or_concat ps with rfl | ⟨ps, r, rfl⟩
    · exact absurd (show vs ++ [y] = [] from hp) (by simp)
    · rw [List.concat_eq_append] at hp ho ⊢
      obtain ⟨us, y', e2, hus, hy⟩ := cut_last hp
      obtain ⟨rfl, e3⟩ := List.append_inj' e2 rfl
      cases e3
      obtain ⟨hk1, hk2, _⟩ := okL_append.mp ho
      obtain ⟨zs, hz, hzp⟩ := pat_parts hy
      refine .inr ⟨pat_nd hy hk2, zs, hz, sizeL (ps ++ r.parts), ?_, ?_⟩
      · rw [sizeL_append, sizeL_append, sizeL_one, size_parts r]; omega
      · unfold Left
        rw [if_neg (by decide)]
        exact ⟨ps ++ r.parts, hus.append hzp, okL_append.mpr ⟨hk1, ok_parts hk2⟩, rfl⟩
theorem ip_ok {f g k : Addr} {fd gd kd : FuncData} (F : FnP K "is_pattern" sIsPattern f fd) (G : FnOk P w K mg base CX0 2 g gd ["letters", "thing"] (spIN K)) (bG : Binds K gd ["letters", "thing"] []) (kG : PySem.W.keepIn K (.ref g) = true) (mG : mg "is_node" = some (.ref g))
    (J : FnOk P w K mg base CX0 1 k kd ["pattern"] (spPO K)) (bJ : Binds K kd ["pattern"] []) (kJ : PySem.W.keepIn K (.ref k) = true) (mJ : mg "parts_of" = some (.ref k)) : FnOk P w K mg base CX0 3 f fd ["letters", "thing"] (spIP K) := by
  refine okD F scIP (fun vs H Q E h => ?_) (fun cdv A outer s H vs Q E hr h => ?_)
  · obtain ⟨L, v, rfl, _⟩ := h
    rfl
  obtain ⟨L, v, rfl, h⟩ := h
  obtain ⟨bad, m0, hl0, hm0, q⟩ : ∃ bad m, Left K L H bad [v] m ∧ m ≤ 500 ∧ ∀ H', Ext H H' → Q (.bl (!bad)) H' := by
    rcases h with ⟨p, hp, hok, hs, q⟩ | ⟨n, hb, hn, q⟩
    · refine ⟨false, p.size, ?_, hs, q⟩
      unfold Left
      rw [if_neg (by decide)]
      exact ⟨[p], ⟨v, [], rfl, hp, rfl⟩, ⟨hok, trivial⟩, sizeL_one p⟩
    · refine ⟨true, n, ?_, hn, q⟩
      unfold Left
      rw [if_pos rfl]
      exact ⟨[], v, [], [], n, rfl, hb, rfl, trivial, by simp [sizeL]⟩
  refine ⟨_, pss_cons (ps_set (i := 2) scIP.nd rfl (Or.inl rfl) (pe_lst (pa_cons (pv 1) pa_nil)))
    (pss_cons (ps_while PassesOwn.never (pt_truth (pv 2) (by intro _; rfl))
      (pss_cons (ps_set (i := 3) scIP.nd rfl (Or.inl rfl) (pe_bm0 PySem.F.plainAttrs_list PySem.F.slot_list_pop PySem.F.type_list_pop mt_pop (pv 2)))
      (pss_cons (ps_if (pt_not (pt_val (pe_call G hr rfl mG kG bG .nil pass0 (pa_cons (pv 0) (pa_cons (pv 3) pa_nil))))) (pss_one (ps_ret pe_bl)) pss_nil)
      (pss_one (ps_expr (pe_bm PySem.F.plainAttrs_list PySem.F.slot_list_extend PySem.F.type_list_extend mt_extendT (pv 2) (pa_cons (pe_call J (hr.mono (by omega)) rfl mJ kJ bJ .nil pass0 (pa_cons (pv 3) pa_nil)) pa_nil)))))))
    (pss_one (ps_ret pe_bl))), ?_⟩
  refine t_set ⟨_, rfl, by show 1 ≤ sizeLine; decide, fun l hl => ?_⟩
  refine ⟨fun m σ H' => ∃ (vs : List V) (nd : Option V), σ = [some (.str L), some v, some (.ref l), nd] ∧ Ext H H' ∧ H' l = some (.lst vs) ∧ Left K L H bad vs m ∧ m ≤ 500, ⟨m0, [v], none, rfl, Ext.new hl, upd_same, hl0, hm0⟩, ?_⟩
  rintro m σ H' ⟨vs, nd, rfl, e, hl', hleft, hm⟩
  refine ⟨_, rfl, _, .inl ⟨_, SqL.of hl', rfl⟩, ?_⟩
  rcases List.eq_nil_or_concat vs with rfl | ⟨us, y, rfl⟩
  · have eb := left_nil hleft
    subst eb
    exact iffF rfl (q _ e)
  · rw [List.concat_eq_append] at hl' hleft ⊢
    refine iffT (by simp) ⟨fun σ' H2 => ∃ m' < m, ∃ (vs : List V) (nd : Option V), σ' = [some (.str L), some v, some (.ref l), nd] ∧ Ext H H2 ∧ H2 l = some (.lst vs) ∧ Left K L H bad vs m' ∧ m' ≤ 500, fun σ' H2 ⟨m', h1, h2⟩ => ⟨m', h1, h2⟩, ?_⟩
    refine t_set (r_pop rfl hl' ?_)
    have e1 : Ext H (upd H' l (.lst us)) := e.wr hl
    rcases left_pop hleft with ⟨eb, nb⟩ | ⟨ng, zs, hz, m', hm', hl2⟩
    · subst eb
      exact t_seq ⟨_, rfl, _, rfl, L, y, false, rfl, nd_ext e1 nb, fun H2 e2 => ⟨_, rfl, iffT rfl (q _ (e1.trans e2))⟩⟩
    · refine t_seq ⟨_, rfl, _, rfl, L, y, true, rfl, nd_ext e1 ng, fun H2 e2 => ⟨_, rfl, iffF rfl ?_⟩⟩
      dsimp only [tNext]
      have l2 : H2 l = some (.lst us) := e2.lst upd_same
      refine ⟨_, rfl, .inl ⟨rfl, _, SqL.of l2⟩, _, rfl, y, zs, rfl, parts_ext (e1.trans e2) hz, fun b H3 e3 hb => ?_⟩
      have l3 : H3 l = some (.lst us) := e3.lst l2
      have hlen := left_len hl2
      rw [List.length_append] at hlen
      refine ⟨l, b, us, zs, rfl, rfl, l3, hb, Nat.le_trans (show us.length + zs.length ≤ 500 by omega) (by decide), ?_⟩
      exact ⟨m', hm', us ++ zs, _, rfl, ((e1.trans e2).trans e3).wr hl, upd_same, hl2, by omega⟩
theorem no_ok {f k : Addr} {fd kd : FuncData} (F : FnP K "nodes" sNodes f fd)
    (J : FnOk P w K mg base CX0 1 k kd ["pattern"] (spPO K)) (bJ : Binds K kd ["pattern"] []) (kJ : PySem.W.keepIn K (.ref k) = true) (mJ : mg "parts_of" = some (.ref k)) : FnOk P w K mg base CX0 2 f fd ["pattern"] spNo := by
  refine okD F scNo (fun vs H Q E h => ?_) (fun cdv A outer s H vs Q E hr h => ?_)
  · obtain ⟨v, p, rfl, _⟩ := h
    rfl
  obtain ⟨v, p, rfl, hp, hsz, q⟩ := h
  refine ⟨_, pss_cons (ps_set (i := 1) scNo.nd rfl (Or.inl rfl) pe_int)
    (pss_cons (ps_set (i := 2) scNo.nd rfl (Or.inl rfl) (pe_lst (pa_cons (pv 0) pa_nil)))
    (pss_cons (ps_while PassesOwn.never (pt_truth (pv 2) (by intro _; rfl))
      (pss_cons (ps_aug (i := 1) scNo.nd rfl (Or.inl rfl) pe_int ip_add)
      (pss_one (ps_expr (pe_bm PySem.F.plainAttrs_list PySem.F.slot_list_extend PySem.F.type_list_extend mt_extendT (pv 2) (pa_cons (pe_call J (hr.mono (by omega)) rfl mJ kJ bJ .nil pass0 (pa_cons (pe_bm0 PySem.F.plainAttrs_list PySem.F.slot_list_pop PySem.F.type_list_pop mt_pop (pv 2)) pa_nil)) pa_nil))))))
    (pss_one (ps_ret (pv 1))))), ?_⟩
  refine t_setC (t_set ⟨_, rfl, by show 1 ≤ sizeLine; decide, fun l hl => ?_⟩)
  refine ⟨fun m σ H' => ∃ (vs : List V) (ps : List Pat) (n : Nat), σ = [some v, some (nV n), some (.ref l)] ∧ Ext H H' ∧ H' l = some (.lst vs) ∧ PatsAt H ps vs ∧ sizeL ps = m ∧ n + m = p.size, ⟨p.size, [v], [p], 0, rfl, Ext.new hl, upd_same, ⟨v, [], rfl, hp, rfl⟩, sizeL_one p, by omega⟩, ?_⟩
  rintro m σ H' ⟨vs, ps, n, rfl, e, hl', hps, rfl, hm⟩
  refine ⟨_, rfl, _, .inl ⟨_, SqL.of hl', rfl⟩, ?_⟩
  rcases List.eq_nil_or_concat ps with rfl | ⟨ps, r, rfl⟩
  · rw [show vs = [] from hps]
    have e9 : n = p.size := hm
    exact iffF rfl ⟨_, rfl, e9 ▸ q _ e⟩
  · rw [List.concat_eq_append] at hps hm ⊢
    obtain ⟨us, y, rfl, hus, hy⟩ := cut_last hps
    have hm' := hm
    rw [sizeL_append, sizeL_one] at hm'
    refine iffT (by simp) ⟨fun σ' H2 => ∃ m' < sizeL (ps ++ [r]), ∃ (vs : List V) (ps : List Pat) (n : Nat), σ' = [some v, some (nV n), some (.ref l)] ∧ Ext H H2 ∧ H2 l = some (.lst vs) ∧ PatsAt H ps vs ∧ sizeL ps = m' ∧ n + m' = p.size, fun σ' H2 ⟨m', h1, h2⟩ => ⟨m', h1, h2⟩, ?_⟩
    refine t_seq ⟨_, rfl, _, _, rfl, rfl, ?_⟩
    have e1 : Ext H (upd H' l (.lst us)) := e.wr hl
    refine ⟨_, rfl, .inl ⟨rfl, _, SqL.of hl'⟩, r_pop rfl hl' ?_⟩
    obtain ⟨zs, hpz, hz⟩ := pat_parts hy
    refine ⟨y, zs, rfl, parts_ext e1 hpz, fun b H3 e3 hb => ?_⟩
    have l3 : H3 l = some (.lst us) := e3.lst upd_same
    have hlen : us.length + zs.length ≤ 500 := by
      have a1 := hus.len
      have a2 := hz.len
      have a3 := len_le_sizeL ps
      have a4 := len_le_sizeL r.parts
      have a5 := size_parts r
      omega
    refine ⟨l, b, us, zs, rfl, rfl, l3, hb, Nat.le_trans hlen (by decide), ?_⟩
    refine ⟨sizeL (ps ++ r.parts), ?_, us ++ zs, ps ++ r.parts, n + 1, rfl, (e1.trans e3).wr hl, upd_same, hus.append hz, rfl, ?_⟩
    · rw [sizeL_append, sizeL_append, sizeL_one, size_parts r]; omega
    · rw [sizeL_append]; have := size_parts r; omega
end
end Bo
set_option Elab.async false
set_option linter.all false
set_option maxRecDepth 100000
set_option maxHeartbeats 4000000
namespace Bo
open PySem PySem.Spec PyProof.Rows L2 GE
/-- FunD.ok where something may be let out -/
theorem okX {P : Program} {w : World} {K : PySem.W.Frag} {mg : Str → Option Value} {base : Heap} {CX : CXT} {x qual : Str} {params : Arguments} {body : List Stmt} {scope : Scope} {dvs : List V} {kws : List (Str × V)} {f : Addr} {fd : FuncData} {N ps : List Str} {k : Nat} {sp : Sp} (F : FunD K x qual params body scope dvs kws f fd) (S : FnScope N ps scope) (len : ∀ vs H Q E, sp vs H Q E → vs.length = ps.length)
    (hbody : ∀ (cdv : Value) (A : Around) (outer : List Env) (s : Shared) (H : Hp) (vs : List V) (Q : VK) (E : XK), Room k (A.deeper (envOfC qual scope s.heap.objs.size f cdv)) → sp vs H Q E →
      ∃ t, PSs (cxOf CX P w K mg base N qual scope f cdv A outer s H E) body t ∧ t { nx := fun _ H' => Q .non H', rt := Q } (start N vs) H) : FnOk P w K mg base CX (k + 1) f fd ps sp := by
  obtain ⟨oc, od, dV, kV, doc, pm, an, cdv, ct, osl, e, lk, hcd, _, _⟩ := F.ex
  subst e
  exact fn_of lk hcd S len fun A outer s H vs Q E hr hsp => hbody _ A outer s H vs Q E hr hsp
/-- what is asked about letters and a thing: which error, or none -/
def NPs (K : PySem.W.Frag) (H : Hp) (lv v : V) (RL RP RT RN : Hp → Prop) : Prop := (goodV lv = false → ∀ H', Ext H H' → RL H') ∧
  ∀ L, lv = .str L → goodS L = true → (∃ n, Bd K L H v n ∧ n ≤ 500 ∧ ∀ H', Ext H H' → RP H') ∨
    ∃ p : Pat, PatAt H p v ∧ p.ok L ∧ p.size ≤ 500 ∧ (60 < p.size → ∀ H', Ext H H' → RT H') ∧ (p.size ≤ 60 → ∀ H', Ext H H' → RN H')
theorem nps_ext {K : PySem.W.Frag} {H H' : Hp} {lv v : V} {RL RP RT RN : Hp → Prop} (e : Ext H H') (h : NPs K H lv v RL RP RT RN) : NPs K H' lv v RL RP RT RN := by
  refine ⟨fun b H2 e2 => h.1 b H2 (e.trans e2), fun L el g => ?_⟩
  rcases h.2 L el g with ⟨n, hb, hn, r⟩ | ⟨p, hp, ho, hs, r1, r2⟩
  · exact .inl ⟨n, bd_ext e hb, hn, fun H2 e2 => r H2 (e.trans e2)⟩
  · exact .inr ⟨p, PatAt.ext e _ _ hp, ho, hs, fun h6 H2 e2 => r1 h6 H2 (e.trans e2), fun h6 H2 e2 => r2 h6 H2 (e.trans e2)⟩
theorem nps_mono {K : PySem.W.Frag} {H : Hp} {lv v : V} {RL RP RT RN RL' RP' RT' RN' : Hp → Prop} (h : NPs K H lv v RL RP RT RN) (a : ∀ H', Ext H H' → RL H' → RL' H') (b : ∀ H', Ext H H' → RP H' → RP' H') (c : ∀ H', Ext H H' → RT H' → RT' H') (d : ∀ H', Ext H H' → RN H' → RN' H') : NPs K H lv v RL' RP' RT' RN' := by
  refine ⟨fun g H2 e2 => a H2 e2 (h.1 g H2 e2), fun L el g => ?_⟩
  rcases h.2 L el g with ⟨n, hb, hn, r⟩ | ⟨p, hp, ho, hs, r1, r2⟩
  · exact .inl ⟨n, hb, hn, fun H2 e2 => b H2 e2 (r H2 e2)⟩
  · exact .inr ⟨p, hp, ho, hs, fun h6 H2 e2 => c H2 e2 (r1 h6 H2 e2), fun h6 H2 e2 => d H2 e2 (r2 h6 H2 e2)⟩
/-- a thing for the letters: of a known kind, no long text -/
def LV (K : PySem.W.Frag) (H : Hp) (lv : V) : Prop := (∃ Ty, Kn K H lv Ty) ∧ ∀ z, lv = .str z → z.cps.size ≤ 100
theorem lv_ext {K : PySem.W.Frag} {H H' : Hp} {lv : V} (e : Ext H H') (h : LV K H lv) : LV K H' lv := ⟨let ⟨Ty, k⟩ := h.1; ⟨Ty, kn_ext e k⟩, h.2⟩
def spNP (K : PySem.W.Frag) (CL CP CT T : Addr) : Sp := fun vs H Q E => ∃ (lv v : V), vs = [lv, v] ∧ LV K H lv ∧ GxR.TabG H T ∧ NPs K H lv v (E (.ref CL) none) (E (.ref CP) none) (E (.ref CT) none) (Q .non)
def spFi (K : PySem.W.Frag) (CL CP CT T : Addr) : Sp := fun vs H Q E => ∃ (lv v u : V), vs = [lv, v, u] ∧ LV K H lv ∧ GxR.TabG H T ∧ NPs K H lv v (E (.ref CL) none) (E (.ref CP) none) (E (.ref CT) none) (fun _ => False)
def spMa (K : PySem.W.Frag) (CL CP CT T : Addr) : Sp := fun vs H Q E => ∃ (lv v : V), vs = [lv, v] ∧ LV K H lv ∧ GxR.TabG H T ∧ NPs K H lv v (E (.ref CL) none) (E (.ref CP) none) (E (.ref CT) none) (fun _ => False)
def spTA (K : PySem.W.Frag) (CL CP CT T : Addr) : Sp := fun vs H Q E => ∃ (lv v u : V), vs = [lv, v, u] ∧ LV K H lv ∧ GxR.TabG H T ∧ NPs K H lv v (E (.ref CL) none) (E (.ref CP) none) (E (.ref CT) none)
  (fun H' => NPs K H' lv u (E (.ref CL) none) (E (.ref CP) none) (E (.ref CT) none) (fun _ => False))
def spRe (K : PySem.W.Frag) (CL T : Addr) : Sp := fun vs H Q E => ∃ (lv u : V), vs = [lv, u] ∧ LV K H lv ∧ GxR.TabG H T ∧ goodV lv = false ∧ ∀ H', Ext H H' → E (.ref CL) none H'
/-- what is never come to -/
theorem pss_never {X : Cx} {body : List Stmt} : PSs X body (fun _ _ _ => False) := ⟨fun _ _ _ _ _ _ h => h.elim⟩
section
variable {P : Program} {w : World} {K : PySem.W.Frag} {mg : Str → Option Value} {base : Heap}
theorem scNP : FnScope ["letters", "pattern"] ["letters", "pattern"] (defScope sNeedPattern) := ⟨rfl, rfl, rfl, by decide +kernel, rfl, by decide +kernel, by decide +kernel⟩
theorem scFi : FnScope ["letters", "pattern", "text"] ["letters", "pattern", "text"] (defScope sFits) := ⟨rfl, rfl, rfl, by decide +kernel, rfl, by decide +kernel, by decide +kernel⟩
theorem np_ok {f g1 g2 g3 : Addr} {fd d1 d2 d3 : FuncData} {CL CP CT T : Addr} {tk : Tok} (F : FnP K "need_pattern" sNeedPattern f fd) (XP : EX K mg "NoPattern" CP) (XT : EX K mg "TooGreat" CT)
    (G1 : FnOk P w K mg base (L2N.CX P w) 3 g1 d1 ["letters"] (spNL K CL T)) (b1 : Binds K d1 ["letters"] []) (k1 : PySem.W.keepIn K (.ref g1) = true) (m1 : mg "need_letters" = Option.some (.ref g1))
    (G2 : FnOk P w K mg base CX0 3 g2 d2 ["letters", "thing"] (spIP K)) (b2 : Binds K d2 ["letters", "thing"] []) (k2 : PySem.W.keepIn K (.ref g2) = true) (m2 : mg "is_pattern" = Option.some (.ref g2))
    (G3 : FnOk P w K mg base CX0 2 g3 d3 ["pattern"] spNo) (b3 : Binds K d3 ["pattern"] []) (k3 : PySem.W.keepIn K (.ref g3) = true) (m3 : mg "nodes" = Option.some (.ref g3)) (mN : mg "MOST_NODES" = some (.int 60 tk)) :
    FnOk P w K mg base (L2N.CX P w) 4 f fd ["letters", "pattern"] (spNP K CL CP CT T) := by
  refine okX F scNP (fun vs H Q E h => ?_) (fun cdv A outer s H vs Q E hr h => ?_)
  · obtain ⟨L, v, rfl, _⟩ := h
    rfl
  obtain ⟨lv, v, rfl, ⟨⟨Ty, hk⟩, hz⟩, hT, h1, h2⟩ := h
  refine ⟨_, pss_cons (ps_expr (pe_call G1 hr rfl m1 k1 b1 .nil (L2N.passes_call (L2N.takes_of rfl rfl rfl rfl) (fun _ _ _ _ h => h)) (pa_cons (pv 0) pa_nil)))
    (pss_cons (ps_if (pt_not (pt_val (pe_call G2 hr rfl m2 k2 b2 .nil pass0 (pa_cons (pv 0) (pa_cons (pv 1) pa_nil)))))
      (pss_one (L2N.ps_raise rfl (L2N.takes_of rfl rfl rfl rfl) (L2N.pmk_own PySem.F.excBase_ValueError XP.q XP.g XP.k (raises_own XP.s XP.t) rfl))) pss_nil)
    (pss_one (ps_if (pt_cmpR op_gt (pe_call G3 (hr.mono (by omega)) rfl m3 k3 b3 .nil pass0 (pa_cons (pv 1) pa_nil)) (pe_glob (v := .int 60) rfl mN ⟨_, rfl⟩) (nomark _))
      (pss_one (L2N.ps_raise rfl (L2N.takes_of rfl rfl rfl rfl) (L2N.pmk_own PySem.F.excBase_ValueError XT.q XT.g XT.k (raises_own XT.s XT.t) rfl))) pss_nil))), ?_⟩
  refine t_seq ⟨_, rfl, lv, Ty, rfl, hk, hz, hT, fun good H1 e1 => ?_, fun bad H1 e1 => h1 bad H1 e1⟩
  dsimp only
  obtain ⟨L, rfl⟩ : ∃ L, lv = .str L := by
    cases lv <;> first | exact ⟨_, rfl⟩ | cases good
  rcases h2 L rfl good with ⟨n, hb, hn, q⟩ | ⟨p, hp, hok, hs, qT, qQ⟩
  · exact t_seq ⟨_, rfl, _, rfl, L, _, rfl, .inr ⟨n, bd_ext e1 hb, hn, fun H2 e2 => ⟨_, rfl, iffT rfl (q _ (e1.trans e2))⟩⟩⟩
  · refine t_seq ⟨_, rfl, _, rfl, L, _, rfl, .inl ⟨p, PatAt.ext e1 _ _ hp, hok, hs, fun H2 e2 => ⟨_, rfl, iffF rfl ?_⟩⟩⟩
    dsimp only [tNext]
    refine ⟨_, rfl, _, p, rfl, PatAt.ext (e1.trans e2) _ _ hp, hs, fun H3 e3 => ⟨_, _, rfl, rfl, _, rfl, ?_⟩⟩
    by_cases h60 : 60 < p.size
    · exact iffT (decide_eq_true (by omega)) (qT h60 _ ((e1.trans e2).trans e3))
    · exact iffF (decide_eq_false (by omega)) (qQ (by omega) _ ((e1.trans e2).trans e3))
theorem fi_ok {f g1 : Addr} {fd d1 : FuncData} {CL CP CT T : Addr} (F : FnP K "fits" sFits f fd)
    (G1 : FnOk P w K mg base (L2N.CX P w) 4 g1 d1 ["letters", "pattern"] (spNP K CL CP CT T)) (b1 : Binds K d1 ["letters", "pattern"] []) (k1 : PySem.W.keepIn K (.ref g1) = true) (m1 : mg "need_pattern" = Option.some (.ref g1)) :
    FnOk P w K mg base (L2N.CX P w) 5 f fd ["letters", "pattern", "text"] (spFi K CL CP CT T) := by
  refine okX F scFi (fun vs H Q E h => ?_) (fun cdv A outer s H vs Q E hr h => ?_)
  · obtain ⟨L, v, u, rfl, _⟩ := h
    rfl
  obtain ⟨lv, v, u, rfl, hL, hT, h⟩ := h
  refine ⟨_, pss_cons (ps_expr (pe_call G1 hr rfl m1 k1 b1 .nil (L2N.passes_call (L2N.takes_of rfl rfl rfl rfl) (fun _ _ _ _ h => h)) (pa_cons (pv 0) (pa_cons (pv 1) pa_nil)))) pss_never, ?_⟩
  exact t_seq ⟨_, rfl, _, rfl, lv, v, rfl, hL, hT, h⟩
theorem scMa : FnScope ["letters", "pattern", "leavings", "steps", "rest"] ["letters", "pattern"] (defScope sMachineOf) := ⟨rfl, rfl, rfl, by decide +kernel, rfl, by decide +kernel, by decide +kernel⟩
theorem ma_ok {f g1 : Addr} {fd d1 : FuncData} {CL CP CT T : Addr} (F : FnP K "machine_of" sMachineOf f fd)
    (G1 : FnOk P w K mg base (L2N.CX P w) 4 g1 d1 ["letters", "pattern"] (spNP K CL CP CT T)) (b1 : Binds K d1 ["letters", "pattern"] []) (k1 : PySem.W.keepIn K (.ref g1) = true) (m1 : mg "need_pattern" = Option.some (.ref g1)) :
    FnOk P w K mg base (L2N.CX P w) 5 f fd ["letters", "pattern"] (spMa K CL CP CT T) := by
  refine okX F scMa (fun vs H Q E h => ?_) (fun cdv A outer s H vs Q E hr h => ?_)
  · obtain ⟨L, v, rfl, _⟩ := h
    rfl
  obtain ⟨lv, v, rfl, hL, hT, h⟩ := h
  refine ⟨_, pss_cons (ps_expr (pe_call G1 hr rfl m1 k1 b1 .nil (L2N.passes_call (L2N.takes_of rfl rfl rfl rfl) (fun _ _ _ _ h => h)) (pa_cons (pv 0) (pa_cons (pv 1) pa_nil)))) pss_never, ?_⟩
  exact t_seq ⟨_, rfl, _, rfl, lv, v, rfl, hL, hT, h⟩
theorem scTA : FnScope ["letters", "one", "other", "leavings", "pairs", "met", "trail", "at", "rests", "sign", "pair", "patterns", "first", "second"] ["letters", "one", "other"] (defScope sToldAlike) := ⟨rfl, rfl, rfl, by decide +kernel, rfl, by decide +kernel, by decide +kernel⟩
theorem ta_ok {f g1 : Addr} {fd d1 : FuncData} {CL CP CT T : Addr} (F : FnP K "told_alike" sToldAlike f fd)
    (G1 : FnOk P w K mg base (L2N.CX P w) 4 g1 d1 ["letters", "pattern"] (spNP K CL CP CT T)) (b1 : Binds K d1 ["letters", "pattern"] []) (k1 : PySem.W.keepIn K (.ref g1) = true) (m1 : mg "need_pattern" = Option.some (.ref g1)) :
    FnOk P w K mg base (L2N.CX P w) 5 f fd ["letters", "one", "other"] (spTA K CL CP CT T) := by
  refine okX F scTA (fun vs H Q E h => ?_) (fun cdv A outer s H vs Q E hr h => ?_)
  · obtain ⟨L, v, u, rfl, _⟩ := h
    rfl
  obtain ⟨lv, v, u, rfl, hL, hT, h⟩ := h
  refine ⟨_, pss_cons (ps_expr (pe_call G1 hr rfl m1 k1 b1 .nil (L2N.passes_call (L2N.takes_of rfl rfl rfl rfl) (fun _ _ _ _ h => h)) (pa_cons (pv 0) (pa_cons (pv 1) pa_nil))))
    (pss_cons (ps_expr (pe_call G1 hr rfl m1 k1 b1 .nil (L2N.passes_call (L2N.takes_of rfl rfl rfl rfl) (fun _ _ _ _ h => h)) (pa_cons (pv 0) (pa_cons (pv 2) pa_nil)))) pss_never), ?_⟩
  refine t_seq ⟨_, rfl, _, rfl, lv, v, rfl, hL, hT, nps_mono h (fun _ _ h => h) (fun _ _ h => h) (fun _ _ h => h) (fun H' e h => ?_)⟩
  exact t_seq ⟨_, rfl, _, rfl, lv, u, rfl, lv_ext e hL, e.tab _ hT, h⟩
theorem scRe : FnScope ["letters", "text", "pattern"] ["letters", "text"] (defScope sRead) := ⟨rfl, rfl, rfl, by decide +kernel, rfl, by decide +kernel, by decide +kernel⟩
theorem re_ok {f g1 : Addr} {fd d1 : FuncData} {CL T : Addr} (F : FnP K "read" sRead f fd)
    (G1 : FnOk P w K mg base (L2N.CX P w) 3 g1 d1 ["letters"] (spNL K CL T)) (b1 : Binds K d1 ["letters"] []) (k1 : PySem.W.keepIn K (.ref g1) = true) (m1 : mg "need_letters" = Option.some (.ref g1)) :
    FnOk P w K mg base (L2N.CX P w) 4 f fd ["letters", "text"] (spRe K CL T) := by
  refine okX F scRe (fun vs H Q E h => ?_) (fun cdv A outer s H vs Q E hr h => ?_)
  · obtain ⟨L, u, rfl, _⟩ := h
    rfl
  obtain ⟨lv, u, rfl, ⟨⟨Ty, hk⟩, hz⟩, hT, hb, h⟩ := h
  refine ⟨_, pss_cons (ps_expr (pe_call G1 hr rfl m1 k1 b1 .nil (L2N.passes_call (L2N.takes_of rfl rfl rfl rfl) (fun _ _ _ _ h => h)) (pa_cons (pv 0) pa_nil))) pss_never, ?_⟩
  exact t_seq ⟨_, rfl, lv, Ty, rfl, hk, hz, hT, fun g => (by rw [hb] at g; cases g), fun _ H1 e1 => h H1 e1⟩
end
end Bo
set_option Elab.async false
set_option linter.all false
set_option maxRecDepth 100000
set_option maxHeartbeats 4000000
namespace Bo
open PySem PySem.Spec PyProof.Rows L2 GE
def sgn (c : Nat) : Str := ⟨#[c]⟩
def txt (l : List Nat) : Str := ⟨l.toArray⟩
theorem cds_txt (l : List Nat) : cds (txt l) = l := rfl
theorem txt_cds (z : Str) : txt (cds z) = z := by cases z; rfl
theorem join_txt (l : List Nat) : Txt.join (Str.ofString "") (l.map sgn) = txt l := by
  show Builtin.Str.glued _ _ = _
  rw [StrLaws.glued_eq_join]
  have e : TL.tl (Str.join (Str.ofString "") (l.map sgn)) = l := by
    rw [TL.tl_join, List.map_map]
    show TL.joinL [] _ = l
    induction l with
    | nil => rfl
    | cons a r ih =>
      cases r with
      | nil => rfl
      | cons b r => 
        show [a] ++ ([] ++ TL.joinL [] _) = _
        rw [List.nil_append]
        show [a] ++ TL.joinL [] ((b :: r).map (TL.tl ∘ sgn)) = _
        rw [ih]; rfl
  rw [← txt_cds (Str.join _ _)]
  exact congrArg txt e
/-- the letters that a cell draws -/
def mkL (r s n : Nat) : Str := txt ((List.range n).map fun k => 97 + (r + k * s) % 26)
theorem mkL_good : ∀ r, r < 26 → ∀ s, s < 12 → ∀ n, n < 4 → goodS (mkL r (s + 1) (n + 1)) = true := by decide +kernel
def lets (z : Int) : Str := mkL ((z / 4) % 26).toNat (1 + (z / 104) % 12).toNat (1 + z % 4).toNat
theorem lets_good (z : Int) : goodS (lets z) = true := by
  have h1 : ((z / 4) % 26).toNat < 26 := by omega
  have h2 : (1 + (z / 104) % 12).toNat = ((z / 104) % 12).toNat + 1 := by omega
  have h3 : (1 + z % 4).toNat = (z % 4).toNat + 1 := by omega
  rw [lets, h2, h3]
  exact mkL_good _ h1 _ (by omega) _ (by omega)
def spCA (K : PySem.W.Frag) : Sp := fun vs H Q _ => ∃ (a : Addr) (ns : List Int) (k : Nat), vs = [.ref a, nV k] ∧ SqL K H a (ns.map V.int) ∧ Q (.int (ns.getD k 0)) H
def spLt : Sp := fun vs H Q _ => ∃ z : Int, vs = [.int z] ∧ ∀ H', Ext H H' → Q (.str (lets z)) H'
def alphabet : Str := "abcdefghijklmnopqrstuvwxyz"
theorem alpha_get : ∀ i, i < 26 → (cds alphabet)[i]? = some (97 + i) := by decide +kernel
section
variable {P : Program} {w : World} {K : PySem.W.Frag} {mg : Str → Option Value} {base : Heap}
theorem scCA : FnScope ["_law_script", "_law_k"] ["_law_script", "_law_k"] (defScope sLawCellAt) := ⟨rfl, rfl, rfl, by decide +kernel, rfl, by decide +kernel, by decide +kernel⟩
theorem scLt : FnScope ["_law_cell", "_law_some", "_law_k"] ["_law_cell"] (defScope sLawLetters) := ⟨rfl, rfl, rfl, by decide +kernel, rfl, by decide +kernel, by decide +kernel⟩
theorem ca_ok {f : Addr} {fd : FuncData} (F : FnP K "_law_cell_at" sLawCellAt f fd) (ml : mg "len" = none) : FnOk P w K mg base CX0 1 f fd ["_law_script", "_law_k"] (spCA K) := by
  refine okD F scCA (fun vs H Q E h => ?_) (fun cdv A outer s H vs Q E hr h => ?_)
  · obtain ⟨a, ns, k, rfl, _⟩ := h
    rfl
  obtain ⟨a, ns, k, rfl, hS, q⟩ := h
  refine ⟨_, pss_cons (ps_if (pt_cmpR op_lt (pv 1) (pe_callB call_len rfl ml PySem.boot_len (pa_cons (pv 0) pa_nil)) (nomark _)) (pss_one (ps_ret (pe_ix ix_list (pv 0) (pv 1) (fun _ _ => rfl)))) pss_nil)
    (pss_one (ps_ret pe_int)), ?_⟩
  refine t_seq ⟨_, rfl, _, rfl, .ref a, _, rfl, .inl ⟨_, hS, rfl⟩, _, _, rfl, rfl, _, rfl, ?_⟩
  rw [List.length_map]
  by_cases h : k < ns.length
  · refine iffT (decide_eq_true (by omega)) ⟨_, rfl, _, rfl, a, _, _, _, rfl, rfl, hS, atI_nat (v := .int (ns.getD k 0)) ?_, q⟩
    rw [List.getElem?_map, List.getElem?_eq_getElem h]
    simp [List.getD, List.getElem?_eq_getElem h]
  · refine iffF (decide_eq_false (by omega)) ?_
    have e : ns.getD k 0 = 0 := by rw [List.getD_eq_getElem?_getD, List.getElem?_eq_none (by omega)]; rfl
    rw [e] at q
    exact q
theorem lt_ok {f : Addr} {fd : FuncData} (F : FnP K "_law_letters" sLawLetters f fd) (mr : mg "range" = none) : FnOk P w K mg base CX0 1 f fd ["_law_cell"] spLt := by
  refine okD F scLt (fun vs H Q E h => ?_) (fun cdv A outer s H vs Q E hr h => ?_)
  · obtain ⟨z, rfl, _⟩ := h
    rfl
  obtain ⟨z, rfl, q⟩ := h
  refine ⟨_, pss_cons (ps_set (i := 1) scLt.nd rfl (Or.inr rfl) pe_str)
    (pss_one (ps_ret (pe_join pe_str (pe_lc (own := [("_law_k", 2)]) (g := gName 2) (tt := tYes) rfl scLt.nd (pi_range1 rfl mr (pa_cons (pe_op op_add pe_int (pe_op op_mod (pv 0) pe_int)) pa_nil))
      (blkOk_by (N := ["_law_cell", "_law_some", "_law_k"]) (sc := defScope sLawLetters) (by decide +kernel))
      (fun _ _ _ _ _ => pg_name (i := 2) scLt.nd rfl (Or.inl rfl) (Or.inr rfl)) (fun _ _ _ _ _ => pts_nil)
      (fun _ _ _ _ _ => pe_ix ix_str (pv 1) (pe_op op_mod (pe_op op_add (pe_op op_fdiv (pv 0) pe_int) (pe_op op_mul (pv 2) (pe_op op_add pe_int (pe_op op_mod (pe_op op_fdiv (pv 0) pe_int) pe_int)))) pe_int) (fun _ _ => rfl)))))), ?_⟩
  refine t_setC ⟨⟨_, rfl⟩, ?_⟩
  refine ⟨_, rfl, _, _, rfl, rfl, show (0 : Int) < 4 by decide, _, _, rfl, rfl, _, rfl, by omega, by omega, fun D hD => ?_⟩
  have hn : (1 + z % 4).toNat ≤ 4 := by omega
  refine lc_range (Built H D fun k => .str (sgn (97 + (((z / 4) % 26).toNat + k * (1 + (z / 104) % 12).toNat) % 26))) (Built.zero hD) ?_ ?_
  · intro k H' hk b
    refine ⟨rfl, ?_⟩
    refine ⟨_, rfl, _, rfl, _, _, rfl, rfl, show (0 : Int) < 4 ∧ (4 : Int) < 1073741824 by decide, _, rfl, _, rfl, _, _, rfl, rfl, show (0 : Int) < 104 ∧ (104 : Int) < 1073741824 by decide, _, _, rfl, rfl, show (0 : Int) < 12 by decide, _, _, rfl, rfl, _, _, rfl, rfl, ?_⟩
    have k4 : k < 4 := by omega
    have eS : 1 + z / 104 % 12 = (((1 + z / 104 % 12).toNat : Nat) : Int) := by omega
    have e : (z / 4 + (0 + (k : Int)) * (1 + z / 104 % 12)) % 26 = (((((z / 4) % 26).toNat + k * (1 + (z / 104) % 12).toNat) % 26 : Nat) : Int) := by
      rw [eS, Int.zero_add, ← Int.natCast_mul]
      rw [show (((1 + z / 104 % 12).toNat : Nat) : Int).toNat = (1 + z / 104 % 12).toNat from Int.toNat_natCast _]
      generalize k * (1 + z / 104 % 12).toNat = m'
      omega
    refine ⟨.inl ⟨by omega, by omega⟩, _, _, rfl, rfl, _, _, rfl, rfl, show (0 : Int) < 26 by decide, alphabet, _, 97 + (((z / 4) % 26).toNat + k * (1 + (z / 104) % 12).toNat) % 26, rfl, congrArg V.int e, by decide, atI_nat (alpha_get _ (by omega)), ?_⟩
    exact b.next hD (Ext.refl _) rfl (Nat.lt_trans k4 (by decide))
  · intro H' b
    refine ⟨_, _, (List.range (1 + z % 4).toNat).map (fun k => sgn (97 + (((z / 4) % 26).toNat + k * (1 + (z / 104) % 12).toNat) % 26)), rfl, rfl, .inl ?_, ?_, ?_⟩
    · rw [List.map_map]; exact SqL.of b.2
    · have : ((List.range (1 + z % 4).toNat).map (fun k => sgn (97 + (((z / 4) % 26).toNat + k * (1 + (z / 104) % 12).toNat) % 26))).map (·.length) = List.replicate (1 + z % 4).toNat 1 := by
        rw [List.map_map]
        exact List.eq_replicate_iff.mpr ⟨by simp, fun b hb => by obtain ⟨k, _, rfl⟩ := List.mem_map.mp hb; rfl⟩
      rw [this, List.sum_replicate_nat]
      rw [show (Str.ofString "").length = 0 by decide]
      simp
      omega
    · have e : (List.range (1 + z % 4).toNat).map (fun k => sgn (97 + (((z / 4) % 26).toNat + k * (1 + (z / 104) % 12).toNat) % 26)) = ((List.range (1 + z % 4).toNat).map (fun k => 97 + (((z / 4) % 26).toNat + k * (1 + (z / 104) % 12).toNat) % 26)).map sgn := by
        rw [List.map_map]; rfl
      rw [e, join_txt]
      exact q _ b.1
end
end Bo
set_option Elab.async false
set_option linter.all false
set_option maxRecDepth 100000
set_option maxHeartbeats 4000000
namespace Bo
open PySem PySem.Spec PyProof.Rows L2 GE
def spLS (d : Nat) : Sp := fun vs H Q _ => ∃ (v : V) (p : Pat), vs = [v] ∧ PatAt H p v ∧ p.dep ≤ d ∧ p.size ≤ 500 ∧ ∀ H', Ext H H' → Q (nV p.size) H'
theorem sizeL_sum : ∀ ps : List Pat, sizeL ps = (ps.map Pat.size).sum
  | [] => rfl
  | p :: ps => by rw [sizeL, List.map_cons, List.sum_cons, sizeL_sum ps]
theorem size_mem {p : Pat} : ∀ {ps : List Pat}, p ∈ ps → p.size ≤ sizeL ps
  | q :: ps, h => by
    rcases List.mem_cons.mp h with e | h
    · rw [e, sizeL]; omega
    · have := size_mem h; rw [sizeL]; omega
theorem sum_nV : ∀ ns : List Nat, (ns.map (fun (n : Nat) => (n : Int))).sum = ((ns.sum : Nat) : Int)
  | [] => rfl
  | n :: ns => by rw [List.map_cons, List.sum_cons, List.sum_cons, sum_nV ns]; omega
section
variable {P : Program} {w : World} {K : PySem.W.Frag} {mg : Str → Option Value} {base : Heap}
theorem scLS : FnScope ["_law_pattern", "_law_part"] ["_law_pattern"] (defScope sLawSize) := ⟨rfl, rfl, rfl, by decide +kernel, rfl, by decide +kernel, by decide +kernel⟩
theorem ls_none {f : Addr} {fd : FuncData} {k : Nat} : FnOk P w K mg base CX0 k f fd ["_law_pattern"] (spLS 0) := by
  have no : ∀ vs H Q E, ¬ spLS 0 vs H Q E := fun vs H Q E h => by
    obtain ⟨v, p, _, _, hd, _⟩ := h
    have := dep_pos p
    omega
  exact ⟨fun vs H Q E h => absurd h (no vs H Q E), fun A outer s H args us vs Q E _ _ _ _ h => absurd h (no vs H Q E)⟩
theorem ls_step {f : Addr} {fd : FuncData} {k d : Nat} (F : FnP K "_law_size" sLawSize f fd) (G : FnOk P w K mg base CX0 k f fd ["_law_pattern"] (spLS d)) (b : Binds K fd ["_law_pattern"] [])
    (mG : mg "_law_size" = some (.ref f)) (ms : mg "sum" = none) : FnOk P w K mg base CX0 (k + 1) f fd ["_law_pattern"] (spLS (d + 1)) := by
  refine okD F scLS (fun vs H Q E h => ?_) (fun cdv A outer s H vs Q E hr h => ?_)
  · obtain ⟨v, p, rfl, _⟩ := h
    rfl
  obtain ⟨v, p, rfl, hp, hd, hs, q⟩ := h
  refine ⟨_, pss_cons (ps_if (pt_cmpR op_in_seq (pe_ix ix_tup (pv 0) pe_int (fun _ _ => rfl)) (pe_tup (pa_cons pe_str (pa_cons pe_str (pa_cons pe_str pa_nil)))) (by rfl))
      (pss_one (ps_ret (pe_op op_add pe_int (pe_callB (cr_sum rfl) rfl ms boot_sum (pa_cons (pe_lc (own := [("_law_part", 1)]) (g := gName 1) (tt := tYes) rfl scLS.nd (pi_tup (pe_ix ix_tup (pv 0) pe_int (fun _ _ => rfl)))
        (blkOk_by (N := ["_law_pattern", "_law_part"]) (sc := defScope sLawSize) (by decide +kernel))
        (fun _ _ _ _ _ => pg_name (i := 1) scLS.nd rfl (Or.inl rfl) (Or.inr rfl)) (fun _ _ _ _ _ => pts_nil)
        (fun _ _ _ _ _ => pe_call G hr rfl mG F.kp b .nil pass0 (pa_cons (pv 1) pa_nil))) pa_nil))))) pss_nil)
    (pss_cons (ps_if (pt_cmpR op_in_seq (pe_ix ix_tup (pv 0) pe_int (fun _ _ => rfl)) (pe_tup (pa_cons pe_str (pa_cons pe_str pa_nil))) (by rfl))
      (pss_one (ps_ret (pe_op op_add pe_int (pe_call G hr rfl mG F.kp b .nil pass0 (pa_cons (pe_ix ix_tup (pv 0) pe_int (fun _ _ => rfl)) pa_nil))))) pss_nil)
    (pss_one (ps_ret pe_int))), ?_⟩
  refine Classical.byContradiction fun hno => ?_
  have nul : ∀ (k : Str) (a : Addr) (xs : List V), H a = some (.tup (.str k :: xs)) → k ∉ (["row", "or", "and"] : List Str) → k ∉ (["many", "not"] : List Str) → p.size = 1 → v = .ref a → False := by
    intro k a xs ha n1 n2 e ev
    subst ev
    apply hno
    refine t_seq (if_inF ["row", "or", "and"] rfl ha n1 fun p1 np => t_seq (if_inF ["many", "not"] rfl ((Ext.new np).tup ha) n2 fun p2 np2 => ?_))
    have q' : ∀ H', Ext H H' → Q (nV 1) H' := fun H' e' => e ▸ q H' e'
    exact q' _ ((Ext.new np).trans (Ext.new np2))
  have seq : ∀ (k : Str) (a b : Addr) (ps : List Pat) (us : List V), H a = some (.tup [.str k, .ref b]) → H b = some (.tup us) → PatsAt H ps us → k ∈ (["row", "or", "and"] : List Str) → p.size = sizeL ps + 1 → depL ps ≤ d → v = .ref a → False := by
    intro k a b ps us ha hb hps n1 e hdp ev
    subst ev
    apply hno
    refine t_seq (if_inT ["row", "or", "and"] rfl ha n1 fun p1 np => ?_)
    refine r_ix 1 rfl ((Ext.new np).tup ha) rfl ⟨b, rfl, ⟨us, SqT.of ((Ext.new np).tup hb)⟩, fun D hD => ?_⟩
    have hD0 : H D = none := (Ext.new np).free hD
    refine lc_tup (Built H D fun i => nV ((ps.map Pat.size).getD i 0)) ⟨(Ext.new np).wr hD0, upd_same⟩ (fun i H' _ b => SqT.of (b.1.tup hb)) ?_ ?_
    · intro i x H' hx bu
      refine ⟨rfl, ?_⟩
      obtain ⟨r, hr, hrx⟩ := hps.get hx
      have hm := List.mem_of_getElem? hr
      refine ⟨_, rfl, x, r, rfl, PatAt.ext bu.1 _ _ hrx, Nat.le_trans (dep_mem hm) hdp, Nat.le_trans (size_mem hm) (by omega), fun H2 e2 => ?_⟩
      have hlt : i < ps.length := (List.getElem?_eq_some_iff.mp hr).1
      have := len_le_sizeL ps
      refine bu.next hD0 e2 ?_ (Nat.lt_trans (show i < 501 by omega) (by decide))
      rw [List.getD_eq_getElem?_getD, List.getElem?_map, hr]
      rfl
    · intro H' bu
      have e3 : (List.range us.length).map (fun i => nV ((ps.map Pat.size).getD i 0)) = ((ps.map Pat.size).map (fun (n : Nat) => (n : Int))).map V.int := by
        rw [hps.len, List.map_map]
        refine List.ext_getElem? fun i => ?_
        rw [List.getElem?_map, List.getElem?_map]
        by_cases hi : i < ps.length
        · rw [List.getElem?_range hi, List.getElem?_eq_getElem (by simpa using hi)]
          simp [List.getD, hi]
        · rw [List.getElem?_eq_none (by simpa using hi), List.getElem?_eq_none (by simpa using hi)]
          rfl
      have hbu := bu.2
      rw [e3] at hbu
      refine ⟨D, _, rfl, SqL.of hbu, _, _, rfl, rfl, ?_⟩
      have := q _ bu.1
      rw [sum_nV, ← sizeL_sum]
      rw [e] at this
      have e5 : (1 : Int) + ((sizeL ps : Nat) : Int) = ((sizeL ps + 1 : Nat) : Int) := by omega
      show Q (.int (1 + ((sizeL ps : Nat) : Int))) H'
      rw [e5]
      exact this
  have one : ∀ (k : Str) (a : Addr) (u : V) (p' : Pat), H a = some (.tup [.str k, u]) → PatAt H p' u → k ∉ (["row", "or", "and"] : List Str) → k ∈ (["many", "not"] : List Str) → p.size = p'.size + 1 → p'.dep ≤ d → v = .ref a → False := by
    intro k a u p' ha hu n1 n2 e hdp ev
    subst ev
    apply hno
    refine t_seq (if_inF ["row", "or", "and"] rfl ha n1 fun p1 np => t_seq (if_inT ["many", "not"] rfl ((Ext.new np).tup ha) n2 fun p2 np2 => ?_))
    have e2 := (Ext.new (o := .tup ((["row", "or", "and"] : List Str).map V.str)) np).trans (Ext.new (o := .tup ((["many", "not"] : List Str).map V.str)) np2)
    refine r_ix 1 rfl (e2.tup ha) rfl ⟨u, p', rfl, PatAt.ext e2 _ _ hu, hdp, by omega, fun H3 e3 => ⟨_, _, rfl, rfl, ?_⟩⟩
    have := q _ (e2.trans e3)
    rw [e] at this
    have e5 : (1 : Int) + ((p'.size : Nat) : Int) = ((p'.size + 1 : Nat) : Int) := by omega
    show Q (.int (1 + ((p'.size : Nat) : Int))) H3
    rw [e5]
    exact this
  cases p with
  | none => obtain ⟨a, rfl, ha⟩ := hp; exact nul _ a _ ha (by decide) (by decide) rfl rfl
  | empty => obtain ⟨a, rfl, ha⟩ := hp; exact nul _ a _ ha (by decide) (by decide) rfl rfl
  | sign c => obtain ⟨a, rfl, ha⟩ := hp; exact nul _ a _ ha (by decide) (by decide) rfl rfl
  | row ps => obtain ⟨a, b, vs, rfl, ha, hb, hps⟩ := hp; exact seq _ a b ps vs ha hb hps (by decide) rfl (by simp [Pat.dep] at hd; omega) rfl
  | or ps => obtain ⟨a, b, vs, rfl, ha, hb, hps⟩ := hp; exact seq _ a b ps vs ha hb hps (by decide) rfl (by simp [Pat.dep] at hd; omega) rfl
  | and ps => obtain ⟨a, b, vs, rfl, ha, hb, hps⟩ := hp; exact seq _ a b ps vs ha hb hps (by decide) rfl (by simp [Pat.dep] at hd; omega) rfl
  | many p => obtain ⟨a, u, rfl, ha, hu⟩ := hp; exact one _ a u p ha hu (by decide) (by decide) rfl (by simp [Pat.dep] at hd; omega) rfl
  | not p => obtain ⟨a, u, rfl, ha, hu⟩ := hp; exact one _ a u p ha hu (by decide) (by decide) rfl (by simp [Pat.dep] at hd; omega) rfl
end
end Bo
set_option Elab.async false
set_option linter.all false
set_option maxRecDepth 100000
/-! a list beside the empty list -/
namespace GE
open PySem PySem.Spec PyProof.Rows L2
variable {X : Cx}
def rEqNil (K : PySem.W.Frag) : R2 := fun x y H Q => ∃ a b xs, x = .ref a ∧ y = .ref b ∧ SqL K H a xs ∧ SqL K H b [] ∧ Q (.bl xs.isEmpty) H
def rNeNil (K : PySem.W.Frag) : R2 := fun x y H Q => ∃ a b xs, x = .ref a ∧ y = .ref b ∧ SqL K H a xs ∧ SqL K H b [] ∧ Q (.bl (!xs.isEmpty)) H
theorem op_eqNil (hu : X.A.units + 64 < cLine) : OpR X (compareOp .Eq) (rEqNil X.K) := by
  intro pins s σ H x y v u Q I rx ry h
  obtain ⟨a, b, xs, rfl, rfl, hs, hb, q⟩ := h
  cases (show v = Value.ref a from rx)
  cases (show u = Value.ref b from ry)
  obtain ⟨us, r1, p1, _⟩ := I.list hs
  obtain ⟨ws, r2, p2, _⟩ := I.list hb
  have e2 : ws = [] := by cases r2; rfl
  subst e2
  cases xs with
  | nil =>
    have e1 : us = [] := by cases r1; rfl
    subst e1
    refine SeqAt.RcAt.lists (e := fun _ => true) p1.isList p2.isList rfl (by omega) (fun j h1 h2 => absurd h1 (by simp)) _ _ _ _ ?_
    exact ⟨.bl true, H, I, rfl, q⟩
  | cons x xs =>
    refine SeqAt.RcAt.lists_lengths p1.isList p2.isList ?_ (by omega) _ _ _ _ ⟨.bl false, H, I, rfl, q⟩
    have := r1.length
    simp only [List.size_toArray, ← this]
    simp
theorem op_neNil (hu : X.A.units + 64 < cLine) : OpR X (compareOp .NotEq) (rNeNil X.K) := by
  intro pins s σ H x y v u Q I rx ry h
  obtain ⟨a, b, xs, rfl, rfl, hs, hb, q⟩ := h
  cases (show v = Value.ref a from rx)
  cases (show u = Value.ref b from ry)
  obtain ⟨us, r1, p1, _⟩ := I.list hs
  obtain ⟨ws, r2, p2, _⟩ := I.list hb
  have e2 : ws = [] := by cases r2; rfl
  subst e2
  cases xs with
  | nil =>
    have e1 : us = [] := by cases r1; rfl
    subst e1
    refine SeqAt.RcNeAt.lists (e := fun _ => true) p1.isList p2.isList rfl (by omega) (fun j h1 h2 => absurd h1 (by simp)) _ _ _ _ ?_
    exact ⟨.bl false, H, I, rfl, q⟩
  | cons x xs =>
    refine SeqAt.RcNeAt.lists_lengths p1.isList p2.isList ?_ (by omega) _ _ _ _ ⟨.bl true, H, I, rfl, q⟩
    have := r1.length
    simp only [List.size_toArray, ← this]
    simp
end GE
set_option Elab.async false
set_option linter.all false
set_option maxRecDepth 100000
set_option maxHeartbeats 4000000
namespace Bo
open PySem PySem.Spec PyProof.Rows L2 GE
theorem cut_to {vs : List V} {k : Nat} (h : k ≤ vs.length) : cutV vs none (Option.some (k : Int)) = vs.take k := by
  unfold cutV
  rw [HT.sIx_none, HT.sIx_nat, Nat.min_eq_left h, List.drop_zero, Nat.sub_zero]
theorem cut_from {vs : List V} {k : Nat} (h : k ≤ vs.length) : cutV vs (Option.some (k : Int)) none = vs.drop k := by
  unfold cutV
  rw [HT.sIx_none, HT.sIx_nat, Nat.min_eq_left h]
  exact List.take_of_length_le (by rw [List.length_drop]; exact Nat.le_refl _)
theorem cut_last1 {vs : List V} {v : V} : cutV (vs ++ [v]) none (Option.some (-1)) = vs := by
  unfold cutV
  rw [HT.sIx_none, List.drop_zero]
  have e : HT.sIx (vs ++ [v]).length (vs ++ [v]).length (Option.some (-1)) = vs.length := by
    show (if (-1 : Int) < 0 then ((-1 : Int) + ((vs ++ [v]).length : Int)).toNat else min (-1 : Int).toNat (vs ++ [v]).length) = vs.length
    rw [if_pos (by decide), List.length_append, List.length_singleton]
    omega
  rw [e, Nat.sub_zero, List.take_left]
theorem PatsAt.take {H : Hp} : ∀ {ps : List Pat} {vs : List V} (k : Nat), PatsAt H ps vs → PatsAt H (ps.take k) (vs.take k)
  | [], vs, k, h => by rw [show vs = [] from h]; simp; rfl
  | p :: ps, vs, 0, h => rfl
  | p :: ps, vs, k + 1, ⟨v, r, e, a, b⟩ => by rw [e]; exact ⟨v, r.take k, rfl, a, b.take k⟩
theorem PatsAt.drop {H : Hp} : ∀ {ps : List Pat} {vs : List V} (k : Nat), PatsAt H ps vs → PatsAt H (ps.drop k) (vs.drop k)
  | [], vs, k, h => by rw [show vs = [] from h]; simp; rfl
  | p :: ps, vs, 0, h => h
  | p :: ps, vs, k + 1, ⟨v, r, e, a, b⟩ => by rw [e]; exact b.drop k
theorem PatsAt.cast {H : Hp} {ps : List Pat} {vs us : List V} (e : vs = us) (h : PatsAt H ps us) : PatsAt H ps vs := e ▸ h
theorem PatsAt.one {H : Hp} {p : Pat} {v : V} (h : PatAt H p v) : PatsAt H [p] [v] := ⟨v, [], rfl, h, rfl⟩
def spSt : Sp := fun vs H Q _ => ∃ (L : Str) (a : Addr) (us : List V) (ps : List Pat) (z : Int), vs = [.str L, .ref a, .int z] ∧ goodS L = true ∧ H a = some (.lst us) ∧ PatsAt H ps us ∧ okL L ps ∧ sizeL ps ≤ 50 ∧
  ∀ b ws qs H', Ext H H' → H' b = some (.lst ws) → PatsAt H' qs ws → okL L qs → sizeL qs = sizeL ps + 1 → Q (.ref b) H'
theorem good_len {L : Str} (h : goodS L = true) : 1 ≤ L.cps.size ∧ L.cps.size ≤ 4 := by
  unfold goodS at h
  simp only [Bool.and_eq_true, decide_eq_true_eq] at h
  exact ⟨h.1.1.1, h.1.1.2⟩
/-- if c: t, and what comes behind, where c is known -/
theorem seq_fall {c : TT} {t rest : TS} {D : Ends} {σ : L2.St} {H : Hp} {cond : Prop} (hc : ∀ Q : Bool → Hp → Prop, (cond → ∀ H1, Ext H H1 → Q true H1) → (¬ cond → ∀ H1, Ext H H1 → Q false H1) → c σ H Q)
    (ht : cond → ∀ H1, Ext H H1 → t { D with nx := rest D } σ H1) (hr : ¬ cond → ∀ H1, Ext H H1 → rest D σ H1) : tSeq (tIfS c t tNext) rest D σ H :=
  hc _ (fun k H1 e => iffT rfl (ht k H1 e)) (fun k H1 e => iffF rfl (hr k H1 e))
theorem call_min2m {X : Cx} (hc : X.calm = true) : CallR X (.builtin "min") (fun xs H Q => ∃ i j m, xs = [.int i, .int j] ∧ (if j < i then j else i) = m ∧ Q (.int m) H) := by
  intro pins s σ H xs us Q I r h
  obtain ⟨i, j, m, e, hm, q⟩ := h
  exact call_min2 hc pins s σ H xs us Q I r ⟨i, j, e, hm.symm ▸ q⟩
theorem kind3 (L : Str) {kd : Int} (h : 4 < kd ∧ kd < 8) : ∃ (k : Str) (mk : List Pat → Pat), atI [V.str "row", V.str "or", V.str "and"] (kd - 5) = Option.some (.str k) ∧
    (∀ (H : Hp) (ps : List Pat) (a b : Addr) (vs : List V), H a = Option.some (.tup [.str k, .ref b]) → H b = Option.some (.tup vs) → PatsAt H ps vs → PatAt H (mk ps) (.ref a)) ∧
    (∀ ps, 2 ≤ ps.length → okL L ps → (mk ps).ok L) ∧ ∀ ps, (mk ps).size = sizeL ps + 1 := by
  have : kd = 5 ∨ kd = 6 ∨ kd = 7 := by omega
  rcases this with rfl | rfl | rfl
  · exact ⟨"row", Pat.row, rfl, fun H ps a b vs h1 h2 h3 => ⟨a, b, vs, rfl, h1, h2, h3⟩, fun ps h1 h2 => ⟨h1, h2⟩, fun ps => rfl⟩
  · exact ⟨"or", Pat.or, rfl, fun H ps a b vs h1 h2 h3 => ⟨a, b, vs, rfl, h1, h2, h3⟩, fun ps h1 h2 => ⟨h1, h2⟩, fun ps => rfl⟩
  · exact ⟨"and", Pat.and, rfl, fun H ps a b vs h1 h2 h3 => ⟨a, b, vs, rfl, h1, h2, h3⟩, fun ps h1 h2 => ⟨h1, h2⟩, fun ps => rfl⟩
theorem kind1 (L : Str) {kd : Int} (h : 7 < kd ∧ kd < 11) : ∃ (k : Str) (mk : Pat → Pat), atI [V.str "many", V.str "not", V.str "many"] (kd - 8) = Option.some (.str k) ∧
    (∀ (H : Hp) (p : Pat) (a : Addr) (u : V), H a = Option.some (.tup [.str k, u]) → PatAt H p u → PatAt H (mk p) (.ref a)) ∧
    (∀ p : Pat, p.ok L → (mk p).ok L) ∧ ∀ p, (mk p).size = p.size + 1 := by
  have : kd = 8 ∨ kd = 9 ∨ kd = 10 := by omega
  rcases this with rfl | rfl | rfl
  · exact ⟨"many", Pat.many, rfl, fun H p a u h1 h2 => ⟨a, u, rfl, h1, h2⟩, fun p h => h, fun p => rfl⟩
  · exact ⟨"not", Pat.not, rfl, fun H p a u h1 h2 => ⟨a, u, rfl, h1, h2⟩, fun p h => h, fun p => rfl⟩
  · exact ⟨"many", Pat.many, rfl, fun H p a u h1 h2 => ⟨a, u, rfl, h1, h2⟩, fun p h => h, fun p => rfl⟩
section
variable {P : Program} {w : World} {K : PySem.W.Frag} {mg : Str → Option Value} {base : Heap}
theorem scSt : FnScope ["_law_letters_here", "_law_stack", "_law_cell", "_law_rest", "_law_kind_here", "_law_many"] ["_law_letters_here", "_law_stack", "_law_cell"] (defScope sLawStep) := ⟨rfl, rfl, rfl, by decide +kernel, rfl, by decide +kernel, by decide +kernel⟩
theorem st_ok {f : Addr} {fd : FuncData} (F : FnP K "_law_step" sLawStep f fd) (ml : mg "len" = none) (mm : mg "min" = none) (mt : mg "tuple" = none) : FnOk P w K mg base CX0 1 f fd ["_law_letters_here", "_law_stack", "_law_cell"] spSt := by
  refine okD F scSt (fun vs H Q E h => ?_) (fun cdv A outer s H vs Q E hr h => ?_)
  · obtain ⟨L, a, us, ps, z, rfl, _⟩ := h
    rfl
  obtain ⟨L, a, us, ps, z, rfl, hL, ha, hps, hok, hsz, q⟩ := h
  refine ⟨_, pss_cons (ps_set (i := 3) scSt.nd rfl (Or.inl rfl) (pe_op op_fdiv (pv 2) pe_int))
    (pss_cons (ps_set (i := 4) scSt.nd rfl (Or.inl rfl) (pe_op op_mod (pv 2) pe_int))
    (pss_cons (ps_if (PW.pt (pw_and (pt_cmpR op_gt (pv 4) pe_int (nomark _)) (pw_and (pt_cmpR op_lt (pv 4) pe_int (nomark _)) (pw_and1 (pt_cmpR op_gt (pe_callB call_len rfl ml PySem.boot_len (pa_cons (pv 1) pa_nil)) pe_int (nomark _))))))
      (pss_cons (ps_set (i := 5) scSt.nd rfl (Or.inl rfl) (pe_callB (call_min2m rfl) rfl mm boot_min (pa_cons (pe_callB call_len rfl ml PySem.boot_len (pa_cons (pv 1) pa_nil)) (pa_cons (pe_op op_add pe_int (pe_op op_mod (pv 3) pe_int)) pa_nil))))
      (pss_one (ps_ret (pe_op op_cat (pe_slice sl_list (pv 1) po_none (po_some (pe_op op_sub (pe_callB call_len rfl ml PySem.boot_len (pa_cons (pv 1) pa_nil)) (pv 5))))
        (pe_lst (pa_cons (pe_tup (pa_cons (pe_ix ix_list (pe_lst (pa_cons pe_str (pa_cons pe_str (pa_cons pe_str pa_nil)))) (pe_op op_sub (pv 4) pe_int) (fun _ _ => rfl))
          (pa_cons (pe_tupleOf rfl mt (pe_slice sl_list (pv 1) (po_some (pe_op op_sub (pe_callB call_len rfl ml PySem.boot_len (pa_cons (pv 1) pa_nil)) (pv 5))) po_none)) pa_nil))) pa_nil)))))) pss_nil)
    (pss_cons (ps_if (PW.pt (pw_and (pt_cmpR op_gt (pv 4) pe_int (nomark _)) (pw_and1 (pt_cmpR (op_neNil hr.units) (pv 1) (pe_lst pa_nil) (by rfl)))))
      (pss_one (ps_ret (pe_op op_cat (pe_slice sl_list (pv 1) po_none (po_some (pe_un un_neg pe_int)))
        (pe_lst (pa_cons (pe_tup (pa_cons (pe_ix ix_list (pe_lst (pa_cons pe_str (pa_cons pe_str (pa_cons pe_str pa_nil)))) (pe_op op_sub (pv 4) pe_int) (fun _ _ => rfl))
          (pa_cons (pe_ix ix_list (pv 1) (pe_un un_neg pe_int) (fun _ _ => rfl)) pa_nil))) pa_nil))))) pss_nil)
    (pss_cons (ps_if (pt_cmpR op_eq (pv 4) pe_int (nomark _))
      (pss_one (ps_ret (pe_op op_cat (pv 1) (pe_lst (pa_cons (pe_ix ix_list (pe_lst (pa_cons (pe_tup (pa_cons pe_str pa_nil)) (pa_cons (pe_tup (pa_cons pe_str pa_nil)) (pa_cons (pe_tup (pa_cons pe_str pa_nil)) pa_nil)))) (pe_op op_mod (pv 3) pe_int) (fun _ _ => rfl)) pa_nil))))) pss_nil)
    (pss_one (ps_ret (pe_op op_cat (pv 1) (pe_lst (pa_cons (pe_tup (pa_cons pe_str (pa_cons (pe_ix ix_str (pv 0) (pe_op op_mod (pv 3) (pe_callB call_len rfl ml PySem.boot_len (pa_cons (pv 0) pa_nil))) (fun _ _ => rfl)) pa_nil))) pa_nil))))))))), ?_⟩
  have hlen := hps.len
  have hle := len_le_sizeL ps
  have sq : ∀ H', Ext H H' → SqL K H' a us := fun H' e => SqL.of (e.lst ha)
  -- the rest of the cell and its kind
  refine t_set ⟨_, rfl, _, _, rfl, rfl, show (0 : Int) < 11 ∧ (11 : Int) < 1073741824 by decide, ?_⟩
  refine t_set ⟨_, rfl, _, _, rfl, rfl, show (0 : Int) < 11 by decide, ?_⟩
  have hkd : 0 ≤ z % 11 ∧ z % 11 < 11 := by omega
  have l9 : ∀ n : Nat, n ≤ 500 → n ≤ sizeLine := fun n h => Nat.le_trans h (by decide)
  refine seq_fall (cond := 4 < z % 11 ∧ z % 11 < 8 ∧ 1 < us.length) (fun R qT qF => ?_) (fun ⟨k1, k2, k3⟩ H1 e1 => ?_) (fun n1 H1 e1 => seq_fall (cond := 7 < z % 11 ∧ us ≠ []) (fun R qT qF => ?_) (fun ⟨k1, k2⟩ H2 e2 => ?_) (fun n2 H2 e2 => seq_fall (cond := z % 11 = 4) (fun R qT qF => ?_) (fun k1 H3 e3 => ?_) (fun n3 H3 e3 => ?_)))
  · refine ⟨_, rfl, _, _, rfl, rfl, _, rfl, ?_⟩
    by_cases a1 : 4 < z % 11
    · refine iffT (decide_eq_true a1) ⟨_, rfl, _, _, rfl, rfl, _, rfl, ?_⟩
      by_cases a2 : z % 11 < 8
      · refine iffT (decide_eq_true a2) ⟨_, rfl, .ref a, _, rfl, .inl ⟨_, sq H (Ext.refl _), rfl⟩, _, _, rfl, rfl, _, rfl, ?_⟩
        by_cases a3 : 1 < us.length
        · rw [decide_eq_true (by omega)]; exact qT ⟨a1, a2, a3⟩ _ (Ext.refl _)
        · rw [decide_eq_false (by omega)]; exact qF (fun h => a3 h.2.2) _ (Ext.refl _)
      · exact iffF (decide_eq_false a2) (qF (fun h => a2 h.2.1) _ (Ext.refl _))
    · exact iffF (decide_eq_false a1) (qF (fun h => a1 h.1) _ (Ext.refl _))
  · obtain ⟨m, hm, m2, ml9⟩ : ∃ m : Nat, (if 2 + z / 11 % 2 < ((us.length : Nat) : Int) then 2 + z / 11 % 2 else ((us.length : Nat) : Int)) = (m : Int) ∧ 2 ≤ m ∧ m ≤ us.length := by
      refine ⟨(if 2 + z / 11 % 2 < ((us.length : Nat) : Int) then 2 + z / 11 % 2 else ((us.length : Nat) : Int)).toNat, ?_, ?_, ?_⟩ <;> split <;> omega
    refine t_set ⟨_, rfl, .ref a, _, rfl, .inl ⟨_, sq H1 e1, rfl⟩, _, rfl, _, _, rfl, rfl, show (0 : Int) < 2 by decide, _, _, rfl, rfl, _, _, _, rfl, hm, ?_⟩
    obtain ⟨k, mk, hk, hp9, ho9, hs9⟩ := kind3 L ⟨k1, k2⟩
    have em : ((us.length : Nat) : Int) - (m : Int) = ((us.length - m : Nat) : Int) := by omega
    refine ⟨_, rfl, _, rfl, .ref a, _, rfl, .inl ⟨_, sq H1 e1, rfl⟩, _, rfl, _, _, rfl, rfl, _, rfl, a, us, rfl, sq H1 e1, fun p1 x1 => ?_⟩
    have f1 := e1.trans (Ext.new (o := .lst (cutV us none (Option.some (((us.length : Nat) : Int) - (m : Int))))) x1)
    refine ⟨by show 3 ≤ sizeLine; decide, fun p2 x2 => ⟨_, rfl, _, _, rfl, rfl, p2, _, _, _, rfl, rfl, SqL.of upd_same, hk, ?_⟩⟩
    have f2 := f1.trans (Ext.new (o := .lst [V.str "row", V.str "or", V.str "and"]) x2)
    refine ⟨_, rfl, _, rfl, .ref a, _, rfl, .inl ⟨_, sq _ f2, rfl⟩, _, rfl, _, _, rfl, rfl, _, rfl, a, us, rfl, sq _ f2, fun p3 x3 => .inl ⟨p3, _, rfl, SqL.of upd_same, fun p4 x4 => ?_⟩⟩
    have f3 := f2.trans (Ext.new (o := .lst (cutV us (Option.some (((us.length : Nat) : Int) - (m : Int))) none)) x3)
    have f4 := f3.trans (Ext.new (o := .tup (cutV us (Option.some (((us.length : Nat) : Int) - (m : Int))) none)) x4)
    refine ⟨by show 2 ≤ sizeLine; decide, fun p5 x5 => ⟨by show 1 ≤ sizeLine; decide, fun p6 x6 => ?_⟩⟩
    have f5 := f4.trans (Ext.new (o := .tup [V.str k, .ref p4]) x5)
    have f6 := f5.trans (Ext.new (o := .lst [.ref p5]) x6)
    have c1 : cutV us none (Option.some (((us.length : Nat) : Int) - (m : Int))) = us.take (us.length - m) := by rw [em]; exact cut_to (by omega)
    have c2 : cutV us (Option.some (((us.length : Nat) : Int) - (m : Int))) none = us.drop (us.length - m) := by rw [em]; exact cut_from (by omega)
    have g1 := (((((Ext.new (o := .lst [V.str "row", V.str "or", V.str "and"]) x2).trans (Ext.new (o := .lst (cutV us (Option.some (((us.length : Nat) : Int) - (m : Int))) none)) x3)).trans (Ext.new (o := .tup (cutV us (Option.some (((us.length : Nat) : Int) - (m : Int))) none)) x4)).trans (Ext.new (o := .tup [V.str k, .ref p4]) x5)).trans (Ext.new (o := .lst [.ref p5]) x6)).lst upd_same
    refine ⟨p1, p6, _, _, rfl, rfl, g1, upd_same, ?_, fun p7 x7 => ?_⟩
    · rw [c1, List.length_take]; exact l9 _ (by rw [List.length_singleton]; omega)
    have f7 := f6.trans (Ext.new (o := .lst (cutV us none (Option.some (((us.length : Nat) : Int) - (m : Int))) ++ [.ref p5])) x7)
    refine q p7 _ (ps.take (us.length - m) ++ [mk (ps.drop (us.length - m))]) _ f7 upd_same ?_ ?_ ?_
    · refine PatsAt.cast (congrArg (· ++ [V.ref p5]) c1) (((PatsAt.ext f7 _ _ hps).take _).append (PatsAt.one ?_))
      have e56 := (Ext.new (o := .lst [.ref p5]) x6).trans (Ext.new (o := .lst (cutV us none (Option.some (((us.length : Nat) : Int) - (m : Int))) ++ [.ref p5])) x7)
      have e4 := (Ext.new (o := .tup [V.str k, .ref p4]) x5).trans e56
      refine hp9 _ _ p5 p4 (us.drop (us.length - m)) (e56.tup upd_same) ?_ ((PatsAt.ext f7 _ _ hps).drop _)
      rw [← c2]
      exact e4.tup upd_same
    · have hok2 : okL L (ps.take (us.length - m) ++ ps.drop (us.length - m)) := by rw [List.take_append_drop]; exact hok
      obtain ⟨o1, o2⟩ := okL_append.mp hok2
      exact okL_append.mpr ⟨o1, ho9 _ (by rw [List.length_drop]; omega) o2, trivial⟩
    · have hz2 : sizeL (ps.take (us.length - m) ++ ps.drop (us.length - m)) = sizeL ps := by rw [List.take_append_drop]
      rw [sizeL_append] at hz2
      rw [sizeL_append, sizeL_one, hs9]
      omega
  · refine ⟨_, rfl, _, _, rfl, rfl, _, rfl, ?_⟩
    by_cases a1 : 7 < z % 11
    · refine iffT (decide_eq_true a1) ⟨_, rfl, Nat.zero_le _, fun p x => ⟨a, p, us, rfl, rfl, sq _ (e1.trans (Ext.new x)), SqL.of upd_same, _, rfl, ?_⟩⟩
      by_cases a2 : us = []
      · subst a2; exact qF (fun h => h.2 rfl) _ (Ext.new x)
      · have : us.isEmpty = false := by cases us with | nil => exact absurd rfl a2 | cons => rfl
        rw [this]; exact qT ⟨a1, a2⟩ _ (Ext.new x)
    · exact iffF (decide_eq_false a1) (qF (fun h => a1 h.1) _ (Ext.refl _))
  · obtain ⟨k, mk, hk, hp9, ho9, hs9⟩ := kind1 L ⟨k1, hkd.2⟩
    have e12 := e1.trans e2
    rcases List.eq_nil_or_concat ps with rfl | ⟨ps, r, rfl⟩
    · exact absurd hps k2
    rw [List.concat_eq_append] at hps hok q hsz hlen hle
    obtain ⟨vs, y, rfl, hvs, hy⟩ := cut_last hps
    obtain ⟨o1, o2, _⟩ := okL_append.mp hok
    have hs0 : sizeL (ps ++ [r]) = sizeL ps + r.size := by rw [sizeL_append, sizeL_one]
    have hlv := hvs.len
    have hlp := len_le_sizeL ps
    refine ⟨_, rfl, _, rfl, _, rfl, a, _, rfl, sq _ e12, fun p1 x1 => ⟨by show 3 ≤ sizeLine; decide, fun p2 x2 => ⟨_, rfl, _, _, rfl, rfl, p2, _, _, _, rfl, rfl, SqL.of upd_same, hk, ?_⟩⟩⟩
    have f1 := e12.trans (Ext.new (o := .lst (cutV (vs ++ [y]) none (Option.some (-1)))) x1)
    have f2 := f1.trans (Ext.new (o := .lst [V.str "many", V.str "not", V.str "many"]) x2)
    refine ⟨_, rfl, _, rfl, a, _, _, y, rfl, rfl, sq _ f2, atI_last _ _, ⟨by show 2 ≤ sizeLine; decide, fun p3 x3 => ⟨by show 1 ≤ sizeLine; decide, fun p4 x4 => ?_⟩⟩⟩
    have f3 := f2.trans (Ext.new (o := .tup [V.str k, y]) x3)
    have f4 := f3.trans (Ext.new (o := .lst [.ref p3]) x4)
    have g1 := (((Ext.new (o := .lst [V.str "many", V.str "not", V.str "many"]) x2).trans (Ext.new (o := .tup [V.str k, y]) x3)).trans (Ext.new (o := .lst [.ref p3]) x4)).lst upd_same
    refine ⟨p1, p4, _, _, rfl, rfl, g1, upd_same, ?_, fun p5 x5 => ?_⟩
    · rw [cut_last1]; exact l9 _ (by rw [List.length_singleton]; omega)
    have f5 := f4.trans (Ext.new (o := .lst (cutV (vs ++ [y]) none (Option.some (-1)) ++ [.ref p3])) x5)
    refine q p5 _ (ps ++ [mk r]) _ f5 upd_same ?_ (okL_append.mpr ⟨o1, ho9 _ o2, trivial⟩) ?_
    · refine PatsAt.cast (congrArg (· ++ [V.ref p3]) cut_last1) ((PatsAt.ext f5 _ _ hvs).append (PatsAt.one (hp9 _ r p3 y ?_ (PatAt.ext f5 _ _ hy))))
      exact ((Ext.new (o := .lst [.ref p3]) x4).trans (Ext.new (o := .lst (cutV (vs ++ [y]) none (Option.some (-1)) ++ [.ref p3])) x5)).tup upd_same
    · rw [sizeL_append, sizeL_one, hs9, hs0]; omega
  · refine ⟨_, rfl, rfl, _, rfl, ?_⟩
    rw [dec_int]
    by_cases a1 : z % 11 = 4
    · rw [show (z % 11 == 4) = true from beq_iff_eq.mpr a1]; exact qT a1 _ (Ext.refl _)
    · rw [show (z % 11 == 4) = false from beq_eq_false_iff_ne.mpr a1]; exact qF a1 _ (Ext.refl _)
  · have f0 := (e1.trans e2).trans e3
    refine ⟨_, rfl, ⟨by show 1 ≤ sizeLine; decide, fun p1 x1 => ⟨by show 1 ≤ sizeLine; decide, fun p2 x2 => ⟨by show 1 ≤ sizeLine; decide, fun p3 x3 => ⟨by show 3 ≤ sizeLine; decide, fun p4 x4 => ?_⟩⟩⟩⟩⟩
    have t1 := Ext.new (o := .tup [V.str "empty"]) x1
    have t2 := Ext.new (o := .tup [V.str "none"]) x2
    have t3 := Ext.new (o := .tup [V.str "empty"]) x3
    have t4 := Ext.new (o := .lst [.ref p1, .ref p2, .ref p3]) x4
    obtain ⟨y, r, hy, hr, hs1, ho1⟩ : ∃ (y : V) (r : Pat), atI [V.ref p1, V.ref p2, V.ref p3] (z / 11 % 3) = Option.some y ∧ PatAt _ r y ∧ r.size = 1 ∧ r.ok L := by
      have : z / 11 % 3 = 0 ∨ z / 11 % 3 = 1 ∨ z / 11 % 3 = 2 := by omega
      rcases this with h | h | h <;> rw [h]
      · exact ⟨.ref p1, .empty, rfl, ⟨p1, rfl, ((t2.trans t3).trans t4).tup upd_same⟩, rfl, trivial⟩
      · exact ⟨.ref p2, .none, rfl, ⟨p2, rfl, (t3.trans t4).tup upd_same⟩, rfl, trivial⟩
      · exact ⟨.ref p3, .empty, rfl, ⟨p3, rfl, t4.tup upd_same⟩, rfl, trivial⟩
    refine ⟨_, rfl, _, _, rfl, rfl, show (0 : Int) < 3 by decide, p4, _, _, y, rfl, rfl, SqL.of upd_same, hy, ?_⟩
    refine ⟨by show 1 ≤ sizeLine; decide, fun p5 x5 => ?_⟩
    have f4 := (((f0.trans t1).trans t2).trans t3).trans t4
    have f5 := f4.trans (Ext.new (o := .lst [y]) x5)
    refine ⟨a, p5, _, _, rfl, rfl, f5.lst ha, upd_same, l9 _ (by rw [List.length_singleton]; omega), fun p6 x6 => ?_⟩
    have t6 := Ext.new (o := .lst (us ++ [y])) x6
    refine q p6 _ (ps ++ [r]) _ (f5.trans t6) upd_same ((PatsAt.ext (f5.trans t6) _ _ hps).append (PatsAt.one (PatAt.ext ((Ext.new (o := .lst [y]) x5).trans t6) _ _ hr))) (okL_append.mpr ⟨hok, ho1, trivial⟩) ?_
    rw [sizeL_append, sizeL_one, hs1]
  · have f0 := (e1.trans e2).trans e3
    obtain ⟨hL1, hL4⟩ := good_len hL
    have hcl : (cds L).length = L.cps.size := Array.length_toList
    have hm : 0 ≤ z / 11 % ((L.length : Nat) : Int) ∧ z / 11 % ((L.length : Nat) : Int) < ((L.length : Nat) : Int) := by
      have h0 : (0 : Int) < ((L.length : Nat) : Int) := by show (0 : Int) < ((L.cps.size : Nat) : Int); omega
      exact ⟨Int.emod_nonneg _ (by omega), Int.emod_lt_of_pos _ h0⟩
    obtain ⟨j, hj⟩ : ∃ j : Nat, z / 11 % ((L.length : Nat) : Int) = (j : Int) := ⟨_, (Int.toNat_of_nonneg hm.1).symm⟩
    have hjl : j < (cds L).length := by
      have := hm.2
      rw [hj] at this
      rw [hcl]
      show j < L.length
      omega
    have hlL : L.length ≤ sizeLine := Nat.le_trans hL4 (by decide)
    refine ⟨_, rfl, _, rfl, _, rfl, _, rfl, .str L, _, rfl, ⟨hlL, rfl⟩, _, _, rfl, rfl, ?_, L, _, (cds L)[j], rfl, rfl, hlL, ?_, ?_⟩
    · show (0 : Int) < ((L.length : Nat) : Int)
      show (0 : Int) < ((L.cps.size : Nat) : Int)
      omega
    · rw [hj]; exact atI_nat (List.getElem?_eq_getElem hjl)
    refine ⟨by show 2 ≤ sizeLine; decide, fun p1 x1 => ⟨by show 1 ≤ sizeLine; decide, fun p2 x2 => ?_⟩⟩
    have t1 := Ext.new (o := .tup [V.str "sign", .str ⟨#[(cds L)[j]]⟩]) x1
    have t2 := Ext.new (o := .lst [.ref p1]) x2
    have f2 := (f0.trans t1).trans t2
    refine ⟨a, p2, _, _, rfl, rfl, f2.lst ha, upd_same, l9 _ (by rw [List.length_singleton]; omega), fun p3 x3 => ?_⟩
    have t3 := Ext.new (o := .lst (us ++ [.ref p1])) x3
    refine q p3 _ (ps ++ [.sign (cds L)[j]]) _ (f2.trans t3) upd_same ((PatsAt.ext (f2.trans t3) _ _ hps).append (PatsAt.one (p := Pat.sign (cds L)[j]) (by exact ⟨p1, rfl, (t2.trans t3).tup upd_same⟩))) (okL_append.mpr ⟨hok, (show Pat.ok L (.sign (cds L)[j]) from List.getElem_mem hjl), trivial⟩) ?_
    rw [sizeL_append, sizeL_one]
    rfl
end
end Bo
set_option Elab.async false
set_option linter.all false
set_option maxRecDepth 100000
set_option maxHeartbeats 4000000
namespace Bo
open PySem PySem.Spec PyProof.Rows L2 GE
def spDr (K : PySem.W.Frag) : Sp := fun vs H Q _ => ∃ (L : Str) (a : Addr) (ns : List Int), vs = [.str L, .ref a, .int 50] ∧ goodS L = true ∧ SqL K H a (ns.map V.int) ∧ ns.length ≤ 100 ∧
  ∀ v p H', Ext H H' → PatAt H' p v → p.ok L → p.size ≤ 50 → Q v H'
theorem sizes_eq (ps : List Pat) (n : Nat) (hn : n = ps.length) : (List.range n).map (fun i => nV ((ps.map Pat.size).getD i 0)) = ((ps.map Pat.size).map (fun (n : Nat) => (n : Int))).map V.int := by
  subst hn
  rw [List.map_map]
  refine List.ext_getElem? fun i => ?_
  rw [List.getElem?_map, List.getElem?_map]
  by_cases hi : i < ps.length
  · rw [List.getElem?_range hi, List.getElem?_eq_getElem (by simpa using hi)]
    simp [List.getD, hi]
  · rw [List.getElem?_eq_none (by simpa using hi), List.getElem?_eq_none (by simpa using hi)]
    rfl
theorem depL_le {ps : List Pat} {p : Pat} (h : p ∈ ps) : p.dep ≤ sizeL ps := Nat.le_trans (dep_le_size p) (size_mem h)
theorem kindm (L : Str) (n : Nat) : ∃ (k : Str) (mk : List Pat → Pat), atI [V.str "row", V.str "or", V.str "and"] ((n : Int) % 3) = Option.some (.str k) ∧
    (∀ (H : Hp) (ps : List Pat) (a b : Addr) (vs : List V), H a = Option.some (.tup [.str k, .ref b]) → H b = Option.some (.tup vs) → PatsAt H ps vs → PatAt H (mk ps) (.ref a)) ∧
    (∀ ps, 2 ≤ ps.length → okL L ps → (mk ps).ok L) ∧ ∀ ps, (mk ps).size = sizeL ps + 1 := by
  obtain ⟨k, mk, h1, h2⟩ := kind3 L (kd := (n : Int) % 3 + 5) (by omega)
  rw [show (n : Int) % 3 + 5 - 5 = (n : Int) % 3 by omega] at h1
  exact ⟨k, mk, h1, h2⟩
section
variable {P : Program} {w : World} {K : PySem.W.Frag} {mg : Str → Option Value} {base : Heap}
theorem scDr : FnScope ["_law_letters_here", "_law_cells", "_law_most", "_law_stack", "_law_cell", "_law_later", "_law_one"] ["_law_letters_here", "_law_cells", "_law_most"] (defScope sLawDrawn) := ⟨rfl, rfl, rfl, by decide +kernel, rfl, by decide +kernel, by decide +kernel⟩
theorem dr_ok {f g k : Addr} {fd gd kd : FuncData} (F : FnP K "_law_drawn" sLawDrawn f fd) (G : FnOk P w K mg base CX0 1 g gd ["_law_letters_here", "_law_stack", "_law_cell"] spSt) (bG : Binds K gd ["_law_letters_here", "_law_stack", "_law_cell"] []) (kG : PySem.W.keepIn K (.ref g) = true) (mG : mg "_law_step" = some (.ref g))
    (J : FnOk P w K mg base CX0 60 k kd ["_law_pattern"] (spLS 60)) (bJ : Binds K kd ["_law_pattern"] []) (kJ : PySem.W.keepIn K (.ref k) = true) (mJ : mg "_law_size" = some (.ref k)) (ml : mg "len" = none) (ms : mg "sum" = none) (mt : mg "tuple" = none) : FnOk P w K mg base CX0 61 f fd ["_law_letters_here", "_law_cells", "_law_most"] (spDr K) := by
  refine okD F scDr (fun vs H Q E h => ?_) (fun cdv A outer s H vs Q E hr h => ?_)
  · obtain ⟨L, a, ns, rfl, _⟩ := h
    rfl
  obtain ⟨L, a, ns, rfl, hL, hS, hns, q⟩ := h
  refine ⟨_, pss_cons (ps_set (i := 3) scDr.nd rfl (Or.inl rfl) (pe_lst pa_nil))
    (pss_cons (ps_for PassesOwn.never rfl (pi_list (pv 1)) (pg_name (i := 4) scDr.nd rfl (Or.inl rfl))
      (pss_cons (ps_set (i := 5) scDr.nd rfl (Or.inl rfl) (pe_call G (hr.mono (by omega)) rfl mG kG bG .nil pass0 (pa_cons (pv 0) (pa_cons (pv 3) (pa_cons (pv 4) pa_nil)))))
      (pss_one (ps_if (pt_cmpR op_lt (pe_callB (cr_sum rfl) rfl ms boot_sum (pa_cons (pe_lc (own := [("_law_one", 6)]) (g := gName 6) (tt := tYes) rfl scDr.nd (pi_list (pv 5))
        (blkOk_by (N := ["_law_letters_here", "_law_cells", "_law_most", "_law_stack", "_law_cell", "_law_later", "_law_one"]) (sc := defScope sLawDrawn) (by decide +kernel))
        (fun _ _ _ _ _ => pg_name (i := 6) scDr.nd rfl (Or.inl rfl) (Or.inr rfl)) (fun _ _ _ _ _ => pts_nil)
        (fun _ _ _ _ _ => pe_call J hr rfl mJ kJ bJ .nil pass0 (pa_cons (pv 6) pa_nil))) pa_nil)) (pv 2) (nomark _)) (pss_one (ps_set (i := 3) scDr.nd rfl (Or.inl rfl) (pv 5))) pss_nil))))
    (pss_cons (ps_if (pt_cmpR (op_eqNil hr.units) (pv 3) (pe_lst pa_nil) (by rfl)) (pss_one (ps_ret (pe_tup (pa_cons pe_str pa_nil)))) pss_nil)
    (pss_cons (ps_if (pt_cmpR op_eq (pe_callB call_len rfl ml PySem.boot_len (pa_cons (pv 3) pa_nil)) pe_int (nomark _)) (pss_one (ps_ret (pe_ix ix_list (pv 3) pe_int (fun _ _ => rfl)))) pss_nil)
    (pss_one (ps_ret (pe_tup (pa_cons (pe_ix ix_list (pe_lst (pa_cons pe_str (pa_cons pe_str (pa_cons pe_str pa_nil)))) (pe_op op_mod (pe_callB call_len rfl ml PySem.boot_len (pa_cons (pv 1) pa_nil)) pe_int) (fun _ _ => rfl))
      (pa_cons (pe_tupleOf rfl mt (pv 3)) pa_nil)))))))), ?_⟩
  have sq : ∀ H', Ext H H' → SqL K H' a (ns.map V.int) := fun H' e => e.sqL hS
  have l9 : ∀ n : Nat, n ≤ 500 → n ≤ sizeLine := fun n h => Nat.le_trans h (by decide)
  refine t_set ⟨Nat.zero_le _, fun p0 x0 => ?_⟩
  refine t_seq ⟨_, rfl, a, rfl, ⟨_, sq _ (Ext.new x0)⟩, ?_⟩
  refine for_list (K := K) (a := a) (xs := ns.map V.int) (fun i σ' H' => ∃ b ws qs c1 c2, σ' = [Option.some (.str L), Option.some (.ref a), Option.some (.int 50), Option.some (.ref b), c1, c2, none] ∧ Ext H H' ∧ H' b = Option.some (.lst ws) ∧ PatsAt H' qs ws ∧ okL L qs ∧ sizeL qs ≤ 49) ?_ ?_ ?_ ?_
  · exact ⟨p0, [], [], none, none, rfl, Ext.new x0, upd_same, rfl, trivial, Nat.zero_le _⟩
  · rintro i σ' H' hi ⟨b, ws, qs, c1, c2, rfl, e, _⟩
    exact sq _ e
  · rintro i x σ' H' hx ⟨b, ws, qs, c1, c2, rfl, e, hb, hq, hk, hz⟩
    obtain ⟨z, rfl⟩ : ∃ z : Int, x = .int z := by
      rw [List.getElem?_map] at hx
      cases h9 : ns[i]? with
      | none => rw [h9] at hx; cases hx
      | some z => rw [h9] at hx; exact ⟨z, (Option.some.inj hx).symm⟩
    refine t_set ⟨_, rfl, _, rfl, _, rfl, L, b, ws, qs, z, rfl, hL, hb, hq, hk, by omega, fun b2 ws2 qs2 H2 e2 hb2 hq2 hk2 hz2 => ?_⟩
    have e02 := e.trans e2
    refine ⟨_, rfl, b2, rfl, ⟨_, SqL.of hb2⟩, fun D hD => ?_⟩
    refine lc_list (K := K) (a := b2) (xs := ws2) (Built H2 D fun i => nV ((qs2.map Pat.size).getD i 0)) (Built.zero hD) (fun i H' _ bu => SqL.of (bu.1.lst hb2)) ?_ ?_
    · intro j y H3 hy bu
      refine ⟨rfl, ?_⟩
      obtain ⟨r, hr9, hrx⟩ := hq2.get hy
      have hm := List.mem_of_getElem? hr9
      refine ⟨_, rfl, y, r, rfl, PatAt.ext bu.1 _ _ hrx, Nat.le_trans (depL_le hm) (by omega), Nat.le_trans (size_mem hm) (by omega), fun H4 e4 => ?_⟩
      have hlt : j < qs2.length := (List.getElem?_eq_some_iff.mp hr9).1
      have := len_le_sizeL qs2
      refine bu.next hD e4 ?_ (Nat.lt_of_lt_of_le (show j < 500 by omega) (by decide))
      rw [List.getD_eq_getElem?_getD, List.getElem?_map, hr9]
      rfl
    · intro H3 bu
      have hbu := bu.2
      rw [sizes_eq qs2 _ hq2.len] at hbu
      have e23 := bu.1
      refine ⟨D, _, rfl, SqL.of hbu, _, rfl, _, _, rfl, rfl, _, rfl, ?_⟩
      rw [sum_nV, ← sizeL_sum]
      by_cases hlt : sizeL qs2 < 50
      · refine iffT (decide_eq_true (by omega)) ⟨_, rfl, ?_⟩
        exact ⟨b2, ws2, qs2, _, _, rfl, e02.trans e23, e23.lst hb2, PatsAt.ext e23 _ _ hq2, hk2, by omega⟩
      · refine iffF (decide_eq_false (by omega)) ?_
        have e13 := e2.trans e23
        exact ⟨b, ws, qs, _, _, rfl, e02.trans e23, e13.lst hb, PatsAt.ext e13 _ _ hq, hk, hz⟩
  · rintro σ' H' ⟨b, ws, qs, c1, c2, rfl, e, hb, hq, hk, hz⟩
    have hlen := hq.len
    have hle := len_le_sizeL qs
    dsimp only
    refine seq_fall (cond := ws = []) (fun R qT qF => ?_) (fun k1 H1 e1 => ?_) (fun n1 H1 e1 => seq_fall (cond := ws.length = 1) (fun R qT qF => ?_) (fun k1 H2 e2 => ?_) (fun n2 H2 e2 => ?_))
    · refine ⟨_, rfl, Nat.zero_le _, fun p x => ⟨b, p, ws, rfl, rfl, SqL.of ((Ext.new x).lst hb), SqL.of upd_same, _, rfl, ?_⟩⟩
      cases ws with
      | nil => exact qT rfl _ (Ext.new x)
      | cons y ys => exact qF (by simp) _ (Ext.new x)
    · exact ⟨by show 1 ≤ sizeLine; decide, fun p x => q _ .empty _ ((e.trans e1).trans (Ext.new x)) ⟨p, rfl, upd_same⟩ trivial (by decide)⟩
    · refine ⟨_, rfl, .ref b, _, rfl, .inl ⟨_, SqL.of (e1.lst hb), rfl⟩, rfl, _, rfl, ?_⟩
      rw [dec_int]
      by_cases a1 : ws.length = 1
      · rw [show (((ws.length : Nat) : Int) == 1) = true by rw [a1]; rfl]; exact qT a1 _ (Ext.refl _)
      · rw [show (((ws.length : Nat) : Int) == 1) = false from beq_eq_false_iff_ne.mpr (by omega)]; exact qF a1 _ (Ext.refl _)
    · have e12 := e1.trans e2
      obtain ⟨y, rfl⟩ : ∃ y, ws = [y] := List.length_eq_one_iff.mp k1
      obtain ⟨p, hp9⟩ : ∃ p, qs = [p] := List.length_eq_one_iff.mp (by rw [← hlen]; exact k1)
      subst hp9
      obtain ⟨y', r', e9, hy, _⟩ := hq
      have : y = y' := (List.cons.inj e9).1
      subst this
      refine ⟨_, rfl, b, _, 0, y, rfl, rfl, SqL.of (e12.lst hb), atI_nat (j := 0) rfl, ?_⟩
      exact q _ p _ (e.trans e12) (PatAt.ext e12 _ _ hy) hk.1 (by rw [sizeL_one] at hz; omega)
    · have e12 := e1.trans e2
      have f0 := e.trans e12
      obtain ⟨k, mk, hk9, hp9, ho9, hs9⟩ := kindm L ns.length
      refine ⟨by show 3 ≤ sizeLine; decide, fun p1 x1 => ?_⟩
      have t1 := Ext.new (o := .lst [V.str "row", V.str "or", V.str "and"]) x1
      refine ⟨_, rfl, .ref a, _, rfl, .inl ⟨_, sq _ (f0.trans t1), rfl⟩, _, _, rfl, rfl, show (0 : Int) < 3 by decide, p1, _, _, _, rfl, rfl, SqL.of upd_same, by rw [List.length_map]; exact hk9, ?_⟩
      refine ⟨_, rfl, .inl ⟨b, ws, rfl, SqL.of ((e12.trans t1).lst hb), fun p2 x2 => ⟨by show 2 ≤ sizeLine; decide, fun p3 x3 => ?_⟩⟩⟩
      have t2 := Ext.new (o := .tup ws) x2
      have t3 := Ext.new (o := .tup [V.str k, .ref p2]) x3
      have hw2 : 2 ≤ qs.length := by
        rw [← hlen]
        cases ws with
        | nil => exact absurd rfl n1
        | cons y ys => 
          cases ys with
          | nil => exact absurd rfl n2
          | cons y2 ys => simp
      refine q _ (mk qs) _ ((f0.trans t1).trans (t2.trans t3)) (hp9 _ qs p3 p2 ws upd_same (t3.tup upd_same) (PatsAt.ext ((e12.trans t1).trans (t2.trans t3)) _ _ hq)) (ho9 _ hw2 hk) (by rw [hs9]; omega)
end
end Bo
set_option Elab.async false
set_option linter.all false
set_option maxRecDepth 100000
set_option maxHeartbeats 4000000
/-! where an error is handled: the end of a list, a tuple taken apart, a list comprehension -/
namespace GH
open PySem PySem.Spec PyProof.Rows L2 L2H HotX
section
variable {prog : Program} {w : World} {A : Around} {E : Value → Shared → Prop} {s : Shared}
/-- the handled error is no iterator -/
theorem no_iter {x1 it : Addr} {o o1 : Obj} {vs1 : Array Value} {u : Value} {i : Int} {tk : Tok} (h1 : s.heap.get? x1 = some o1) (d1 : o1.data = .fields vs1) (c1 : vs1[2]? = some .none) (ho : s.heap.get? it = some o) (hd : o.data = .fields #[u, .int i tk]) : x1 ≠ it := by
  rintro rfl
  cases h1.symm.trans ho
  cases d1.symm.trans hd
  cases c1
/-- StopIteration raised while an error is handled: a new object more, the rest stays -/
theorem stop_hot {α : Type} {Q : α → Shared → Prop} {x1 : Addr} (hot : HotAt A x1 s.heap)
    (hE : ∀ (a : Addr) (h' : Heap), (∀ b o, s.heap.get? b = some o → h'.get? b = some o) → ({ s with heap := h' } : Shared).TypeIs (.ref a) "StopIteration" → E (.ref a) { s with heap := h' }) :
    wpAny (model prog w) A ((newExc (.type "StopIteration") [] >>= fun e => raiseNew e) : Sem α) Q E s := by
  obtain ⟨hh, o1, vs1, h1, d1, c1⟩ := hot
  have up : ∀ {c1 c2 : Obj} {b : Addr} {o : Obj}, s.heap.get? b = some o → ((s.heap.push c1).push c2).get? b = some o := fun e => Heap.get?_push_of_some _ (Heap.get?_push_of_some _ e)
  refine wpAny_bind ?_
  simp only [newExc, newTuple]
  refine wpAny_bind (wpAny_newObj_type ?_ (by size_fits))
  have none_ : ∀ {R : Value → Shared → Prop} {s' : Shared}, R .none s' → wpAny (model prog w) A (firstArgMember (.type "StopIteration") []) R E s' := fun r => wpAny_of_eq (a := Value.none) (by first | rfl | (simp only [firstArgMember]; rfl)) r
  refine wpAny_bind (none_ (wpAny_newObj_type ?_ (by size_fits)))
  refine raiseNew_hot ⟨hh, o1, vs1, up h1, d1, c1⟩ (Nat.ne_of_lt (Heap.lt_size (Heap.get?_push_of_some _ h1))) (Heap.get?_push_size _ rfl) rfl (by first | (simp; done) | (simp; omega) | (simp only [Array.size_append]; simp; omega)) ?_
  refine hE _ _ (fun b o e => ?_) ⟨_, Heap.get?_update_self _ (Heap.get?_push_size _ rfl) rfl, rfl⟩
  rw [Heap.get?_update_other _ _ (Nat.ne_of_gt (Heap.lt_size (Heap.get?_push_of_some _ e)))]
  exact up e
theorem list_end_hot {it l x1 : Addr} {i : Nat} {items : Array Value} {Q : Option Value → Shared → Prop} (hot : HotAt A x1 s.heap) (hit : s.heap.IsListIter it l i) (hl : s.heap.IsList l items) (hx : items[i]? = none)
    (hQ : ∀ h', Heap.ExtBut it s.heap h' → Q none { s with heap := h' }) : wpAny (model prog w) A (pyNext (.ref it)) Q E s := by
  obtain ⟨o, ho, hc, hd⟩ := id hit
  obtain ⟨ol, hol, _, nl, hdl⟩ := hl
  obtain ⟨hh, o1, vs1, h1, d1, c1⟩ := hot
  have ne := no_iter h1 d1 c1 ho hd
  unfold pyNext
  have run := fun (R : Value → Shared → Prop) (F : Value → Shared → Prop) (hF : ∀ (a : Addr) (h' : Heap), Heap.ExtBut it s.heap h' → ({ s with heap := h' } : Shared).TypeIs (.ref a) "StopIteration" → F (.ref a) { s with heap := h' }) =>
    (wpAny_call_entry (prog := prog) (w := w) (A := A) (E := F) (s := s) (rest := []) (Q := R) slot_listiter_next hit.typeIs entry_listiter_next (by
      refine wpAny_bind (m := field (.ref it) 0) (wpAny_field ho hd (x := .ref l) rfl ?_)
      show wpAny _ A.in1 (if (Value.ref l == Value.none) = true then _ else _) _ F s
      rw [if_neg (by exact Bool.false_ne_true)]
      refine wpAny_bind (m := field (.ref it) 1) (wpAny_field ho hd (x := .int i 0) rfl ?_)
      refine wpAny_bind (m := seqItems? (.ref l)) (wpAny_seqItems hol hdl ?_)
      simp only [Int.toNat_natCast, hx]
      refine wpAny_bind (wpAny_rule (wpAny_bind (wpAny_setField ho hd (by simp) ?_)))
      refine stop_hot (x1 := x1) ⟨hh, o1, vs1, (Heap.get?_update_other _ _ (Ne.symm ne)).trans h1, d1, c1⟩ fun a h' k ty => hF a h' (fun b o hb e => k b o ?_) ty
      rw [Heap.get?_update_other _ _ (Ne.symm hb)]
      exact e) (args_listiter_next _))
  refine wpAny_bind (wpAny_attempt (wpAny_callSpecial?_slot hit.typeIs slot_listiter_next (run _ _ fun a h' k ty => ?_)))
  exact wpAny_bind (wpAny_isInstance (b := true) ty isSubtype_stop (wpAny_pure (hQ h' k)))
theorem tup_end_hot {it l x1 : Addr} {i : Nat} {items : Array Value} {Q : Option Value → Shared → Prop} (hot : HotAt A x1 s.heap) (hit : IsTupIter s.heap it l i) (hl : IsTup s.heap l items) (hx : items[i]? = none)
    (hQ : ∀ h', Heap.ExtBut it s.heap h' → Q none { s with heap := h' }) : wpAny (model prog w) A (pyNext (.ref it)) Q E s := by
  obtain ⟨o, ho, hc, hd⟩ := id hit
  obtain ⟨ol, hol, _, nl, hdl⟩ := hl
  obtain ⟨hh, o1, vs1, h1, d1, c1⟩ := hot
  have ne := no_iter h1 d1 c1 ho hd
  unfold pyNext
  have run := fun (R : Value → Shared → Prop) (F : Value → Shared → Prop) (hF : ∀ (a : Addr) (h' : Heap), Heap.ExtBut it s.heap h' → ({ s with heap := h' } : Shared).TypeIs (.ref a) "StopIteration" → F (.ref a) { s with heap := h' }) =>
    (wpAny_call_entry (prog := prog) (w := w) (A := A) (E := F) (s := s) (rest := []) (Q := R) slot_tupleiter_next hit.typeIs entry_tupleiter_next (by
      refine wpAny_bind (m := field (.ref it) 0) (wpAny_field ho hd (x := .ref l) rfl ?_)
      show wpAny _ A.in1 (if (Value.ref l == Value.none) = true then _ else _) _ F s
      rw [if_neg (by exact Bool.false_ne_true)]
      refine wpAny_bind (m := field (.ref it) 1) (wpAny_field ho hd (x := .int i 0) rfl ?_)
      refine wpAny_bind (m := seqItems? (.ref l)) (wpAny_seqItems hol hdl ?_)
      simp only [Int.toNat_natCast, hx]
      refine wpAny_bind (wpAny_rule (wpAny_bind (wpAny_setField ho hd (by simp) ?_)))
      refine stop_hot (x1 := x1) ⟨hh, o1, vs1, (Heap.get?_update_other _ _ (Ne.symm ne)).trans h1, d1, c1⟩ fun a h' k ty => hF a h' (fun b o hb e => k b o ?_) ty
      rw [Heap.get?_update_other _ _ (Ne.symm hb)]
      exact e) (args_tupleiter_next _))
  refine wpAny_bind (wpAny_attempt (wpAny_callSpecial?_slot hit.typeIs slot_tupleiter_next (run _ _ fun a h' k ty => ?_)))
  exact wpAny_bind (wpAny_isInstance (b := true) ty isSubtype_stop (wpAny_pure (hQ h' k)))
end
end GH
set_option Elab.async false
set_option linter.all false
set_option maxRecDepth 100000
set_option maxHeartbeats 4000000
namespace GH
open PySem PySem.Spec PyProof.Rows L2 L2H HotX
section
variable {prog : Program} {w : World} {A : Around} {E : Value → Shared → Prop} {s : Shared}
theorem HotAt.ext {x1 : Addr} {h h' : Heap} (hot : HotAt A x1 h) (k : ∀ b o, h.get? b = some o → h'.get? b = some o) : HotAt A x1 h' := by
  obtain ⟨hh, o, vs, h1, d, c⟩ := hot
  exact ⟨hh, o, vs, k _ _ h1, d, c⟩
theorem hot_lt {x1 : Addr} {h : Heap} (hot : HotAt A x1 h) : x1 < h.objs.size := by
  obtain ⟨_, o, vs, h1, _, _⟩ := hot
  exact Heap.lt_size h1
theorem parts_hot {t x1 : Addr} {items : Array Value} {Q : List Value → Shared → Prop} (hot : HotAt A x1 s.heap) (ht : IsTup s.heap t items)
    (hQ : ∀ h', Heap.ExtBut s.heap.objs.size s.heap h' → Q items.toList { s with heap := h' }) : wpAny (model prog w) A (unpackItems (.ref t) items.size none) Q E s := by
  have hlt : t < s.heap.objs.size := by obtain ⟨o, ho, _⟩ := ht; exact Heap.lt_size ho
  have hx := hot_lt hot
  unfold unpackItems
  refine wpAny_bind ?_
  unfold notIterableAtAll
  refine wpAny_bind (wpAny_specialOf ht.typeIs slot_tuple_iter.lookup (wpAny_pure ?_))
  simp only [Bool.false_eq_true, if_false]
  refine wpAny_bind (wpAny_holding (iter_tuple ht (wpAny_bind (wpAny_holding (draw_tuple (Nat.ne_of_lt hlt) items.size 0 _ _ ⟨_, Heap.get?_push_size _ rfl, rfl, rfl⟩ (ht.push _) (by omega) fun h1 hit hs => ?_)))))
  have hall : (items.toList.drop 0).take items.size = items.toList := List.take_of_length_le (by simp)
  rw [hall, if_neg (by simp)]
  have hot1 : HotAt A x1 h1 := by
    obtain ⟨hh, o, vs, g, d, c⟩ := hot
    exact ⟨hh, o, vs, hs.extBut _ _ (Nat.ne_of_lt hx) (Heap.get?_push_of_some _ g), d, c⟩
  have ht1 : IsTup h1 t items := (ht.push _).extBut hs.extBut (Nat.ne_of_lt hlt)
  refine wpAny_bind (wpAny_holding (tup_end_hot (s := { s with heap := h1 }) hot1 hit ht1 (by simp) fun h2 he => ?_))
  simp only [Option.isSome_none, Bool.false_eq_true, if_false]
  exact wpAny_pure (hQ h2 fun b o hb e => he b o hb (hs.extBut b o hb (Heap.get?_push_of_some _ e)))
end
/-- what a block's context keeps of the handled error -/
structure HotB (X : Cx) (p : Addr × Obj) : Prop where
  hot : Hot1 X.A p
  get : X.s_0.heap.get? p.1 = some p.2
  free : X.H_0 p.1 = none
  nofs : p.1 ∉ X.fs
  noex : p.1 ∉ X.ex
section
variable {X : Cx} {p : Addr × Obj} {pins : List (Addr × Obj)} {σ : L2.St} {H : Hp} {s : Shared}
theorem HotB.at (b : HotB X p) (I : Inv X pins σ H s) : HotAt X.A p.1 s.heap := by
  obtain ⟨hh, vs, d, c⟩ := b.hot
  exact ⟨hh, p.2, vs, I.base.keep _ _ b.get b.free b.nofs b.noex, d, c⟩
theorem pg_tupH {es : List Expr} {k : Nat} {t : TGs} {n : Nat} {pos : Pos} (b : HotB X p) (h : PGs X es t)
    (hn : (assignEach es X.env).length = n := by rfl) (hst : (assignEach es X.env).findIdx? (·.1) = none := by rfl) : PG X (.Tuple es k pos) (gTup X.K n t) := by
  refine ⟨fun pins s σ H v u Q I r hw => ?_⟩
  obtain ⟨a, xs, rfl, hq, hl, hw⟩ := hw
  cases r
  obtain ⟨its, rv, ht, hz⟩ := I.tuple hq
  have hsz : (assignEach es X.env).length = its.toArray.size := by simp [hn, ← hl, rv.length]
  rw [assign_Tuple]
  refine wpAny_bind (wpAny_standAt ?_)
  unfold unpack
  rw [hsz, hst]
  refine wpAny_bind (wpAny_holding (parts_hot (b.at I) ht fun h' hx => ?_))
  have I1 : Inv X pins σ H { s with heap := h' } := I.kept (t' := s.toks) fun b o e => hx b o (Nat.ne_of_lt (Heap.lt_size e)) e
  exact h.run pins _ σ H xs _ Q I1 (by simpa using rv) hw
end
end GH
set_option Elab.async false
set_option linter.all false
set_option maxRecDepth 100000
set_option maxHeartbeats 4000000
namespace GH
open PySem PySem.Spec PyProof.Rows L2 L2H HotX
section
variable {X : Cx} {p : Addr × Obj}
/-- the block of [elt for tg in a list if ..] where an error is handled; what uses the list comes behind it -/
theorem lcH {pins : List (Addr × Obj)} {s : Shared} {σ : L2.St} {H : Hp} {Q : VK} {elt tg l : Expr} {ifs : List Expr} {scope : Scope} {own : List (Str × Nat)} {pos pos' : Pos} {tl : TE} {g : TG} {tt : TT} {te : TE} {use : Option (Value → Sem Unit)} {Qf : Value → Shared → Prop}
    (hp : Hot1 X.A p) (hin : p ∈ X.pn) (hN : X.N.Nodup) (I : Inv X pins σ H s) (hl : PE X l tl) (ok : BlkOk X.N X.env.scope scope own)
    (hg : ∀ (s : Shared) (H : Hp) (C : Addr) (cl : List (Str × Addr)) (fp : List Addr), HotB (X.blk s H scope (compEnvC scope cl C X.env) fp) p → PG (X.blk s H scope (compEnvC scope cl C X.env) fp) tg g)
    (ht : ∀ (s : Shared) (H : Hp) (C : Addr) (cl : List (Str × Addr)) (fp : List Addr), PTs (X.blk s H scope (compEnvC scope cl C X.env) fp) ifs tt)
    (he : ∀ (s : Shared) (H : Hp) (C : Addr) (cl : List (Str × Addr)) (fp : List Addr), PE (X.blk s H scope (compEnvC scope cl C X.env) fp) elt te) (hs : ∀ x, foldedSetIterable l X.env x = pure x)
    (h : tLc (iList X.K tl) g tt te (own.map (·.2)) σ H Q)
    (out : ∀ (D C : Addr) (s' : Shared) (m : Str → Option Value) (H' : Hp), Inv X pins σ H' s' → Q (.ref D) H' → s'.heap.Ns C m → FpOk X pins H' C → compPost (model X.prog X.w) X.A X.xe use Qf (.ref D) C (.ok .next) s') :
    wpAny (model X.prog X.w) X.A (comprehension (.ListComp elt [⟨tg, l, ifs, 0⟩] scope pos) scope X.env pos' (newList []) false (eval l X.env) use) Qf X.xe s := by
  have cells : ∀ y ∈ scope.names, y.2 = .free → ∃ c, X.env.cells.lookup y.1 = some c := fun y hy e => (ok.free y hy e).elim (fun k => I.ok.has _ (.inl k)) (fun k => I.ok.has _ (.inr k))
  refine wpAny_comprehension_free (use := use) rfl hs (closure_ok cells) ok.kind (fun y hy e => by rw [ok.uniq y hy, e]) (thn (hl.run pins s σ H _ I h) fun v s1 hv => ?_)
  obtain ⟨x, H1, I1, rx, a, rfl, ⟨xs, hxs⟩, q⟩ := hv
  cases (show v = Value.ref a from rx)
  obtain ⟨us, rv, pl, hz⟩ := I1.list hxs
  refine wpAny_pyIter_list pl.isList ?_
  -- the iterator
  have Ii : Inv X pins σ H1 { s1 with heap := s1.heap.push { cls := .type "list_iterator", data := .fields #[.ref a, .int 0 0] } } := I1.kept (t' := s1.toks) fun b o e => Heap.get?_push_of_some _ e
  generalize hit : s1.heap.objs.size = it
  have fi : FpOk X pins H1 it := by rw [← hit]; exact I1.fpOk (Nat.le_refl _) (I1.hok.fresh (Nat.le_refl _))
  have ti : (s1.heap.push { cls := .type "list_iterator", data := .fields #[.ref a, .int 0 0] }).IsListIter it a 0 := by rw [← hit]; exact ⟨_, Heap.get?_push_size _ rfl, rfl, rfl⟩
  generalize hs2 : ({ s1 with heap := s1.heap.push { cls := .type "list_iterator", data := .fields #[.ref a, .int 0 0] } } : Shared) = s2 at Ii
  have h2 : s2.heap = s1.heap.push { cls := .type "list_iterator", data := .fields #[.ref a, .int 0 0] } := by rw [← hs2]
  rw [← h2] at ti
  refine wpAny_newObj_type (newEnv_comp ?_) (by show 0 ≤ sizeLine; decide)
  generalize hD : s2.heap.objs.size = D
  have nD : H1 D = none := Ii.hok.fresh (Nat.le_of_eq hD)
  obtain ⟨W, ⟨m0, w0⟩, turn⟩ := q D nD
  -- the new list
  generalize hs3 : ({ s2 with heap := s2.heap.push { cls := .type "list", data := .seq ([] : List Value).toArray } } : Shared) = s3
  have h3 : s3.heap = s2.heap.push { cls := .type "list", data := .seq ([] : List Value).toArray } := by rw [← hs3]
  have I3 : Inv X pins σ (upd H1 D (.lst [])) s3 := by
    rw [← hs3]
    refine Ii.laid (t' := s2.toks) (fun b o e => Heap.get?_push_of_some _ e) (Nat.le_of_eq hD) ⟨Nat.zero_le _, [], 0, .nil, ?_⟩
    rw [← hD]
    exact Heap.get?_push_size _ rfl
  have lit : it < s2.heap.objs.size := by obtain ⟨o, e, _⟩ := ti; exact Heap.lt_size e
  have f3 : FpOk X pins (upd H1 D (.lst [])) it ∧ it < s3.heap.objs.size := by
    refine ⟨⟨?_, fi.2⟩, by rw [h3, Heap.size_push]; exact Nat.lt_succ_of_lt lit⟩
    rw [upd_ne (by rw [← hD]; exact Nat.ne_of_lt lit)]
    exact fi.1
  have t3 : s3.heap.IsListIter it a 0 := by
    rw [h3]
    obtain ⟨o, e, c, d⟩ := ti
    exact ⟨o, Heap.get?_push_of_some _ e, c, d⟩
  have f3' : ∀ b ∈ [it], FpOk X pins (upd H1 D (.lst [])) b ∧ b < s3.heap.objs.size := fun b hb => by rw [List.mem_singleton.mp hb]; exact f3
  have I4 := block_start I3 ok hN f3'
  have pp := I3.pin p (List.mem_append_left _ hin)
  have hb : HotB (X.blk s3 (upd H1 D (.lst [])) scope (compEnvC scope (cellsFrom (s3.heap.objs.size + 1) scope.names (cloFrom X.env.cells scope.names [])) s3.heap.objs.size X.env) [it]) p :=
    ⟨hp, pp.1, pp.2.1, fun hm => (List.mem_cons.mp (I3.stkSub p.1 hm)).elim pp.2.2.1 pp.2.2.2.1, fun z => f3.1.2.2.2.2.2 p (List.mem_append_left _ hin) (List.mem_singleton.mp z)⟩
  have pg := hg s3 (upd H1 D (.lst [])) s3.heap.objs.size (cellsFrom (s3.heap.objs.size + 1) scope.names (cloFrom X.env.cells scope.names [])) [it] hb
  have pt := ht s3 (upd H1 D (.lst [])) s3.heap.objs.size (cellsFrom (s3.heap.objs.size + 1) scope.names (cloFrom X.env.cells scope.names [])) [it]
  have pe := he s3 (upd H1 D (.lst [])) s3.heap.objs.size (cellsFrom (s3.heap.objs.size + 1) scope.names (cloFrom X.env.cells scope.names [])) [it]
  generalize hce : compEnvC scope (cellsFrom (s3.heap.objs.size + 1) scope.names (cloFrom X.env.cells scope.names [])) s3.heap.objs.size X.env = ce at I4 hb pg pt pe
  have cL : ce.locals = s3.heap.objs.size := by rw [← hce]; rfl
  have nit : (upd H1 D (.lst [])) it = none := f3.1.1
  generalize hH3 : upd H1 D (.lst []) = H3 at I3 I4 hb pg pt pe w0 nit f3 f3'
  generalize hs4 : ({ s3 with heap := pushCells (s3.heap.push { cls := .type "dict", data := .dict #[] }) scope.names } : Shared) = s4 at I4
  have t4 : s4.heap.IsListIter it a 0 := by
    obtain ⟨o, e, c, d⟩ := t3
    rw [← hs4]
    exact ⟨o, pushCells_keeps _ _ _ _ (Heap.get?_push_of_some _ e), c, d⟩
  have fpk : ∀ {σ' : L2.St} {H' : Hp} {s' : Shared}, Inv (X.blk s3 H3 scope ce [it]) [] σ' H' s' → H' it = none → FpOk (X.blk s3 H3 scope ce [it]) [] H' it := fun {σ' H' s'} I' hn =>
    ⟨hn, (I'.ok.exf it (List.mem_singleton.mpr rfl)).1, I'.ok.exfs it (List.mem_singleton.mpr rfl), .inl (List.mem_singleton.mpr rfl), fun x c e => (I'.ok.exf it (List.mem_singleton.mpr rfl)).2 x c e, fun r hr => absurd (show r ∈ ([] : List (Addr × Obj)) ++ [] from hr) (by simp)⟩
  have loop : codeAny (model X.prog X.w) X.A (.compLoop (.ListComp elt [⟨tg, l, ifs, 0⟩] scope pos) 0 (.ref it) (.ref D) ce) (compPost (model X.prog X.w) X.A X.xe use Qf (.ref D) s3.heap.objs.size) s4 := by
    refine compLoop_any (fun n s' => ∃ i H', Inv (X.blk s3 H3 scope ce [it]) [] (wipe σ (own.map (·.2))) H' s' ∧ s'.heap.IsListIter it a i ∧ H' it = none ∧ W i n H') ?_ m0 ⟨0, H3, I4, t4, nit, w0⟩
    rintro n s5 ⟨i, H5, I5, t5, n5, w5⟩
    rcases turn i n H5 w5 with ⟨⟨ys, hys, hle⟩, qq⟩ | ⟨⟨ys, y, hys, hy⟩, Nx, hNx, step⟩
    · -- the list is used up
      obtain ⟨vs, r5, p5, _⟩ := I5.list hys
      obtain ⟨g0, g1, g2, g3, g4, g5⟩ := fpk I5 n5
      refine thnF (list_end_hot (E := fun _ _ => False) (hb.at I5) t5 p5.isList (by have := r5.length; simp; omega) (Q := fun r s6 => r = none ∧ Inv (X.blk s3 H3 scope ce [it]) [] (wipe σ (own.map (·.2))) H5 s6) fun h' eb => ⟨rfl, I5.turned (t' := s5.toks) (fun b o k e => eb b o k e) g0 g1 g3 g4 g5⟩) fun r s6 hr => ?_
      obtain ⟨rfl, I6⟩ := hr
      have I7 : Inv X pins σ H5 s6 := I3.call' (ch := [it]) I6.os I6.base I6.hok I6.bare fun b hb => ⟨(f3' b hb).1.2.2.2.1, (f3' b hb).1.2.1, (f3' b hb).1.2.2.2.2.1, (f3' b hb).1.2.2.2.2.2⟩
      have nC : H5 s3.heap.objs.size = none := cL ▸ I6.free
      obtain ⟨m, hn, _⟩ := I6.loc
      have hn : s6.heap.Ns ce.locals m := hn
      rw [cL] at hn
      exact out D s3.heap.objs.size s6 m H5 I7 qq hn (I3.fpOk (Nat.le_refl _) nC)
    · -- one more
      obtain ⟨vs, r5, p5, _⟩ := I5.list hys
      obtain ⟨u, hu, ru⟩ := r5.get hy
      obtain ⟨g0, g1, g2, g3, g4, g5⟩ := fpk I5 n5
      refine thnF (wpAny_pyNext_list_item (E := fun _ _ => False) t5 p5.isList (x := u) (by simpa using hu) (Q := fun r s6 => r = some u ∧ Inv (X.blk s3 H3 scope ce [it]) [] (wipe σ (own.map (·.2))) H5 s6 ∧ s6.heap.IsListIter it a (i + 1)) fun h' st' sb => ⟨rfl, I5.turned (t' := s5.toks) (fun b o hb e => (sb.2 b hb).trans e) g0 g1 g3 g4 g5, st'⟩) fun r s6 hr => ?_
      obtain ⟨rfl, I6, t6⟩ := hr
      obtain ⟨o6, e6, c6, d6⟩ := id t6
      refine go_of e6 c6 d6 (by decide) ?_
      have I6' := I6.pinned (fp := [it]) (fun b hb => by rw [List.mem_singleton.mp hb]; exact fpk I6 n5) (fun b hb => by rw [List.mem_singleton.mp hb]; exact ⟨o6, e6, fun v z => by rw [d6] at z; cases z⟩)
      have mine : (it, o6) ∈ ([] : List (Addr × Obj)) ++ pinsAt [it] s6.heap := List.mem_append_right _ (mem_pinsAt (List.mem_singleton.mpr rfl) e6)
      refine thnF (pg.run _ s6 _ H5 y u _ I6' ru (step y H5 ⟨rfl, fun zs hzs => by rw [I5.list_inj hzs hys]; exact hy⟩)) fun _ s8 ⟨σ8, H8, I8, hw8, q8⟩ => ?_
      refine thnF (pt.run _ s8 σ8 H8 _ I8 q8) fun b s9 ⟨H9, I9, q9⟩ => ?_
      have fin : ∀ {s' : Shared} {H' : Hp}, Inv (X.blk s3 H3 scope ce [it]) ([] ++ pinsAt [it] s6.heap) σ8 H' s' → Nx H' → ∃ m, m < n ∧ ∃ i H', Inv (X.blk s3 H3 scope ce [it]) [] (wipe σ (own.map (·.2))) H' s' ∧ s'.heap.IsListIter it a i ∧ H' it = none ∧ W i m H' := fun {s' H'} I' nx => by
        obtain ⟨m', hm, w'⟩ := hNx H' nx
        have kept := I'.pin (it, o6) (List.mem_append_right _ mine)
        have hl : (wipe σ (own.map (·.2))).length = σ8.length := by rw [← hw8, wipe_length]
        refine ⟨m', hm, i + 1, H', (I'.unpinned (pins := [])).weak hl (fun j v e => ?_), ⟨o6, kept.1, c6, d6⟩, kept.2.1, w'⟩
        rw [← hw8] at e
        exact (wipe_some e).1
      cases b with
      | false =>
        simp only [Bool.false_eq_true, if_false] at q9 ⊢
        exact fin I9 q9
      | true =>
        simp only [if_true] at q9 ⊢
        refine thnF (pe.run _ s9 σ8 H9 _ I9 q9) fun z s10 ⟨yv, H10, I10, r10, acc, hD10, hz10, nx⟩ => ?_
        exact app_ok (X := X.blk s3 H3 scope ce [it]) I10 hD10 hz10 r10 fun s11 I11 => fin I11 nx
  rw [← hce] at loop
  exact codeAny_compStart_list loop (wpAny_pyIter_listiter t4 loop)
/-- as a value -/
theorem pe_lcH {elt tg l : Expr} {ifs : List Expr} {scope : Scope} {own : List (Str × Nat)} {pos : Pos} {tl : TE} {g : TG} {tt : TT} {te : TE} (hp : Hot1 X.A p) (hin : p ∈ X.pn) (hN : X.N.Nodup) (hl : PE X l tl) (ok : BlkOk X.N X.env.scope scope own)
    (hg : ∀ (s : Shared) (H : Hp) (C : Addr) (cl : List (Str × Addr)) (fp : List Addr), HotB (X.blk s H scope (compEnvC scope cl C X.env) fp) p → PG (X.blk s H scope (compEnvC scope cl C X.env) fp) tg g)
    (ht : ∀ (s : Shared) (H : Hp) (C : Addr) (cl : List (Str × Addr)) (fp : List Addr), PTs (X.blk s H scope (compEnvC scope cl C X.env) fp) ifs tt)
    (he : ∀ (s : Shared) (H : Hp) (C : Addr) (cl : List (Str × Addr)) (fp : List Addr), PE (X.blk s H scope (compEnvC scope cl C X.env) fp) elt te) (hs : ∀ x, foldedSetIterable l X.env x = pure x := by intro _; rfl) :
    PE X (.ListComp elt [⟨tg, l, ifs, 0⟩] scope pos) (tLc (iList X.K tl) g tt te (own.map (·.2))) := by
  refine ⟨fun pins s σ H Q I h => ?_⟩
  rw [eval_ListComp]
  refine lcH hp hin hN I hl ok hg ht he hs h fun D C s' m H' I' q hn f => ⟨m, hn, fun h'' sb => ?_⟩
  obtain ⟨k0, k1, k2, k3, k4, k5⟩ := f
  exact ⟨.ref D, H', I'.turned (t' := s'.toks) (fun b o hb e => (sb.2 b hb).trans e) k0 k1 k3 k4 k5, rfl, q⟩
end
end GH
set_option Elab.async false
set_option linter.all false
set_option maxRecDepth 100000
set_option maxHeartbeats 4000000
namespace GH
open PySem PySem.Spec PyProof.Rows L2 L2H HotX
/-- what a def promises where just the error p is handled -/
structure FnAt (p : Addr × Obj) (P : Program) (w : World) (K : PySem.W.Frag) (mg : Str → Option Value) (base : Heap) (k : Nat) (f : Addr) (fd : FuncData) (ps : List Str) (sp : Sp) : Prop where
  len : ∀ vs H Q E, sp vs H Q E → vs.length = ps.length
  run : ∀ (A : Around) (outer : List Env) (s : Shared) (H : Hp) (args : Args) (us : List Value) (vs : List V) (Q : VK), RoomH k A → Hot1 A p → PinOk outer H s p → Env0 P w K mg base A outer s H → BindsTo s fd args (ps.zip us) → Vals vs us → sp vs H Q (fun _ _ _ => False) →
    codeAny (model P w) A (.call (.ref f) args) (CR CX0 outer P w H s Q fun _ _ _ => False) s
theorem fnAt_of {p : Addr × Obj} {P : Program} {w : World} {K : PySem.W.Frag} {mg : Str → Option Value} {base : Heap} {k : Nat} {x qual : Str} {params : Arguments} {body : List Stmt} {scope : Scope} {f : Addr} {fd : FuncData} {N ps : List Str} {sp : Sp}
    (F : FunD K x qual params body scope [] [] f fd) (S : FnScope N ps scope) (len : ∀ vs H Q E, sp vs H Q E → vs.length = ps.length)
    (hbody : ∀ (cdv : Value) (A : Around) (outer : List Env) (s : Shared) (H : Hp) (vs : List V) (Q : VK), Hot1 A p → RoomH k (A.deeper (envOfC qual scope s.heap.objs.size f cdv)) → sp vs H Q (fun _ _ _ => False) →
      ∃ t, PSs (cxH CX0 P w K mg base N qual scope f cdv A outer s H (fun _ _ _ => False) p) body t ∧ t { nx := fun _ H' => Q .non H', rt := Q } (L2.start N vs) H) : FnAt p P w K mg base (k + 1) f fd ps sp := by
  obtain ⟨oc, od, dV, kV, doc, pm, an, cdv, ct, osl, e, lk, hcd, _, _⟩ := F.ex
  subst e
  refine ⟨len, fun A outer s H args us vs Q hr hot hpin e0 hb r hsp => ?_⟩
  have up : ∀ b o, base.get? b = some o → s.heap.get? b = some o := fun b o e => (e0.bs b o e).1
  have KX := e0.mod.kin.keeps up
  have lim := e0.mod.nolimit.keeps up
  have kinds : ∀ y ∈ ps.zip us, scope.names.lookup y.1 = some .local ∨ (scope.names.lookup y.1 = some .cell ∧ ((cellsFrom (s.heap.objs.size + 1) scope.names []).lookup y.1).isSome = true) := by
    rintro ⟨n, v⟩ hy
    refine (S.par n (List.of_mem_zip hy).1).imp id fun q => ⟨q, ?_⟩
    exact PySem.W.cellsFrom_some _ _ _ (.inl q)
  refine codeAny_call_function hr.depth (KX _ _ lk) rfl S.co S.gen rfl (PySem.W.codeRec_of KX hcd) (hb _ _ _ _ ?_)
  refine wpAny_newFunctionEnv_cells S.kind kinds fun env he s1 inC => ?_
  subst he
  refine ⟨lim.keeps inC.toInCall.keep, codeAny_func ?_⟩
  obtain ⟨t, ht, hq⟩ := hbody cdv A outer s H vs Q hot (hr.deeper _) hsp
  have I : Inv (cxH CX0 P w K mg base N qual scope f cdv A outer s H (fun _ _ _ => False) p) [] (L2.start N vs) H s1 := inv_startH S hpin e0 (len _ _ _ _ hsp) r inC
  refine wpAny_mono (ht.run [] s1 (L2.start N vs) H _ I hq) (fun fl s' hs => ?_) fun e s' hs => hs
  cases fl with
  | ret u =>
    obtain ⟨v, σ', H', J, rv, q⟩ := hs
    exact ⟨v, H', J.os, J.bare, J.base, J.hok, rv, q⟩
  | next =>
    obtain ⟨σ', H', J, q⟩ := hs
    exact ⟨.non, H', J.os, J.bare, J.base, J.hok, rfl, q⟩
  | brk => exact hs.elim fun _ z => z.elim fun _ z => z.2.elim
  | cont => exact hs.elim fun _ z => z.elim fun _ z => z.2.elim
section
variable {X : Cx} {p : Addr × Obj} {k : Nat} {f : Addr} {fd : FuncData} {ps : List Str} {sp : Sp} {x : Str} {q pos : Pos} {e : Expr} {es : List Expr} {t : TA}
theorem pe_callAt (F : FnAt p X.prog X.w X.K X.mg X.base k f fd ps sp) (hr : RoomH k X.A) (hot : Hot1 X.A p) (hin : p ∈ X.pn) (hg : Gl X x) (hm : X.mg x = some (.ref f)) (hk : PySem.W.keepIn X.K (.ref f) = true) (hb : Binds X.K fd ps [])
    (ha : PA X (e :: es) t) (hdb : (x == ("__debug__" : Str)) = false := by decide) (he : starEach (e :: es) X.env = (false, eval e X.env) :: starEach es X.env := by rfl) (hpl : (backTo pos (starEach es X.env)).any (·.1) = false := by rfl) :
    PE X (.Call (.Name x q) (e :: es) [] pos) (tCall sp [] (fun _ _ _ => False) t) := by
  refine ⟨fun pins s σ H Q I h => ?_⟩
  refine wpAny_Call_Name_kw (ld_glob I hg hm ?_ hdb)
  refine PySem.W.callWith_K (h₀ := X.base) I.ok.mod.kin hk (thn (ha.run pos pins s σ H _ I h) fun us s1 ⟨vs, H1, I1, r, h1⟩ => ⟨I1.kIn, ?_⟩) he hpl
  simp only [List.append_nil] at h1
  have hl : us.length = ps.length := by rw [← r.length]; exact F.len _ _ _ _ h1
  have b := hb s1 us I1.kIn (by rw [List.append_nil]; exact hl)
  rw [List.append_nil] at b
  have P1 := I1.pin p (List.mem_append_left _ hin)
  refine wpAny_call (codeAny_mono (F.run X.A X.stack s1 H1 ⟨us, []⟩ us vs Q hr hot ⟨P1.1, P1.2.1, fun hm => (List.mem_cons.mp (I1.stkSub p.1 hm)).elim P1.2.2.1 P1.2.2.2.1, P1.2.2.2.2⟩ I1.env0 b r h1) fun res s' hq => ?_)
  cases res with
  | error e => exact hq.elim
  | ok fl =>
    cases fl with
    | ret u => exact I1.after hq
    | next => exact hq.elim
    | brk => exact hq.elim
    | cont => exact hq.elim
/-- isinstance of the handled error -/
theorem call_isAt {D : Addr} (C : ExcC X.K D) (hz : Zc (.ref D) none p.2) (hf : ∃ vs, p.2.data = .fields vs) (hin : p ∈ X.pn) : CallR X (.builtin "isinstance") (rIsE X.K D p.1) := by
  intro pins s σ H xs us Q I r h
  obtain ⟨c, cv, b, rfl, hcv, e, q⟩ := h
  obtain ⟨u1, u2, rfl, rx, rt⟩ : ∃ u1 u2, us = [u1, u2] ∧ RelV (.ref p.1) u1 ∧ RelV c u2 := by
    cases r with
    | cons a r => cases r with
      | cons b r => cases r; exact ⟨_, _, rfl, a, b⟩
  cases (show u1 = Value.ref p.1 from rx)
  cases hcv _ rt
  have hget := (I.pin p (List.mem_append_left _ hin)).1
  have J : PySem.W.InstAt s.heap p.1 p.2 D none := by
    obtain ⟨⟨a, oc, od, oda, osl⟩, h1, h2, ⟨vs, hv⟩⟩ : ∃ z : Addr × Obj, z = p ∧ Zc (.ref D) none z.2 ∧ ∃ vs, z.2.data = .fields vs := ⟨p, rfl, hz, hf⟩
    subst h1
    obtain ⟨h2, h3⟩ := h2
    dsimp only at h2 h3 hv
    subst h2 h3 hv
    exact ⟨hget, rfl, rfl, trivial⟩
  exact PySem.W.kia_one (PySem.W.handS_kitx_exc C.hg C.hk C.hs C.hd C.ha C.hn C.ht C.hm) I.kIn J e (fun z => nomatch z) fun tk => ⟨.bl b, H, I.kept (t' := tk) fun _ _ z => z, rfl, q⟩
end
end GH
set_option Elab.async false
set_option linter.all false
set_option maxRecDepth 100000
set_option maxHeartbeats 4000000
namespace GH
open PySem PySem.Spec PyProof.Rows L2 L2H HotX
section
variable {X : Cx} {p : Addr × Obj}
/-- name = [..] on one line where an error is handled -/
theorem ps_setLcH {i : Nat} {y : Str} {py : Pos} {elt tg l : Expr} {ifs : List Expr} {scope : Scope} {own : List (Str × Nat)} {pos spos : Pos} {tl : TE} {g : TG} {tt : TT} {te : TE} (hp : Hot1 X.A p) (hin : p ∈ X.pn) (hN : X.N.Nodup) (hy : X.N[i]? = some y) (hyl : X.env.scope.names.lookup y = some .local)
    (hsw : swapsWith (.ListComp elt [⟨tg, l, ifs, 0⟩] scope pos) (some (.Name y py)) spos.line X.env = pure true) (hl : PE X l tl) (ok : BlkOk X.N X.env.scope scope own)
    (hg : ∀ (s : Shared) (H : Hp) (C : Addr) (cl : List (Str × Addr)) (fp : List Addr), HotB (X.blk s H scope (compEnvC scope cl C X.env) fp) p → PG (X.blk s H scope (compEnvC scope cl C X.env) fp) tg g)
    (ht : ∀ (s : Shared) (H : Hp) (C : Addr) (cl : List (Str × Addr)) (fp : List Addr), PTs (X.blk s H scope (compEnvC scope cl C X.env) fp) ifs tt)
    (he : ∀ (s : Shared) (H : Hp) (C : Addr) (cl : List (Str × Addr)) (fp : List Addr), PE (X.blk s H scope (compEnvC scope cl C X.env) fp) elt te) (hs : ∀ x, foldedSetIterable l X.env x = pure x := by intro _; rfl) :
    PS X (.Assign [.Name y py] (.ListComp elt [⟨tg, l, ifs, 0⟩] scope pos) spos) (tAsg (tLc (iList X.K tl) g tt te (own.map (·.2))) (gName i)) := by
  refine ⟨fun pins s σ H D I h => ?_⟩
  rw [exec_Assign_Name_used _ _ _ _ hsw]
  have h : tLc (iList X.K tl) g tt te (own.map (·.2)) σ H (fun x H1 => gName i x σ H1 D.nx) := h
  have store : ∀ (L C : Addr) (s' : Shared) (m : Str → Option Value) (H' : Hp), Inv X pins σ H' s' → gName i (.ref L) σ H' D.nx → s'.heap.Ns C m → FpOk X pins H' C → compPost (model X.prog X.w) X.A X.xe (some (assign (.Name y py) X.env)) (fun _ s' => SP X pins D .next s') (.ref L) C (.ok .next) s' := by
    intro L C s' m H' I' q hn f
    show wpAny _ _ (assign (.Name y py) X.env (.ref L)) _ _ _
    obtain ⟨f0, f1, f2, f3, f4, f5⟩ := f
    refine wpAny_assign_Name (store_ok2 (v := V.ref L) I' hN hy (.inl hyl) rfl (fun s2 I2 ⟨a, sb, ha⟩ => ?_) (.inr hyl))
    have apart : C ≠ a := ha.elim (fun z => z ▸ f1) fun z e => f4 y a z e.symm
    exact ⟨m, hn.sameBut sb apart, fun h3 sb3 => ⟨_, H', I2.turned (t' := s2.toks) (fun b o hb e => (sb3.2 b hb).trans e) f0 f1 f3 f4 f5, q⟩⟩
  refine wpAny_bind (wpAny_standAt (wpAny_bind ?_))
  show wpAny _ X.A (do
    let _ ← comprehension (.ListComp elt [⟨tg, l, ifs, 0⟩] scope pos) scope X.env (firstIterPos [⟨tg, l, ifs, 0⟩] pos) (newList []) false (eval l X.env) (some (assign (.Name y py) X.env))
    _) _ _ s
  exact wpAny_bind (thn (lcH (Qf := fun _ s' => SP X pins D .next s') hp hin hN I hl ok hg ht he hs h store) fun _ s' hq => wpAny_pure (wpAny_pure hq))
end
end GH
set_option Elab.async false
set_option linter.all false
set_option maxRecDepth 100000
set_option maxHeartbeats 4000000
namespace Bo
open PySem PySem.Spec PyProof.Rows L2 GE GH
/-- the classes of error, in the law's order -/
structure Err (K : PySem.W.Frag) (ca : Nat → Addr) : Prop where
  exc : ∀ i, i < 4 → ExcC K (ca i)
  kit : ∀ i j, i < 4 → j < 5 → PySem.W.kitOne K (.ref (ca i)) (.ref (ca j)) = Option.some (decide (i = j))
  ve : ∀ i, i < 4 → PySem.W.kitOne K (.ref (ca i)) (.type "ValueError") = Option.some true
def word : Nat → Str
  | 0 => "letters" | 1 => "pattern" | 2 => "great" | 3 => "text" | _ => "room"
def spKi (i : Nat) (a : Addr) : Sp := fun vs H Q _ => vs = [.ref a] ∧ ∀ r H', H r = Option.none → Ext H H' → H' r = Option.some (.lst [.str (word i)]) → Q (.ref r) H'
section
variable {P : Program} {w : World} {K : PySem.W.Frag} {mg : Str → Option Value} {base : Heap}
theorem scKi : FnScope ["_law_error", "_law_found", "_law_word", "_law_is_one"] ["_law_error"] (defScope sLawKind) := ⟨rfl, rfl, rfl, by decide +kernel, rfl, by decide +kernel, by decide +kernel⟩
theorem ki_ok {f : Addr} {fd : FuncData} {p : Addr × Obj} {ca : Nat → Addr} {i : Nat} (F : FnP K "_law_kind" sLawKind f fd) (er : Err K ca) (hi : i < 4) (hz : Zc (.ref (ca i)) Option.none p.2) (hf : ∃ vs, p.2.data = .fields vs)
    (m0 : mg "NoLetters" = Option.some (.ref (ca 0))) (m1 : mg "NoPattern" = Option.some (.ref (ca 1))) (m2 : mg "TooGreat" = Option.some (.ref (ca 2))) (m3 : mg "NoText" = Option.some (.ref (ca 3))) (m4 : mg "NoRoom" = Option.some (.ref (ca 4)))
    (mi : mg "isinstance" = none) (mn : mg "int" = none) (ml : mg "len" = none) (mv : mg "ValueError" = none) : FnAt p P w K mg base 1 f fd ["_law_error"] (spKi i p.1) := by
  refine fnAt_of F scKi (fun vs H Q E h => ?_) (fun cdv A outer s H vs Q hot hr h => ?_)
  · obtain ⟨rfl, _⟩ := h
    rfl
  obtain ⟨rfl, q⟩ := h
  have is_ : ∀ {X : Cx}, X.K = K → p ∈ X.pn → CallR X (.builtin "isinstance") (rIsE X.K (ca i) p.1) := fun hK hin => call_isAt (hK ▸ er.exc i hi) hz hf hin
  have pin : ∀ {X : Cx}, X.pn = [p] → p ∈ X.pn := fun h => h ▸ List.mem_singleton.mpr rfl
  refine ⟨_, pss_cons (ps_set (i := 1) scKi.nd rfl (Or.inl rfl) (pe_lst (pa_cons (pe_tup (pa_cons pe_str (pa_cons (pe_callB (is_ rfl (pin rfl)) rfl mi (by decide +kernel) (pa_cons (pv 0) (pa_cons (pe_glob (v := .ref (ca 0)) rfl m0 rfl) pa_nil))) pa_nil)))
      (pa_cons (pe_tup (pa_cons pe_str (pa_cons (pe_callB (is_ rfl (pin rfl)) rfl mi (by decide +kernel) (pa_cons (pv 0) (pa_cons (pe_glob (v := .ref (ca 1)) rfl m1 rfl) pa_nil))) pa_nil))) pa_nil))))
    (pss_cons (ps_set (i := 1) scKi.nd rfl (Or.inl rfl) (pe_op op_cat (pv 1) (pe_lst (pa_cons (pe_tup (pa_cons pe_str (pa_cons (pe_callB (is_ rfl (pin rfl)) rfl mi (by decide +kernel) (pa_cons (pv 0) (pa_cons (pe_glob (v := .ref (ca 2)) rfl m2 rfl) pa_nil))) pa_nil)))
      (pa_cons (pe_tup (pa_cons pe_str (pa_cons (pe_callB (is_ rfl (pin rfl)) rfl mi (by decide +kernel) (pa_cons (pv 0) (pa_cons (pe_glob (v := .ref (ca 3)) rfl m3 rfl) pa_nil))) pa_nil))) pa_nil)))))
    (pss_cons (ps_setLcH (i := 1) (own := [("_law_word", 2), ("_law_is_one", 3)]) (g := gTup K 2 (gCons (gName 2) (gCons (gName 3) gNil))) (tt := tB (tVar 3)) (te := tVar 2) hot (pin rfl) scKi.nd rfl rfl (sw_true rfl rfl rfl (by decide +kernel))
      (pe_op op_cat (pv 1) (pe_lst (pa_cons (pe_tup (pa_cons pe_str (pa_cons (pe_callB (is_ rfl (pin rfl)) rfl mi (by decide +kernel) (pa_cons (pv 0) (pa_cons (pe_glob (v := .ref (ca 4)) rfl m4 rfl) pa_nil))) pa_nil))) pa_nil)))
      (blkOk_by (N := ["_law_error", "_law_found", "_law_word", "_law_is_one"]) (sc := defScope sLawKind) (by decide +kernel))
      (fun _ _ _ _ _ hb => pg_tupH hb (pgs_cons (pg_name (i := 2) scKi.nd rfl (Or.inl rfl) (Or.inr rfl)) (pgs_cons (pg_name (i := 3) scKi.nd rfl (Or.inl rfl) (Or.inr rfl)) pgs_nil)))
      (fun _ _ _ _ _ => pts_one (pt_val (pv 3))) (fun _ _ _ _ _ => pv 2))
    (pss_one (ps_ret (pe_op op_rep (pv 1) (pe_callTy call_int1 rfl mn boot_int (pa_cons (pe_and (pe_cmpR op_eq (pe_callB call_len rfl ml PySem.boot_len (pa_cons (pv 1) pa_nil)) pe_int (nomark _))
      (pe_one (pe_callB (is_ rfl (pin rfl)) rfl mi (by decide +kernel) (pa_cons (pv 0) (pa_cons (pe_bltn (v := .ty "ValueError") (u := .type "ValueError") rfl mv (by decide +kernel) rfl) pa_nil))))) pa_nil))))))), ?_⟩
  have isi : ∀ (j : Nat), j < 5 → ∀ {σ : L2.St} {H' : Hp} {R : VK}, σ[0]? = Option.some (Option.some (.ref p.1)) → R (.bl (decide (i = j))) H' → tCB (rIsE K (ca i) p.1) (tCons (tVar 0) (tCons (tC (.ref (ca j))) tNil)) σ H' R := fun j hj σ H' R h0 r =>
    ⟨_, h0, .ref (ca j), .ref (ca j), _, rfl, fun u h => h, er.kit i j hi hj, r⟩
  have z2 : 2 ≤ sizeLine := by decide
  refine t_set (isi 0 (by omega) rfl ⟨z2, fun q0 y0 => isi 1 (by omega) rfl ⟨z2, fun q1 y1 => ⟨z2, fun l1 x1 => ?_⟩⟩⟩)
  have e1 := Ext.new (o := .tup [V.str "letters", .bl (decide (i = 0))]) y0
  have e2 := Ext.new (o := .tup [V.str "pattern", .bl (decide (i = 1))]) y1
  have e3 := Ext.new (o := .lst [.ref q0, .ref q1]) x1
  refine t_set ⟨_, rfl, isi 2 (by omega) rfl ⟨z2, fun q2 y2 => isi 3 (by omega) rfl ⟨z2, fun q3 y3 => ⟨z2, fun l2 x2 => ?_⟩⟩⟩⟩
  have e4 := Ext.new (o := .tup [V.str "great", .bl (decide (i = 2))]) y2
  have e5 := Ext.new (o := .tup [V.str "text", .bl (decide (i = 3))]) y3
  have e6 := Ext.new (o := .lst [.ref q2, .ref q3]) x2
  refine ⟨l1, l2, _, _, rfl, rfl, (e4.trans (e5.trans e6)).lst upd_same, upd_same, by show 4 ≤ sizeLine; decide, fun l3 x3 => ?_⟩
  have e7 := Ext.new (o := .lst ([V.ref q0, .ref q1] ++ [V.ref q2, .ref q3])) x3
  refine t_set ⟨_, rfl, isi 4 (by omega) rfl ⟨z2, fun q4 y4 => ⟨by show 1 ≤ sizeLine; decide, fun l4 x4 => ?_⟩⟩⟩
  have e8 := Ext.new (o := .tup [V.str "room", .bl (decide (i = 4))]) y4
  have e9 := Ext.new (o := .lst [.ref q4]) x4
  refine ⟨l3, l4, _, _, rfl, rfl, (e8.trans e9).lst upd_same, upd_same, by show 5 ≤ sizeLine; decide, fun l5 x5 => ?_⟩
  have e10 := Ext.new (o := .lst ([V.ref q0, .ref q1] ++ [V.ref q2, .ref q3] ++ [V.ref q4])) x5
  have all := e1.trans (e2.trans (e3.trans (e4.trans (e5.trans (e6.trans (e7.trans (e8.trans (e9.trans e10))))))))
  refine ⟨l5, rfl, ⟨_, SqL.of upd_same⟩, fun D hD => ?_⟩
  have t4 := (e9.trans e10).tup (show upd _ q4 _ q4 = _ from upd_same)
  have t3 := (e6.trans (e7.trans (e8.trans (e9.trans e10)))).tup (show upd _ q3 _ q3 = _ from upd_same)
  have t2 := (e5.trans (e6.trans (e7.trans (e8.trans (e9.trans e10))))).tup (show upd _ q2 _ q2 = _ from upd_same)
  have t1 := (e3.trans (e4.trans (e5.trans (e6.trans (e7.trans (e8.trans (e9.trans e10))))))).tup (show upd _ q1 _ q1 = _ from upd_same)
  have t0 := (e2.trans (e3.trans (e4.trans (e5.trans (e6.trans (e7.trans (e8.trans (e9.trans e10)))))))).tup (show upd _ q0 _ q0 = _ from upd_same)
  have t5 : upd (upd (upd (upd (upd (upd (upd (upd (upd (upd H q0 (.tup [V.str "letters", .bl (decide (i = 0))])) q1 (.tup [V.str "pattern", .bl (decide (i = 1))])) l1 (.lst [.ref q0, .ref q1])) q2 (.tup [V.str "great", .bl (decide (i = 2))])) q3 (.tup [V.str "text", .bl (decide (i = 3))])) l2 (.lst [.ref q2, .ref q3])) l3 (.lst ([V.ref q0, .ref q1] ++ [V.ref q2, .ref q3]))) q4 (.tup [V.str "room", .bl (decide (i = 4))])) l4 (.lst [.ref q4])) l5 (.lst ([V.ref q0, .ref q1] ++ [V.ref q2, .ref q3] ++ [V.ref q4])) l5 = Option.some (.lst [.ref q0, .ref q1, .ref q2, .ref q3, .ref q4]) := upd_same
  generalize hG : upd (upd (upd (upd (upd (upd (upd (upd (upd (upd H q0 (.tup [V.str "letters", .bl (decide (i = 0))])) q1 (.tup [V.str "pattern", .bl (decide (i = 1))])) l1 (.lst [.ref q0, .ref q1])) q2 (.tup [V.str "great", .bl (decide (i = 2))])) q3 (.tup [V.str "text", .bl (decide (i = 3))])) l2 (.lst [.ref q2, .ref q3])) l3 (.lst ([V.ref q0, .ref q1] ++ [V.ref q2, .ref q3]))) q4 (.tup [V.str "room", .bl (decide (i = 4))])) l4 (.lst [.ref q4])) l5 (.lst ([V.ref q0, .ref q1] ++ [V.ref q2, .ref q3] ++ [V.ref q4])) = G at hD t0 t1 t2 t3 t4 t5 all ⊢
  clear e1 e2 e3 e4 e5 e6 e7 e8 e9 e10
  refine lc_list (K := K) (a := l5) (xs := [.ref q0, .ref q1, .ref q2, .ref q3, .ref q4]) (fun m H' => Ext G H' ∧ H' D = Option.some (.lst (((List.range m).filter fun j => decide (i = j)).map fun j => V.str (word j)))) ⟨(Ext.refl _).wr hD, upd_same⟩ (fun m H' _ s => SqL.of (s.1.lst t5)) ?_ ?_
  · rintro m x H' hx ⟨e, hDm⟩
    obtain ⟨hm5, qm, rfl, hqm⟩ : m < 5 ∧ ∃ qm, x = .ref qm ∧ G qm = Option.some (.tup [.str (word m), .bl (decide (i = m))]) := by
      rcases m with _ | _ | _ | _ | _ | m
      · exact ⟨by omega, q0, (Option.some.inj hx).symm, t0⟩
      · exact ⟨by omega, q1, (Option.some.inj hx).symm, t1⟩
      · exact ⟨by omega, q2, (Option.some.inj hx).symm, t2⟩
      · exact ⟨by omega, q3, (Option.some.inj hx).symm, t3⟩
      · exact ⟨by omega, q4, (Option.some.inj hx).symm, t4⟩
      · cases hx
    refine g_pair (e.tup hqm) ⟨rfl, _, rfl, _, rfl, ?_⟩
    by_cases h9 : i = m
    · refine iffT (decide_eq_true h9) ⟨_, rfl, _, hDm, ?_, e.wr hD, ?_⟩
      · rw [List.length_map]
        have h8 := List.length_filter_le (fun j => decide (i = j)) (List.range m)
        rw [List.length_range] at h8
        exact Nat.lt_of_le_of_lt h8 (Nat.lt_of_lt_of_le hm5 (by decide))
      · rw [upd_same, List.range_succ, List.filter_append, List.map_append]
        simp [List.filter, h9]
    · refine iffF (decide_eq_false h9) ⟨e, ?_⟩
      rw [List.range_succ, List.filter_append, List.map_append]
      simpa [List.filter, h9] using hDm
  · rintro H1 ⟨e, hD5⟩
    have h5 : (((List.range ([.ref q0, .ref q1, .ref q2, .ref q3, .ref q4] : List V).length).filter fun j => decide (i = j)).map fun j => V.str (word j)) = [V.str (word i)] := by
      have : i = 0 ∨ i = 1 ∨ i = 2 ∨ i = 3 := by omega
      rcases this with rfl | rfl | rfl | rfl <;> rfl
    rw [h5] at hD5
    refine ⟨_, rfl, _, rfl, .ref D, _, rfl, .inl ⟨_, SqL.of hD5, rfl⟩, rfl, _, rfl, iffT (decide_eq_true rfl) ?_⟩
    refine ⟨_, rfl, .ty "ValueError", .type "ValueError", _, rfl, fun u h => h, er.ve i hi, .inr ⟨_, rfl, D, 1, _, rfl, rfl, hD5, by decide, by decide, by show 1 * 1 ≤ sizeLine; decide, fun r hr => ?_⟩⟩
    exact q r _ ((all.trans e).free hr) ((all.trans e).trans (Ext.new hr)) upd_same
end
end Bo
set_option Elab.async false
set_option linter.all false
set_option maxRecDepth 100000
set_option maxHeartbeats 4000000
namespace Bo
open PySem PySem.Spec PyProof.Rows L2 GE
/-- an expression whose value has a lasting property -/
def Ev (Φ : Hp → V → Prop) (H0 : Hp) (σ : L2.St) (te : TE) : Prop := ∀ (H : Hp) (Q : VK), Ext H0 H → (∀ v H', Ext H H' → Φ H' v → Q v H') → te σ H Q
def EvL (Φ : Hp → V → Prop) (H0 : Hp) (σ : L2.St) (n : Nat) (ta : TA) : Prop := ∀ (H : Hp) (Q : List V → Hp → Prop), Ext H0 H → (∀ vs H', Ext H H' → vs.length = n → (∀ v ∈ vs, Φ H' v) → Q vs H') → ta σ H Q
theorem evl_nil {Φ : Hp → V → Prop} {H0 : Hp} {σ : L2.St} : EvL Φ H0 σ 0 tNil := fun H Q e q => q [] H (Ext.refl _) rfl (fun v h => by cases h)
theorem evl_cons {Φ : Hp → V → Prop} (st : ∀ H H' v, Ext H H' → Φ H v → Φ H' v) {H0 : Hp} {σ : L2.St} {n : Nat} {te : TE} {ta : TA} (a : Ev Φ H0 σ te) (b : EvL Φ H0 σ n ta) : EvL Φ H0 σ (n + 1) (tCons te ta) := fun H Q e q =>
  a H _ e fun v H1 e1 hv => b H1 _ (e.trans e1) fun vs H2 e2 hl hall => q (v :: vs) H2 (e1.trans e2) (by rw [List.length_cons, hl]) fun x hx => by
    rcases List.mem_cons.mp hx with rfl | hx
    · exact st _ _ _ e2 hv
    · exact hall x hx
/-- a list of so many such values -/
def LA (Φ : Hp → V → Prop) (H : Hp) (l : Addr) (n : Nat) : Prop := ∃ vs, H l = some (.lst vs) ∧ vs.length = n ∧ ∀ v ∈ vs, Φ H v
theorem la_ext {Φ : Hp → V → Prop} (st : ∀ H H' v, Ext H H' → Φ H v → Φ H' v) {H H' : Hp} {l : Addr} {n : Nat} (e : Ext H H') (h : LA Φ H l n) : LA Φ H' l n :=
  let ⟨vs, a, b, c⟩ := h; ⟨vs, e.lst a, b, fun v hv => st _ _ _ e (c v hv)⟩
theorem ev_lst {Φ : Hp → V → Prop} (st : ∀ H H' v, Ext H H' → Φ H v → Φ H' v) {H0 : Hp} {σ : L2.St} {n : Nat} {ta : TA} {H : Hp} {Q : VK} (a : EvL Φ H0 σ n ta) (hn : n ≤ 100) (e : Ext H0 H) (q : ∀ l H', Ext H H' → LA Φ H' l n → Q (.ref l) H') : tLst ta σ H Q :=
  a H _ e fun vs H1 e1 hl hall => ⟨Nat.le_trans (show vs.length ≤ 100 by omega) (by decide), fun l x => q l _ (e1.trans (Ext.new x)) ⟨vs, upd_same, hl, fun v hv => st _ _ _ (Ext.new x) (hall v hv)⟩⟩
theorem la_cat {Φ : Hp → V → Prop} (st : ∀ H H' v, Ext H H' → Φ H v → Φ H' v) {H : Hp} {l1 l2 : Addr} {n m : Nat} {Q : VK} (a : LA Φ H l1 n) (b : LA Φ H l2 m) (hn : n + m ≤ 100) (q : ∀ l H', Ext H H' → LA Φ H' l (n + m) → Q (.ref l) H') : rCat (.ref l1) (.ref l2) H Q := by
  obtain ⟨vs, h1, e1, c1⟩ := a
  obtain ⟨us, h2, e2, c2⟩ := b
  refine ⟨l1, l2, vs, us, rfl, rfl, h1, h2, Nat.le_trans (show vs.length + us.length ≤ 100 by omega) (by decide), fun p x => q p _ (Ext.new x) ⟨_, upd_same, by rw [List.length_append, e1, e2], fun v hv => st _ _ _ (Ext.new x) ?_⟩⟩
  rcases List.mem_append.mp hv with h | h
  · exact c1 v h
  · exact c2 v h
theorem all_at {P : V → Prop} {xs : List V} (h : ∀ x ∈ xs, P x) (n : Nat) (hn : xs.length = n + 1) (c : Int) : ∃ v, atI xs (c % ((n + 1 : Nat) : Int)) = Option.some v ∧ P v := by
  have h0 := Int.emod_nonneg c (show ((n + 1 : Nat) : Int) ≠ 0 by omega)
  have h1 := Int.emod_lt_of_pos c (show (0 : Int) < ((n + 1 : Nat) : Int) by omega)
  obtain ⟨j, hj⟩ : ∃ j : Nat, c % ((n + 1 : Nat) : Int) = (j : Int) := ⟨_, (Int.toNat_of_nonneg h0).symm⟩
  rw [hj] at h1 ⊢
  have hjl : j < xs.length := by omega
  exact ⟨xs[j], atI_nat (List.getElem?_eq_getElem hjl), h _ (List.getElem_mem hjl)⟩
theorem good_az {L : Str} (h : goodS L = true) {c : Nat} (hc : c ∈ cds L) : 97 ≤ c ∧ c ≤ 122 := by
  unfold goodS at h
  simp only [Bool.and_eq_true] at h
  exact of_decide_eq_true (List.all_eq_true.mp h.1.2 c hc)
theorem cds_len (z : Str) : (cds z).length = z.cps.size := Array.length_toList
theorem cds_app (a b : Str) : cds (a ++ b) = cds a ++ cds b := by
  show (a.cps ++ b.cps).toList = _
  rw [Array.toList_append]
/-- a comprehension over the signs of a text -/
theorem lc_signs {g : TG} {tt : TT} {te : TE} {vs : List Nat} {σ : L2.St} {H1 : Hp} {D : Addr} {Qd : Hp → Prop} {x : Str} (Pv : Nat → Hp → Prop) (h0 : Pv 0 (upd H1 D (.lst [])))
    (hs : ∀ i c H, x.cps[i]? = Option.some c → Pv i H → g (.str ⟨#[c]⟩) (wipe σ vs) H fun σ2 H2 => wipe σ2 vs = wipe σ vs ∧ tt σ2 H2 fun b H3 =>
      if b = true then te σ2 H3 fun y H4 => ∃ acc, H4 D = Option.some (.lst acc) ∧ acc.length < sizeLine ∧ Pv (i + 1) (upd H4 D (.lst (acc ++ [y]))) else Pv (i + 1) H3) (hd : ∀ H, Pv x.cps.size H → Qd H) :
    ∃ W : Nat → Nat → Hp → Prop, (∃ m, W 0 m (upd H1 D (.lst []))) ∧ ∀ i m H, W i m H →
      ((Its x).stop i H ∧ Qd H) ∨ ((Its x).go i H ∧ ∃ Nx : Hp → Prop, (∀ H', Nx H' → ∃ m', m' < m ∧ W (i + 1) m' H') ∧ ∀ v H', (Its x).yld i H v H' → g v (wipe σ vs) H' fun σ2 H2 => wipe σ2 vs = wipe σ vs ∧ tt σ2 H2 fun b H3 =>
        if b = true then te σ2 H3 fun y H4 => ∃ acc, H4 D = Option.some (.lst acc) ∧ acc.length < sizeLine ∧ Nx (upd H4 D (.lst (acc ++ [y]))) else Nx H3) := by
  refine ⟨fun i m H => m = x.cps.size - i ∧ i ≤ x.cps.size ∧ Pv i H, ⟨x.cps.size, by simp, Nat.zero_le _, h0⟩, ?_⟩
  rintro i m H ⟨rfl, hi, p⟩
  by_cases hlt : i < x.cps.size
  · refine .inr ⟨hlt, Pv (i + 1), fun H' p' => ⟨x.cps.size - (i + 1), by omega, rfl, hlt, p'⟩, fun v H' y => ?_⟩
    obtain ⟨e, c, hc, rfl⟩ := y
    subst e
    exact hs i c H' hc p
  · have e : i = x.cps.size := by omega
    subst e
    exact .inl ⟨Nat.le_refl _, hd H p⟩
def offs (L : Str) : List Nat := (cds alphabet).filter fun c => !decide (c ∈ cds L)
theorem offs_ne {L : Str} (h : goodS L = true) : 0 < (offs L).length := by
  rcases Nat.eq_zero_or_pos (offs L).length with h0 | h0
  · have h1 : offs L = [] := List.length_eq_zero_iff.mp h0
    have h2 : ∀ c ∈ cds alphabet, c ∈ cds L := fun c hc => by
      have := List.filter_eq_nil_iff.mp h1 c hc
      simpa using this
    have h3 := nat_nodup_len (cds alphabet) (cds L) (by decide +kernel) h2
    rw [cds_len, cds_len] at h3
    have := (good_len h).2
    have h4 : alphabet.cps.size = 26 := by decide +kernel
    omega
  · exact h0
theorem offs_not {L : Str} {c : Nat} (h : c ∈ offs L) : c ∉ cds L := by
  have := (List.mem_filter.mp h).2
  simpa using this
theorem letB_len {L z : Str} (h : (cds z).length ≠ 1) : letB L (.str z) = false := by
  show (match cds z with | [c] => decide (c ∈ cds L) | _ => false) = false
  split
  · rename_i c hc
    rw [hc] at h
    exact absurd rfl h
  · rfl
def spNLs (K : PySem.W.Frag) : Sp := fun vs H Q _ => ∃ c : Int, vs = [.int c] ∧ ∀ v H', Ext H H' → LV K H' v → goodV v = false → Q v H'
def spSr : Sp := fun vs H Q _ => ∃ (L : Str) (c : Int), vs = [.str L, .int c] ∧ goodS L = true ∧ ∀ oc H', Ext H H' → oc ∉ cds L → Q (.str (sgn oc)) H'
section
variable {P : Program} {w : World} {K : PySem.W.Frag} {mg : Str → Option Value} {base : Heap}
theorem scNLs : FnScope ["_law_cell", "_law_some"] ["_law_cell"] (defScope sLawNoLetters) := ⟨rfl, rfl, rfl, by decide +kernel, rfl, by decide +kernel, by decide +kernel⟩
theorem nls_ok {f : Addr} {fd : FuncData} (F : FnP K "_law_no_letters" sLawNoLetters f fd) : FnOk P w K mg base CX0 1 f fd ["_law_cell"] (spNLs K) := by
  refine okD F scNLs (fun vs H Q E h => ?_) (fun cdv A outer s H vs Q E hr h => ?_)
  · obtain ⟨c, rfl, _⟩ := h
    rfl
  obtain ⟨c, rfl, q⟩ := h
  refine ⟨_, pss_cons (ps_set (i := 1) scNLs.nd rfl (Or.inl rfl) (pe_lst (pa_cons pe_str (pa_cons pe_str (pa_cons pe_str (pa_cons pe_str (pa_cons pe_str (pa_cons pe_str (pa_cons pe_str (pa_cons pe_non (pa_cons pe_int (pa_cons (pe_lst (pa_cons pe_str pa_nil))
      (pa_cons (pe_tup (pa_cons pe_str pa_nil)) (pa_cons pe_bl (pa_cons (pe_disp (pps_cons pe_str pe_int pps_nil) (by rfl) (by rfl) (fun z => by cases z) (by decide)) (pa_cons pe_str pa_nil))))))))))))))))
    (pss_one (ps_ret (pe_ix ix_list (pv 1) (pe_op op_mod (pv 0) pe_int) (fun _ _ => rfl)))), ?_⟩
  let Φ : Hp → V → Prop := fun H v => LV K H v ∧ goodV v = false
  have st : ∀ H H' v, Ext H H' → Φ H v → Φ H' v := fun H H' v e h => ⟨lv_ext e h.1, h.2⟩
  have str_ : ∀ (z : Str) (σ : L2.St), z.cps.size ≤ 100 → goodS z = false → Ev Φ H σ (tC (.str z)) := fun z σ h1 h2 H1 Q1 e q1 => q1 _ _ (Ext.refl _) ⟨⟨⟨"str", Kn.ofStr _ _ _⟩, fun y e => by cases e; exact h1⟩, h2⟩
  refine t_set (ev_lst st (n := 14) (H0 := H) (evl_cons st (str_ _ _ (by decide) (by decide +kernel)) (evl_cons st (str_ _ _ (by decide) (by decide +kernel)) (evl_cons st (str_ _ _ (by decide) (by decide +kernel)) (evl_cons st (str_ _ _ (by decide) (by decide +kernel)) (evl_cons st (str_ _ _ (by decide) (by decide +kernel))
    (evl_cons st (str_ _ _ (by decide) (by decide +kernel)) (evl_cons st (str_ _ _ (by decide) (by decide +kernel)) (evl_cons st ?non (evl_cons st ?int (evl_cons st ?lst (evl_cons st ?tup (evl_cons st ?bl (evl_cons st ?dic (evl_cons st (str_ _ _ (by decide) (by decide +kernel)) evl_nil)))))))))))))) (by decide) (Ext.refl _) ?rest)
  case non => exact fun H1 Q1 e q1 => q1 _ _ (Ext.refl _) ⟨⟨⟨"NoneType", .base .non, by decide⟩, fun y e => by cases e⟩, rfl⟩
  case int => exact fun H1 Q1 e q1 => q1 _ _ (Ext.refl _) ⟨⟨⟨"int", .base (.int _), by decide⟩, fun y e => by cases e⟩, rfl⟩
  case bl => exact fun H1 Q1 e q1 => q1 _ _ (Ext.refl _) ⟨⟨⟨"bool", .base (.bl _), by decide⟩, fun y e => by cases e⟩, rfl⟩
  case lst => exact fun H1 Q1 e q1 => ⟨by show 1 ≤ sizeLine; decide, fun p x => q1 _ _ (Ext.new x) ⟨⟨⟨"list", kn_lstA upd_same⟩, fun y e => by cases e⟩, rfl⟩⟩
  case tup => exact fun H1 Q1 e q1 => ⟨by show 1 ≤ sizeLine; decide, fun p x => q1 _ _ (Ext.new x) ⟨⟨⟨"tuple", kn_tupA upd_same⟩, fun y e => by cases e⟩, rfl⟩⟩
  case dic => exact fun H1 Q1 e q1 p x => ⟨upd_same, [(.inr "a", .int 1)], rfl, by decide, q1 _ _ ((Ext.new x).wr x) ⟨⟨⟨"dict", kn_dicA upd_same⟩, fun y e => by cases e⟩, rfl⟩⟩
  case rest =>
    intro l H1 e1 ⟨vs, hl, hn, hall⟩
    obtain ⟨v, hv, hp1, hp2⟩ := all_at hall 13 hn c
    exact ⟨_, rfl, _, rfl, _, _, rfl, rfl, show (0 : Int) < 14 by decide, l, _, _, v, rfl, rfl, SqL.of hl, hv, q v _ e1 hp1 hp2⟩
theorem scSr : FnScope ["_law_letters_here", "_law_cell", "_law_others", "_law_sign"] ["_law_letters_here", "_law_cell"] (defScope sLawStranger) := ⟨rfl, rfl, rfl, by decide +kernel, rfl, by decide +kernel, by decide +kernel⟩
theorem sr_ok {f : Addr} {fd : FuncData} (F : FnP K "_law_stranger" sLawStranger f fd) (ml : mg "len" = none) : FnOk P w K mg base CX0 1 f fd ["_law_letters_here", "_law_cell"] spSr := by
  refine okD F scSr (fun vs H Q E h => ?_) (fun cdv A outer s H vs Q E hr h => ?_)
  · obtain ⟨L, c, rfl, _⟩ := h
    rfl
  obtain ⟨L, c, rfl, hL, q⟩ := h
  refine ⟨_, pss_cons (ps_setLc (i := 2) (own := [("_law_sign", 3)]) (g := gName 3) rfl scSr.nd rfl rfl (sw_true rfl rfl rfl (by decide +kernel)) (pi_str pe_str)
      (blkOk_by (N := ["_law_letters_here", "_law_cell", "_law_others", "_law_sign"]) (sc := defScope sLawStranger) (by decide +kernel))
      (fun _ _ _ _ _ => pg_name (i := 3) scSr.nd rfl (Or.inl rfl) (Or.inr rfl)) (fun _ _ _ _ _ => pts_one (pt_cmpR op_notIn_sign (pv 3) (pv 0) (by rfl))) (fun _ _ _ _ _ => pv 3))
    (pss_one (ps_ret (pe_ix ix_list (pv 2) (pe_op op_mod (pv 1) (pe_callB call_len rfl ml PySem.boot_len (pa_cons (pv 2) pa_nil))) (fun _ _ => rfl)))), ?_⟩
  refine t_set ⟨alphabet, rfl, fun D hD => ?_⟩
  refine lc_signs (fun i H' => Ext H H' ∧ H' D = Option.some (.lst ((((cds alphabet).take i).filter fun c => !decide (c ∈ cds L)).map fun c => V.str (sgn c)))) ⟨(Ext.refl _).wr hD, upd_same⟩ ?_ ?_
  · rintro i ch H' hc ⟨e, hD1⟩
    have hc' : (cds alphabet)[i]? = Option.some ch := by rw [← hc]; exact Array.getElem?_toList
    have htk : (cds alphabet).take (i + 1) = (cds alphabet).take i ++ [ch] := by rw [List.take_succ, hc']; rfl
    have hi : i < 26 := Nat.lt_of_lt_of_le (List.getElem?_eq_some_iff.mp hc').1 (by decide +kernel)
    refine ⟨rfl, _, rfl, _, rfl, ch, L, rfl, rfl, _, rfl, ?_⟩
    by_cases hm : ch ∈ cds L
    · refine iffF (by show (!decide (ch ∈ cds L)) = false; rw [decide_eq_true hm]; rfl) ⟨e, ?_⟩
      rw [htk, List.filter_append, List.map_append]
      simpa [List.filter, hm] using hD1
    · refine iffT (by show (!decide (ch ∈ cds L)) = true; rw [decide_eq_false hm]; rfl) ⟨_, rfl, _, hD1, ?_, e.wr hD, ?_⟩
      · rw [List.length_map]
        have h8 := List.length_filter_le (fun c => !decide (c ∈ cds L)) ((cds alphabet).take i)
        rw [List.length_take] at h8
        exact Nat.lt_of_le_of_lt h8 (Nat.lt_of_lt_of_le (show min i (cds alphabet).length < 27 by omega) (by decide))
      · rw [upd_same, htk, List.filter_append, List.map_append]
        simp [List.filter, hm, sgn]
  · rintro H1 ⟨e1, hD1⟩
    rw [← cds_len, List.take_length] at hD1
    have hol := offs_ne hL
    have h0 := Int.emod_nonneg c (show (((offs L).length : Nat) : Int) ≠ 0 by omega)
    have h1 := Int.emod_lt_of_pos c (show (0 : Int) < (((offs L).length : Nat) : Int) by omega)
    obtain ⟨j, hj⟩ : ∃ j : Nat, c % (((offs L).length : Nat) : Int) = (j : Int) := ⟨_, (Int.toNat_of_nonneg h0).symm⟩
    have hjl : j < (offs L).length := by omega
    have hof := offs_not (List.getElem_mem hjl)
    generalize hoc : (offs L)[j] = oc at hof
    refine ⟨_, rfl, _, rfl, _, rfl, .ref D, _, rfl, .inl ⟨_, SqL.of hD1, rfl⟩, _, _, rfl, rfl, ?_, D, _, _, .str (sgn oc), rfl, rfl, SqL.of hD1, ?_, q oc _ e1 hof⟩
    · rw [List.length_map]; show (0 : Int) < (((offs L).length : Nat) : Int); omega
    · rw [List.length_map]
      show atI ((offs L).map fun c => V.str (sgn c)) (c % (((offs L).length : Nat) : Int)) = _
      rw [hj]
      refine atI_nat ?_
      rw [List.getElem?_map, List.getElem?_eq_getElem hjl, hoc]; rfl
end
end Bo
set_option Elab.async false
set_option linter.all false
set_option maxRecDepth 100000
set_option maxHeartbeats 8000000
namespace Bo
open PySem PySem.Spec PyProof.Rows L2 GE
/-- a thing that is no pattern, of a bounded size -/
def BdN (K : PySem.W.Frag) (L : Str) (m : Nat) (H : Hp) (v : V) : Prop := ∃ n, Bd K L H v n ∧ n ≤ m
theorem bdn_ext {K : PySem.W.Frag} {L : Str} {m : Nat} (H H' : Hp) (v : V) (e : Ext H H') (h : BdN K L m H v) : BdN K L m H' v := let ⟨n, a, b⟩ := h; ⟨n, bd_ext e a, b⟩
theorem bd_leaf {K : PySem.W.Frag} {L : Str} {H : Hp} {v : V} (h : Nd K L H v false) : BdN K L 200 H v := ⟨1, .leaf h, by decide⟩
theorem kn_pat {K : PySem.W.Frag} {H : Hp} {p : Pat} {v : V} (h : PatAt H p v) : Kn K H v "tuple" := by
  obtain ⟨a, xs, rfl, ha⟩ := h.hd
  exact kn_tupA ha
theorem nd_pair {K : PySem.W.Frag} {L : Str} {H : Hp} {a b : Addr} {k : Str} {us : List V} (h : H a = some (.tup [.str k, .ref b])) (m : k ∈ (["row", "or", "and"] : List Str)) (hb : H b = some (.tup us)) (n : 2 ≤ us.length) : Nd K L H (.ref a) true :=
  .kind h (nk_cast (decide_eq_true n) (.seq m hb))
theorem nd_few {K : PySem.W.Frag} {L : Str} {H : Hp} {a b : Addr} {k : Str} {us : List V} (h : H a = some (.tup [.str k, .ref b])) (m : k ∈ (["row", "or", "and"] : List Str)) (hb : H b = some (.tup us)) (n : us.length < 2) : Nd K L H (.ref a) false :=
  .kind h (nk_cast (decide_eq_false (by omega)) (.seq m hb))
theorem bd_and {K : PySem.W.Frag} {L : Str} {H : Hp} {a : Addr} {p : Pat} {v : V} (h : H a = some (.tup [.str "and", v])) (hp : PatAt H p v) (ho : p.ok L) (hs : p.size ≤ 170) : BdN K L 200 H (.ref a) := by
  have strB : ∀ z, Bd K L H (.str z) 1 := fun z => .leaf (.other (Kn.ofStr _ _ z) (by decide))
  cases p with
  | none => obtain ⟨b, rfl, hb⟩ := hp; exact bd_leaf (nd_few h (by decide) hb (by decide))
  | empty => obtain ⟨b, rfl, hb⟩ := hp; exact bd_leaf (nd_few h (by decide) hb (by decide))
  | sign c =>
    obtain ⟨b, rfl, hb⟩ := hp
    exact ⟨_, .node (pre := [.str "sign"]) (u := .str ⟨#[c]⟩) (post := []) (ps := []) (nd_pair h (by decide) hb (Nat.le_refl _)) (.seq h (by decide) hb) rfl (strB _) rfl trivial, by simp [sizeL]⟩
  | row ps =>
    obtain ⟨b, d, vs, rfl, hb, hd, hps⟩ := hp
    refine ⟨_, .node (pre := [.str "row"]) (u := .ref d) (post := []) (ps := []) (n := 1) (nd_pair h (by decide) hb (Nat.le_refl _)) (.seq h (by decide) hb) rfl (.leaf ?_) rfl trivial, by simp [sizeL]⟩
    cases ps with
    | nil => exact absurd ho.1 (by decide)
    | cons q qs => obtain ⟨x, xs, rfl, hx, _⟩ := hps; exact .head hd (kn_pat hx) (by decide)
  | or ps =>
    obtain ⟨b, d, vs, rfl, hb, hd, hps⟩ := hp
    refine ⟨_, .node (pre := [.str "or"]) (u := .ref d) (post := []) (ps := []) (n := 1) (nd_pair h (by decide) hb (Nat.le_refl _)) (.seq h (by decide) hb) rfl (.leaf ?_) rfl trivial, by simp [sizeL]⟩
    cases ps with
    | nil => exact absurd ho.1 (by decide)
    | cons q qs => obtain ⟨x, xs, rfl, hx, _⟩ := hps; exact .head hd (kn_pat hx) (by decide)
  | and ps =>
    obtain ⟨b, d, vs, rfl, hb, hd, hps⟩ := hp
    refine ⟨_, .node (pre := [.str "and"]) (u := .ref d) (post := []) (ps := []) (n := 1) (nd_pair h (by decide) hb (Nat.le_refl _)) (.seq h (by decide) hb) rfl (.leaf ?_) rfl trivial, by simp [sizeL]⟩
    cases ps with
    | nil => exact absurd ho.1 (by decide)
    | cons q qs => obtain ⟨x, xs, rfl, hx, _⟩ := hps; exact .head hd (kn_pat hx) (by decide)
  | many q =>
    obtain ⟨b, u, rfl, hb, hu⟩ := hp
    refine ⟨_, .node (pre := []) (u := .str "many") (post := [u]) (ps := [q]) (nd_pair h (by decide) hb (Nat.le_refl _)) (.seq h (by decide) hb) rfl (strB _) (PatsAt.one hu) ⟨ho, trivial⟩, ?_⟩
    have : q.size + 1 ≤ 170 := hs
    simp [sizeL]; omega
  | not q =>
    obtain ⟨b, u, rfl, hb, hu⟩ := hp
    refine ⟨_, .node (pre := []) (u := .str "not") (post := [u]) (ps := [q]) (nd_pair h (by decide) hb (Nat.le_refl _)) (.seq h (by decide) hb) rfl (strB _) (PatsAt.one hu) ⟨ho, trivial⟩, ?_⟩
    have : q.size + 1 ≤ 170 := hs
    simp [sizeL]; omega
theorem bd_sign {K : PySem.W.Frag} {L : Str} {H : Hp} {a : Addr} {y : V} {T : String} (h : H a = some (.tup [.str "sign", y])) (q : Kn K H y T) (z : ∀ z, y = .str z → z.cps.size ≤ 500) (b : letB L y = false) : BdN K L 200 H (.ref a) :=
  bd_leaf (.kind h (nk_cast b (.sign q z)))
theorem bd_signS {K : PySem.W.Frag} {L : Str} {H : Hp} {a : Addr} {z : Str} (h : H a = some (.tup [.str "sign", .str z])) (n : z.cps.size ≤ 500) (b : letB L (.str z) = false) : BdN K L 200 H (.ref a) :=
  bd_sign h (Kn.ofStr _ _ _) (fun y e => by cases e; exact n) b
theorem bd_long {K : PySem.W.Frag} {L : Str} {H : Hp} {a : Addr} {k : Str} {xs : List V} (h : H a = some (.tup (.str k :: xs))) (m : k ∉ (["none", "empty"] : List Str)) (n : xs.length ≠ 1) : BdN K L 200 H (.ref a) := bd_leaf (.kind h (.len m n))
def spNoP (K : PySem.W.Frag) : Sp := fun vs H Q _ => ∃ (L : Str) (v : V) (p : Pat) (c : Int), vs = [.str L, v, .int c] ∧ goodS L = true ∧ PatAt H p v ∧ p.ok L ∧ p.size ≤ 170 ∧ ∀ u H', Ext H H' → BdN K L 200 H' u → Q u H'
def spAb (K : PySem.W.Frag) : Sp := fun vs H Q _ => ∃ (L : Str) (v u : V) (p : Pat) (c : Int), vs = [v, u, .int c] ∧ PatAt H p v ∧ p.ok L ∧ p.size ≤ 170 ∧ BdN K L 200 H u ∧ ∀ u H', Ext H H' → BdN K L 500 H' u → Q u H'
section
variable {P : Program} {w : World} {K : PySem.W.Frag} {mg : Str → Option Value} {base : Heap}
theorem scNoP : FnScope ["_law_letters_here", "_law_pattern", "_law_cell", "_law_rest", "_law_some"] ["_law_letters_here", "_law_pattern", "_law_cell"] (defScope sLawNoPattern) := ⟨rfl, rfl, rfl, by decide +kernel, rfl, by decide +kernel, by decide +kernel⟩
theorem nop_ok {f g : Addr} {fd gd : FuncData} (F : FnP K "_law_no_pattern" sLawNoPattern f fd) (G : FnOk P w K mg base CX0 1 g gd ["_law_letters_here", "_law_cell"] spSr) (bG : Binds K gd ["_law_letters_here", "_law_cell"] []) (kG : PySem.W.keepIn K (.ref g) = true) (mG : mg "_law_stranger" = some (.ref g)) :
    FnOk P w K mg base CX0 2 f fd ["_law_letters_here", "_law_pattern", "_law_cell"] (spNoP K) := by
  refine okD F scNoP (fun vs H Q E h => ?_) (fun cdv A outer s H vs Q E hr h => ?_)
  · obtain ⟨L, v, p, c, rfl, _⟩ := h
    rfl
  obtain ⟨L, v, p, c, rfl, hL, hp, ho, hs, q⟩ := h
  refine ⟨_, (pss_cons (ps_set (i := 3) scNoP.nd rfl (Or.inl rfl) (pe_op op_fdiv (pv 2) pe_int)) (pss_cons (ps_set (i := 4) scNoP.nd rfl (Or.inl rfl) (pe_lst (pa_cons (pe_tup (pa_cons pe_str (pa_cons pe_int pa_nil))) (pa_cons (pe_tup pa_nil) (pa_cons (pe_tup (pa_cons pe_str pa_nil)) (pa_cons (pe_tup (pa_cons pe_str (pa_cons pe_str pa_nil))) (pa_cons (pe_tup (pa_cons pe_str (pa_cons (pe_call G hr rfl mG kG bG .nil pass0 (pa_cons (pv 0) (pa_cons (pv 3) pa_nil))) pa_nil))) (pa_cons (pe_tup (pa_cons pe_str (pa_cons pe_str pa_nil))) pa_nil)))))))) (pss_cons (ps_set (i := 4) scNoP.nd rfl (Or.inl rfl) (pe_op op_cat (pv 4) (pe_lst (pa_cons (pe_tup (pa_cons pe_str (pa_cons (pe_op op_add_str (pv 0) (pv 0)) pa_nil))) (pa_cons (pe_tup (pa_cons pe_str (pa_cons (pe_tup (pa_cons (pv 1) pa_nil)) pa_nil))) (pa_cons (pe_tup (pa_cons pe_str (pa_cons (pe_lst (pa_cons (pv 1) (pa_cons (pv 1) pa_nil))) pa_nil))) (pa_cons (pe_tup (pa_cons pe_str (pa_cons (pe_tup pa_nil) pa_nil))) pa_nil))))))) (pss_cons (ps_set (i := 4) scNoP.nd rfl (Or.inl rfl) (pe_op op_cat (pv 4) (pe_lst (pa_cons (pe_tup (pa_cons pe_str (pa_cons (pv 1) pa_nil))) (pa_cons (pe_tup (pa_cons pe_str pa_nil)) (pa_cons (pe_tup (pa_cons pe_str (pa_cons (pv 1) (pa_cons (pv 1) pa_nil)))) (pa_cons (pe_tup (pa_cons pe_str (pa_cons pe_non pa_nil))) (pa_cons (pe_tup (pa_cons pe_str (pa_cons (pv 1) pa_nil))) pa_nil)))))))) (pss_cons (ps_set (i := 4) scNoP.nd rfl (Or.inl rfl) (pe_op op_cat (pv 4) (pe_lst (pa_cons pe_str (pa_cons pe_non (pa_cons (pe_lst (pa_cons pe_str pa_nil)) (pa_cons pe_int (pa_cons (pe_tup (pa_cons pe_str (pa_cons (pe_tup (pa_cons (pv 1) (pa_cons pe_non pa_nil))) pa_nil))) (pa_cons (pe_tup (pa_cons pe_str (pa_cons (pe_tup pa_nil) pa_nil))) (pa_cons (pe_tup (pa_cons pe_str (pa_cons (pv 1) (pa_cons (pv 1) pa_nil)))) pa_nil)))))))))) (pss_cons (ps_set (i := 4) scNoP.nd rfl (Or.inl rfl) (pe_op op_cat (pv 4) (pe_lst (pa_cons (pe_tup (pa_cons pe_str (pa_cons pe_int pa_nil))) (pa_cons (pe_tup (pa_cons pe_str (pa_cons pe_non pa_nil))) (pa_cons (pe_tup (pa_cons pe_str (pa_cons (pe_lst (pa_cons (pe_ix ix_str (pv 0) pe_int (fun _ _ => rfl)) pa_nil)) pa_nil))) (pa_cons (pe_tup (pa_cons (pe_lst (pa_cons pe_str pa_nil)) (pa_cons (pe_ix ix_str (pv 0) pe_int (fun _ _ => rfl)) pa_nil))) (pa_cons (pe_tup (pa_cons pe_dnewK (pa_cons (pe_ix ix_str (pv 0) pe_int (fun _ _ => rfl)) pa_nil))) pa_nil)))))))) (pss_one (ps_ret (pe_ix ix_list (pv 4) (pe_op op_mod (pv 2) pe_int) (fun _ _ => rfl)))))))))), ?_⟩
  obtain ⟨hL1, hL4⟩ := good_len hL
  have hlL : L.length ≤ sizeLine := Nat.le_trans hL4 (by decide)
  have z1 : 1 ≤ sizeLine := by decide
  have z2 : 2 ≤ sizeLine := by decide
  have z3 : 3 ≤ sizeLine := by decide
  have st := @bdn_ext K L 200
  have hcl := cds_len L
  have l0 : (cds L)[0]? = Option.some ((cds L)[0]'(by omega)) := List.getElem?_eq_getElem _
  generalize (cds L)[0]'(by omega) = d0 at l0
  have hpe : ∀ {H' : Hp}, Ext H H' → PatAt H' p v := fun e => PatAt.ext e _ _ hp
  have nA : letB L (.str "A") = false := by
    show decide (65 ∈ cds L) = false
    exact decide_eq_false fun h => by have := good_az hL h; omega
  have nLL : letB L (.str (L ++ L)) = false := letB_len (by rw [cds_app, List.length_append]; omega)
  have zLL : L.length + L.length ≤ sizeLine := Nat.le_trans (show L.cps.size + L.cps.size ≤ 8 by omega) (by decide)
  refine t_set ⟨_, rfl, _, _, rfl, rfl, show (0 : Int) < 27 ∧ (27 : Int) < 1073741824 by decide, ?_⟩
  refine t_set (ev_lst st (n := 6) (H0 := H) (evl_cons st ?a1 (evl_cons st ?a2 (evl_cons st ?a3 (evl_cons st ?a4 (evl_cons st ?a5 (evl_cons st ?a6 evl_nil)))))) (by decide) (Ext.refl _) ?r1)
  case a1 => exact fun H1 Q1 e q1 => ⟨z2, fun p x => q1 _ _ (Ext.new x) (bd_leaf (.kind upd_same (.leaf (by decide))))⟩
  case a2 => exact fun H1 Q1 e q1 => ⟨Nat.zero_le _, fun p x => q1 _ _ (Ext.new x) (bd_leaf (.nil upd_same))⟩
  case a3 => exact fun H1 Q1 e q1 => ⟨z1, fun p x => q1 _ _ (Ext.new x) (bd_long upd_same (by decide) (by decide))⟩
  case a4 => exact fun H1 Q1 e q1 => ⟨z2, fun p x => q1 _ _ (Ext.new x) (bd_signS upd_same (by decide) nA)⟩
  case a5 => exact fun H1 Q1 e q1 => ⟨_, rfl, _, rfl, L, _, rfl, hL, fun oc H2 e2 hn => ⟨z2, fun p x => q1 _ _ (e2.trans (Ext.new x)) (bd_signS upd_same (show 1 ≤ 500 by decide) (show decide (oc ∈ cds L) = false from decide_eq_false hn))⟩⟩
  case a6 => exact fun H1 Q1 e q1 => ⟨z2, fun p x => q1 _ _ (Ext.new x) (bd_signS upd_same (by decide) rfl)⟩
  case r1 =>
  intro l1 H1 e1 A1
  refine t_set ⟨_, rfl, ev_lst st (n := 4) (H0 := H) (evl_cons st ?b1 (evl_cons st ?b2 (evl_cons st ?b3 (evl_cons st ?b4 evl_nil)))) (by decide) e1 ?r2⟩
  case b1 => exact fun H1 Q1 e q1 => ⟨_, rfl, _, rfl, _, _, rfl, rfl, zLL, ⟨z2, fun p x => q1 _ _ (Ext.new x) (bd_signS upd_same (by rw [← cds_len, cds_app, List.length_append]; omega) nLL)⟩⟩
  case b2 => exact fun H1 Q1 e q1 => ⟨_, rfl, z1, fun p1 x1 => ⟨z2, fun p x => q1 _ _ ((Ext.new x1).trans (Ext.new x)) (bd_leaf (nd_few upd_same (by decide) ((Ext.new x).tup upd_same) (by show 1 < 2; decide)))⟩⟩
  case b3 => exact fun H1 Q1 e q1 => ⟨_, rfl, _, rfl, z2, fun p1 x1 => ⟨z2, fun p x => q1 _ _ ((Ext.new x1).trans (Ext.new x)) (bd_leaf (.kind upd_same (.seqO (by decide) (kn_lstA ((Ext.new x).lst upd_same)) (by decide))))⟩⟩
  case b4 => exact fun H1 Q1 e q1 => ⟨Nat.zero_le _, fun p1 x1 => ⟨z2, fun p x => q1 _ _ ((Ext.new x1).trans (Ext.new x)) (bd_leaf (nd_few upd_same (by decide) ((Ext.new x).tup upd_same) (by show 0 < 2; decide)))⟩⟩
  case r2 =>
  intro l2 H2 e2 A2
  refine la_cat st (la_ext st e2 A1) A2 (by decide) fun l3 H3 e3 A3 => ?_
  have e03 := (e1.trans e2).trans e3
  refine t_set ⟨_, rfl, ev_lst st (n := 5) (H0 := H) (evl_cons st ?c1 (evl_cons st ?c2 (evl_cons st ?c3 (evl_cons st ?c4 (evl_cons st ?c5 evl_nil))))) (by decide) e03 ?r3⟩
  case c1 => exact fun H1 Q1 e q1 => ⟨_, rfl, z2, fun p x => q1 _ _ (Ext.new x) (bd_and upd_same (hpe (e.trans (Ext.new x))) ho hs)⟩
  case c2 => exact fun H1 Q1 e q1 => ⟨z1, fun p x => q1 _ _ (Ext.new x) (bd_long upd_same (by decide) (by decide))⟩
  case c3 => exact fun H1 Q1 e q1 => ⟨_, rfl, _, rfl, z3, fun p x => q1 _ _ (Ext.new x) (bd_long upd_same (by decide) (by show 2 ≠ 1; decide))⟩
  case c4 => exact fun H1 Q1 e q1 => ⟨z2, fun p x => q1 _ _ (Ext.new x) ⟨_, .node (pre := []) (u := .non) (post := []) (ps := []) (.kind upd_same (nk_cast (by decide) (.one (by decide) (by decide) (by decide)))) (.one upd_same (by decide)) rfl (.leaf (.other ⟨.base .non, by decide⟩ (by decide))) rfl trivial, by simp [sizeL]⟩⟩
  case c5 => exact fun H1 Q1 e q1 => ⟨_, rfl, z2, fun p x => q1 _ _ (Ext.new x) (bd_leaf (.kind upd_same (nk_cast (by decide) (.one (by decide) (by decide) (by decide)))))⟩
  case r3 =>
  intro l4 H4 e4 A4
  refine la_cat st (la_ext st e4 A3) A4 (by decide) fun l5 H5 e5 A5 => ?_
  have e05 := (e03.trans e4).trans e5
  refine t_set ⟨_, rfl, ev_lst st (n := 7) (H0 := H) (evl_cons st ?d1 (evl_cons st ?d2 (evl_cons st ?d3 (evl_cons st ?d4 (evl_cons st ?d5 (evl_cons st ?d6 (evl_cons st ?d7 evl_nil))))))) (by decide) e05 ?r4⟩
  case d1 => exact fun H1 Q1 e q1 => q1 _ _ (Ext.refl _) (bd_leaf (.other (Kn.ofStr _ _ _) (by decide)))
  case d2 => exact fun H1 Q1 e q1 => q1 _ _ (Ext.refl _) (bd_leaf (.other (T := "NoneType") ⟨.base .non, by decide⟩ (by decide)))
  case d3 => exact fun H1 Q1 e q1 => ⟨z1, fun p x => q1 _ _ (Ext.new x) (bd_leaf (.other (kn_lstA upd_same) (by decide)))⟩
  case d4 => exact fun H1 Q1 e q1 => q1 _ _ (Ext.refl _) (bd_leaf (.other (T := "int") ⟨.base (.int _), by decide⟩ (by decide)))
  case d5 => exact fun H1 Q1 e q1 => ⟨_, rfl, z2, fun p1 x1 => ⟨z2, fun p x => q1 _ _ ((Ext.new x1).trans (Ext.new x)) ⟨_, .node (pre := [v]) (u := .non) (post := []) (ps := []) (nd_pair upd_same (by decide) ((Ext.new x).tup upd_same) (by show 2 ≤ 2; decide)) (.seq upd_same (by decide) ((Ext.new x).tup upd_same)) rfl (.leaf (.other (T := "NoneType") ⟨.base .non, by decide⟩ (by decide))) rfl trivial, by simp [sizeL]⟩⟩⟩
  case d6 => exact fun H1 Q1 e q1 => ⟨Nat.zero_le _, fun p1 x1 => ⟨z2, fun p x => q1 _ _ ((Ext.new x1).trans (Ext.new x)) (bd_leaf (.kind upd_same (nk_cast rfl (.leaf (by decide)))))⟩⟩
  case d7 => exact fun H1 Q1 e q1 => ⟨_, rfl, _, rfl, z3, fun p x => q1 _ _ (Ext.new x) (bd_long upd_same (by decide) (by show 2 ≠ 1; decide))⟩
  case r4 =>
  intro l6 H6 e6 A6
  refine la_cat st (la_ext st e6 A5) A6 (by decide) fun l7 H7 e7 A7 => ?_
  have e07 := (e05.trans e6).trans e7
  have ix0 : ∀ {σ : L2.St} {H' : Hp} {Q' : VK}, σ[0]? = some (some (.str L)) → Q' (.str ⟨#[d0]⟩) H' → tOp rIxS (tVar 0) (tC (.int 0)) σ H' Q' := fun h0 q' => ⟨_, h0, L, _, d0, rfl, rfl, hlL, atI_nat (j := 0) l0, q'⟩
  refine t_set ⟨_, rfl, ev_lst st (n := 5) (H0 := H) (evl_cons st ?f1 (evl_cons st ?f2 (evl_cons st ?f3 (evl_cons st ?f4 (evl_cons st ?f5 evl_nil))))) (by decide) e07 ?r5⟩
  case f1 => exact fun H1 Q1 e q1 => ⟨z2, fun p x => q1 _ _ (Ext.new x) (bd_sign (T := "int") upd_same ⟨.base (.int _), by decide⟩ (fun y e => by cases e) rfl)⟩
  case f2 => exact fun H1 Q1 e q1 => ⟨z2, fun p x => q1 _ _ (Ext.new x) (bd_sign (T := "NoneType") upd_same ⟨.base .non, by decide⟩ (fun y e => by cases e) rfl)⟩
  case f3 => exact fun H1 Q1 e q1 => ⟨_, rfl, L, _, d0, rfl, rfl, hlL, atI_nat (j := 0) l0, z1, fun p1 x1 => ⟨z2, fun p x => q1 _ _ ((Ext.new x1).trans (Ext.new x)) (bd_sign upd_same (kn_lstA ((Ext.new x).lst upd_same)) (fun y e => by cases e) rfl)⟩⟩
  case f4 => exact fun H1 Q1 e q1 => ⟨z1, fun p1 x1 => ⟨_, rfl, L, _, d0, rfl, rfl, hlL, atI_nat (j := 0) l0, z2, fun p x => q1 _ _ ((Ext.new x1).trans (Ext.new x)) (bd_leaf (.head upd_same (kn_lstA ((Ext.new x).lst upd_same)) (by decide)))⟩⟩
  case f5 => exact fun H1 Q1 e q1 p1 x1 => ⟨_, rfl, L, _, d0, rfl, rfl, hlL, atI_nat (j := 0) l0, z2, fun p x => q1 _ _ ((Ext.new x1).trans (Ext.new x)) (bd_leaf (.head upd_same (kn_dicA ((Ext.new x).keep _ _ upd_same (fun ps z => by cases z))) (by decide)))⟩
  case r5 =>
  intro l8 H8 e8 A8
  refine la_cat st (la_ext st e8 A7) A8 (by decide) fun l9 H9 e9 ⟨vs, hl, hn, hall⟩ => ?_
  obtain ⟨u, hu, hb⟩ := all_at hall 26 hn c
  exact ⟨_, rfl, _, rfl, _, _, rfl, rfl, show (0 : Int) < 27 by decide, l9, _, _, u, rfl, rfl, SqL.of hl, hu, q u _ ((e07.trans e8).trans e9) hb⟩
theorem scAb : FnScope ["_law_pattern", "_law_wrong", "_law_cell", "_law_word"] ["_law_pattern", "_law_wrong", "_law_cell"] (defScope sLawAbout) := ⟨rfl, rfl, rfl, by decide +kernel, rfl, by decide +kernel, by decide +kernel⟩
theorem word3 (c : Int) : ∃ k : Str, atI [V.str "row", V.str "or", V.str "and"] (c % 3) = some (.str k) ∧ k ∈ (["row", "or", "and"] : List Str) := by
  have : c % 3 = 0 ∨ c % 3 = 1 ∨ c % 3 = 2 := by omega
  rcases this with h | h | h <;> rw [h]
  · exact ⟨"row", rfl, by decide⟩
  · exact ⟨"or", rfl, by decide⟩
  · exact ⟨"and", rfl, by decide⟩
theorem ab_ok {f : Addr} {fd : FuncData} (F : FnP K "_law_about" sLawAbout f fd) : FnOk P w K mg base CX0 1 f fd ["_law_pattern", "_law_wrong", "_law_cell"] (spAb K) := by
  refine okD F scAb (fun vs H Q E h => ?_) (fun cdv A outer s H vs Q E hr h => ?_)
  · obtain ⟨L, v, u, p, c, rfl, _⟩ := h
    rfl
  obtain ⟨L, v, u, p, c, rfl, hp, ho, hs, ⟨n, hb, hn⟩, q⟩ := h
  refine ⟨_, pss_cons (ps_if (pt_cmpR op_gt (pe_op op_mod (pv 2) pe_int) pe_int (nomark _)) (pss_one (ps_ret (pv 1))) pss_nil)
    (pss_cons (ps_set (i := 3) scAb.nd rfl (Or.inl rfl) (pe_ix ix_list (pe_lst (pa_cons pe_str (pa_cons pe_str (pa_cons pe_str pa_nil)))) (pe_op op_mod (pv 2) pe_int) (fun _ _ => rfl)))
    (pss_cons (ps_if (pt_cmpR op_eq (pe_op op_mod (pe_op op_fdiv (pv 2) pe_int) pe_int) pe_int (nomark _)) (pss_one (ps_ret (pe_tup (pa_cons (pv 3) (pa_cons (pe_tup (pa_cons (pv 0) (pa_cons (pv 0) (pa_cons (pv 1) pa_nil)))) pa_nil))))) pss_nil)
    (pss_one (ps_ret (pe_tup (pa_cons (pv 3) (pa_cons (pe_tup (pa_cons (pv 1) (pa_cons (pv 0) pa_nil))) pa_nil))))))), ?_⟩
  have z2 : 2 ≤ sizeLine := by decide
  have z3 : 3 ≤ sizeLine := by decide
  refine t_seq ⟨_, rfl, _, _, rfl, rfl, show (0 : Int) < 6 by decide, _, _, rfl, rfl, _, rfl, ?_⟩
  refine ite2 (fun c1 => ⟨_, rfl, q _ _ (Ext.refl _) ⟨n, hb, by omega⟩⟩) (fun c1 => ?_)
  dsimp only [tNext]
  obtain ⟨k, hk, hm⟩ := word3 c
  refine t_set ⟨z3, fun l x => ⟨_, rfl, _, _, rfl, rfl, show (0 : Int) < 3 by decide, l, _, _, .str k, rfl, rfl, SqL.of upd_same, hk, ?_⟩⟩
  have t1 := Ext.new (o := .lst [V.str "row", .str "or", .str "and"]) x
  refine t_seq ⟨_, rfl, _, _, rfl, rfl, show (0 : Int) < 6 ∧ (6 : Int) < 1073741824 by decide, _, _, rfl, rfl, show (0 : Int) < 2 by decide, rfl, _, rfl, ?_⟩
  refine ite2 (fun c2 => ?_) (fun c2 => ?_)
  · refine ⟨_, rfl, _, rfl, _, rfl, _, rfl, z3, fun p1 x1 => ⟨z2, fun p2 x2 => q _ _ (t1.trans ((Ext.new x1).trans (Ext.new x2))) ?_⟩⟩
    have e3 := t1.trans ((Ext.new (o := .tup [v, v, u]) x1).trans (Ext.new (o := .tup [V.str k, .ref p1]) x2))
    exact ⟨_, .node (pre := [v, v]) (u := u) (post := []) (ps := []) (nd_pair upd_same hm ((Ext.new x2).tup upd_same) (by show 2 ≤ 3; decide)) (.seq upd_same hm ((Ext.new x2).tup upd_same)) rfl (bd_ext e3 hb) rfl trivial, by simp [sizeL]; omega⟩
  · refine ⟨_, rfl, _, rfl, _, rfl, z2, fun p1 x1 => ⟨z2, fun p2 x2 => q _ _ (t1.trans ((Ext.new x1).trans (Ext.new x2))) ?_⟩⟩
    have e3 := t1.trans ((Ext.new (o := .tup [u, v]) x1).trans (Ext.new (o := .tup [V.str k, .ref p1]) x2))
    exact ⟨_, .node (pre := []) (u := u) (post := [v]) (ps := [p]) (nd_pair upd_same hm ((Ext.new x2).tup upd_same) (by show 2 ≤ 2; decide)) (.seq upd_same hm ((Ext.new x2).tup upd_same)) rfl (bd_ext e3 hb) (PatsAt.one (PatAt.ext e3 _ _ hp)) ⟨ho, trivial⟩, by simp [sizeL]; omega⟩
end
end Bo
set_option Elab.async false
set_option linter.all false
set_option maxRecDepth 100000
set_option maxHeartbeats 4000000
namespace Bo
open PySem PySem.Spec PyProof.Rows L2 GE GH
/-- the law is told the word -/
def Told (i : Nat) (H : Hp) (Q : VK) : Prop := ∀ r H', Ext H H' → H' r = Option.some (.lst [.str (word i)]) → Q (.ref r) H'
theorem passF {X : Cx} : Passes (L2N.CX X.prog X.w) X (fun _ _ _ => False) := fun _ _ _ _ _ _ _ ⟨_, _, _, _, _, _, _, _, _, _, _, _, h⟩ => h.elim
def spAsk (K : PySem.W.Frag) (CL CP CT T : Addr) : Sp := fun vs H Q E => ∃ (z : Int) (lv v : V), vs = [.int z, lv, v] ∧ 0 ≤ z ∧ z ≤ 5 ∧ LV K H lv ∧ GxR.TabG H T ∧
  (z = 0 → (goodV lv = false → ∀ H', Ext H H' → E (.ref CL) none H') ∧ (goodV lv = true → ∀ H', Ext H H' → Q .non H')) ∧
  (z ≠ 0 → NPs K H lv v (E (.ref CL) none) (E (.ref CP) none) (E (.ref CT) none) (fun H' => z = 1 ∧ Q .non H'))
def spTo (K : PySem.W.Frag) (T : Addr) : Sp := fun vs H Q E => ∃ (z : Int) (lv v : V), vs = [.int z, lv, v] ∧ 0 ≤ z ∧ z ≤ 5 ∧ LV K H lv ∧ GxR.TabG H T ∧
  (z = 0 → (goodV lv = false → Told 0 H Q) ∧ (goodV lv = true → ∀ H', Ext H H' → Q .non H')) ∧
  (z ≠ 0 → NPs K H lv v (fun H' => Told 0 H' Q) (fun H' => Told 1 H' Q) (fun H' => Told 2 H' Q) (fun H' => z = 1 ∧ Q .non H'))
def spLr (K : PySem.W.Frag) (T : Addr) : Sp := fun vs H Q _ => ∃ (lv u : V), vs = [lv, u] ∧ LV K H lv ∧ GxR.TabG H T ∧ goodV lv = false ∧ Told 0 H Q
section
variable {P : Program} {w : World} {K : PySem.W.Frag} {mg : Str → Option Value} {base : Heap}
theorem scAsk : FnScope ["_law_way", "_law_letters_here", "_law_thing"] ["_law_way", "_law_letters_here", "_law_thing"] (defScope sLawAsked) := ⟨rfl, rfl, rfl, by decide +kernel, rfl, by decide +kernel, by decide +kernel⟩
theorem ask_ok {f g1 g2 g3 g4 g5 : Addr} {fd d1 d2 d3 d4 d5 : FuncData} {CL CP CT T : Addr} (F : FnP K "_law_asked" sLawAsked f fd)
    (G1 : FnOk P w K mg base (L2N.CX P w) 3 g1 d1 ["letters"] (spNL K CL T)) (b1 : Binds K d1 ["letters"] []) (k1 : PySem.W.keepIn K (.ref g1) = true) (m1 : mg "need_letters" = Option.some (.ref g1))
    (G2 : FnOk P w K mg base (L2N.CX P w) 4 g2 d2 ["letters", "pattern"] (spNP K CL CP CT T)) (b2 : Binds K d2 ["letters", "pattern"] []) (k2 : PySem.W.keepIn K (.ref g2) = true) (m2 : mg "need_pattern" = Option.some (.ref g2))
    (G3 : FnOk P w K mg base (L2N.CX P w) 5 g3 d3 ["letters", "pattern", "text"] (spFi K CL CP CT T)) (b3 : Binds K d3 ["letters", "pattern", "text"] []) (k3 : PySem.W.keepIn K (.ref g3) = true) (m3 : mg "fits" = Option.some (.ref g3))
    (G4 : FnOk P w K mg base (L2N.CX P w) 5 g4 d4 ["letters", "pattern"] (spMa K CL CP CT T)) (b4 : Binds K d4 ["letters", "pattern"] []) (k4 : PySem.W.keepIn K (.ref g4) = true) (m4 : mg "machine_of" = Option.some (.ref g4))
    (G5 : FnOk P w K mg base (L2N.CX P w) 5 g5 d5 ["letters", "one", "other"] (spTA K CL CP CT T)) (b5 : Binds K d5 ["letters", "one", "other"] []) (k5 : PySem.W.keepIn K (.ref g5) = true) (m5 : mg "told_alike" = Option.some (.ref g5)) :
    FnOk P w K mg base (L2N.CX P w) 6 f fd ["_law_way", "_law_letters_here", "_law_thing"] (spAsk K CL CP CT T) := by
  refine okX F scAsk (fun vs H Q E h => ?_) (fun cdv A outer s H vs Q E hr h => ?_)
  · obtain ⟨z, lv, v, rfl, _⟩ := h
    rfl
  obtain ⟨z, lv, v, rfl, hz0, hz5, hL, hT, h0, h1⟩ := h
  refine ⟨_, (pss_cons (ps_if (pt_cmpR op_eq (pv 0) pe_int (nomark _)) (pss_one (ps_ret (pe_call G1 (hr.mono (by omega)) rfl m1 k1 b1 .nil (L2N.passes_call (L2N.takes_of rfl rfl rfl rfl) (fun _ _ _ _ h => h)) (pa_cons (pv 1) pa_nil)))) pss_nil) (pss_cons (ps_if (pt_cmpR op_eq (pv 0) pe_int (nomark _)) (pss_one (ps_ret (pe_call G2 (hr.mono (by omega)) rfl m2 k2 b2 .nil (L2N.passes_call (L2N.takes_of rfl rfl rfl rfl) (fun _ _ _ _ h => h)) (pa_cons (pv 1) (pa_cons (pv 2) pa_nil))))) pss_nil) (pss_cons (ps_if (pt_cmpR op_eq (pv 0) pe_int (nomark _)) (pss_one (ps_ret (pe_call G3 hr rfl m3 k3 b3 .nil (L2N.passes_call (L2N.takes_of rfl rfl rfl rfl) (fun _ _ _ _ h => h)) (pa_cons (pv 1) (pa_cons (pv 2) (pa_cons pe_non pa_nil)))))) pss_nil) (pss_cons (ps_if (pt_cmpR op_eq (pv 0) pe_int (nomark _)) (pss_one (ps_ret (pe_call G4 hr rfl m4 k4 b4 .nil (L2N.passes_call (L2N.takes_of rfl rfl rfl rfl) (fun _ _ _ _ h => h)) (pa_cons (pv 1) (pa_cons (pv 2) pa_nil))))) pss_nil) (pss_cons (ps_if (pt_cmpR op_eq (pv 0) pe_int (nomark _)) (pss_one (ps_ret (pe_call G5 hr rfl m5 k5 b5 .nil (L2N.passes_call (L2N.takes_of rfl rfl rfl rfl) (fun _ _ _ _ h => h)) (pa_cons (pv 1) (pa_cons (pv 2) (pa_cons pe_non pa_nil)))))) pss_nil) (pss_one (ps_ret (pe_call G5 hr rfl m5 k5 b5 .nil (L2N.passes_call (L2N.takes_of rfl rfl rfl rfl) (fun _ _ _ _ h => h)) (pa_cons (pv 1) (pa_cons (pe_tup (pa_cons pe_str pa_nil)) (pa_cons (pv 2) pa_nil))))))))))), ?_⟩
  obtain ⟨⟨Ty, hk⟩, hzz⟩ := id hL
  have step : ∀ {i : Int} {t u : TS} {D : Ends}, (z = i → t { D with nx := u D } [some (.int z), some lv, some v] H) → (z ≠ i → u D [some (.int z), some lv, some v] H) → tSeq (tIfS (tTest (tOp rEq (tVar 0) (tC (.int i)))) t tNext) u D [some (.int z), some lv, some v] H := by
    intro i t u D a b
    refine t_seq ⟨_, rfl, rfl, _, rfl, ?_⟩
    rw [dec_int]
    by_cases e : z = i
    · exact iffT (by rw [beq_iff_eq]; exact e) (a e)
    · exact iffF (by rw [beq_eq_false_iff_ne]; exact e) (b e)
  refine step (fun e => ?_) (fun n0 => ?_)
  · obtain ⟨hb, hg⟩ := h0 e
    exact ⟨_, rfl, lv, Ty, rfl, hk, hzz, hT, fun g H' e' => hg g H' e', fun b H' e' => hb b H' e'⟩
  have hn := h1 n0
  refine step (fun e => ?_) (fun n1 => ?_)
  · exact ⟨_, rfl, _, rfl, lv, v, rfl, hL, hT, nps_mono hn (fun _ _ h => h) (fun _ _ h => h) (fun _ _ h => h) (fun _ _ h => h.2)⟩
  have hn : NPs K H lv v (E (.ref CL) none) (E (.ref CP) none) (E (.ref CT) none) (fun _ => False) := nps_mono hn (fun _ _ h => h) (fun _ _ h => h) (fun _ _ h => h) (fun _ _ h => n1 h.1)
  refine step (fun e => ?_) (fun n2 => ?_)
  · exact ⟨_, rfl, _, rfl, lv, v, .non, rfl, hL, hT, hn⟩
  refine step (fun e => ?_) (fun n3 => ?_)
  · exact ⟨_, rfl, _, rfl, lv, v, rfl, hL, hT, hn⟩
  refine step (fun e => ?_) (fun n4 => ?_)
  · exact ⟨_, rfl, _, rfl, lv, v, .non, rfl, hL, hT, nps_mono hn (fun _ _ h => h) (fun _ _ h => h) (fun _ _ h => h) (fun _ _ h => h.elim)⟩
  refine ⟨_, rfl, by show 1 ≤ sizeLine; decide, fun p x => ⟨_, rfl, lv, .ref p, v, rfl, lv_ext (Ext.new x) hL, (Ext.new x).tab _ hT, ?_⟩⟩
  have hn2 := nps_ext (Ext.new (o := .tup [V.str "empty"]) x) hn
  exact ⟨hn2.1, fun L eL g => .inr ⟨.empty, ⟨p, rfl, upd_same⟩, trivial, by decide, fun h => absurd h (by decide), fun _ H' e => nps_ext e hn2⟩⟩
def tsK (i : Nat) (ca : Nat → Addr) (a : Addr) (cls : Value) (d : Option Addr) : TS := fun D σ H => ∃ j, j < 4 ∧ cls = .ref (ca j) ∧ d = Option.none ∧ tRet (tCall (spKi j a) [] (fun _ _ _ => False) (tCons (tVar i) tNil)) D σ H
theorem scTo : FnScope ["_law_way", "_law_letters_here", "_law_thing", "_law_error"] ["_law_way", "_law_letters_here", "_law_thing"] (defScope sLawTold) := ⟨rfl, rfl, rfl, by decide +kernel, rfl, by decide +kernel, by decide +kernel⟩
theorem scLr : FnScope ["_law_letters_here", "_law_text", "_law_error"] ["_law_letters_here", "_law_text"] (defScope sLawRead) := ⟨rfl, rfl, rfl, by decide +kernel, rfl, by decide +kernel, by decide +kernel⟩
theorem to_ok {f g k : Addr} {fd gd kd : FuncData} {ca : Nat → Addr} {PE_ : Addr} {T : Addr} (F : FnP K "_law_told" sLawTold f fd) (er : Err K ca) (exm : ∀ i, i < 4 → PySem.W.exmOne K (.ref (ca i)) (.ref PE_) = Option.some true) (mP : mg "PatternError" = Option.some (.ref PE_))
    (G : FnOk P w K mg base (L2N.CX P w) 6 g gd ["_law_way", "_law_letters_here", "_law_thing"] (spAsk K (ca 0) (ca 1) (ca 2) T)) (bG : Binds K gd ["_law_way", "_law_letters_here", "_law_thing"] []) (kG : PySem.W.keepIn K (.ref g) = true) (mG : mg "_law_asked" = Option.some (.ref g))
    (J : FnP K "_law_kind" sLawKind k kd) (bJ : Binds K kd ["_law_error"] []) (mJ : mg "_law_kind" = Option.some (.ref k))
    (m0 : mg "NoLetters" = Option.some (.ref (ca 0))) (m1 : mg "NoPattern" = Option.some (.ref (ca 1))) (m2 : mg "TooGreat" = Option.some (.ref (ca 2))) (m3 : mg "NoText" = Option.some (.ref (ca 3))) (m4 : mg "NoRoom" = Option.some (.ref (ca 4)))
    (mi : mg "isinstance" = none) (mn : mg "int" = none) (ml : mg "len" = none) (mv : mg "ValueError" = none) : FnOk P w K mg base CX0 7 f fd ["_law_way", "_law_letters_here", "_law_thing"] (spTo K T) := by
  refine okX F scTo (fun vs H Q E h => ?_) (fun cdv A outer s H vs Q E hr h => ?_)
  · obtain ⟨z, lv, v, rfl, _⟩ := h
    rfl
  obtain ⟨z, lv, v, rfl, hz0, hz5, hL, hT, h0, h1⟩ := h
  refine ⟨_, pss_one (L2N.ps_try_as (Wout := fun _ _ _ _ => False) (ts := tsK 3 ca) (i := 3) (c := .ref PE_) rfl rfl scTo.nd rfl rfl ⟨rfl, by decide, .inl mP⟩ (fun u s' ⟨_, _, _, _, _, _, _, _, _, _, _, _, _, _, _, _, w⟩ => w.elim)
    (fun W pn xe tk _ => pss_one (ps_ret (pe_callS G hr rfl mG kG bG (fun σ => L2N.passAt tk σ) (pa_cons (pv 0) (pa_cons (pv 1) (pa_cons (pv 2) pa_nil))))))
    (fun a oe cls d pn hzn hf => ⟨fun pins s σ H D I h => ?_⟩)), ?_⟩
  · obtain ⟨i, hi, rfl, rfl, q⟩ := h
    obtain ⟨vs, hv⟩ := id hf
    refine PSs.run (t := tRet (tCall (spKi i a) [] (fun _ _ _ => False) (tCons (tVar 3) tNil))) ?_ pins s σ H D I q
    refine pss_one (ps_ret (pe_callAt (p := (a, oe)) (k := 1) (ki_ok J er hi hzn.zc hf m0 m1 m2 m3 m4 mi mn ml mv) ⟨?_, ?_⟩ ⟨rfl, vs, hv, hzn.2.2 vs hv⟩ List.mem_cons_self rfl mJ J.kp bJ (pa_cons (pv 3) pa_nil)))
    · have := hr.dp
      show A.depth + 1 + 3 * 1 + 5 < recursionLimit
      have h9 : A.depth + 1 + 3 * 6 + 5 < recursionLimit := this
      omega
    · have := hr.un
      show A.units + 3 + 16 * 1 + 200 < cLine
      have h9 : A.units + 3 + 16 * 6 + 200 < cLine := this
      omega
  have tell : ∀ i, i < 4 → ∀ H', Told i H' Q → wAs K (.ref PE_) 3 (tsK 3 ca) (fun _ _ _ _ => False) { nx := fun _ H' => Q .non H', rt := Q } (.ref (ca i)) Option.none [Option.some (.int z), Option.some lv, Option.some v, Option.none] H' := fun i hi H' t =>
    ⟨true, exm i hi, fun _ a ha => ⟨i, hi, rfl, rfl, _, rfl, rfl, fun r H'' n e2 hr => t r H'' e2 hr⟩, fun h => by cases h⟩
  refine ⟨_, rfl, _, rfl, _, rfl, z, lv, v, rfl, hz0, hz5, hL, hT, fun e => ⟨fun b H' e' => tell 0 (by omega) H' fun r H2 e2 hr => (h0 e).1 b r H2 (e'.trans e2) hr, fun g H' e' => (h0 e).2 g H' e'⟩, fun n => ?_⟩
  exact nps_mono (h1 n) (fun H' e t => tell 0 (by omega) H' t) (fun H' e t => tell 1 (by omega) H' t) (fun H' e t => tell 2 (by omega) H' t) (fun H' e t => t)
theorem lr_ok {f g k : Addr} {fd gd kd : FuncData} {ca : Nat → Addr} {PE_ : Addr} {T : Addr} (F : FnP K "_law_read" sLawRead f fd) (er : Err K ca) (exm : ∀ i, i < 4 → PySem.W.exmOne K (.ref (ca i)) (.ref PE_) = Option.some true) (mP : mg "PatternError" = Option.some (.ref PE_))
    (G : FnOk P w K mg base (L2N.CX P w) 4 g gd ["letters", "text"] (spRe K (ca 0) T)) (bG : Binds K gd ["letters", "text"] []) (kG : PySem.W.keepIn K (.ref g) = true) (mG : mg "read" = Option.some (.ref g))
    (J : FnP K "_law_kind" sLawKind k kd) (bJ : Binds K kd ["_law_error"] []) (mJ : mg "_law_kind" = Option.some (.ref k))
    (m0 : mg "NoLetters" = Option.some (.ref (ca 0))) (m1 : mg "NoPattern" = Option.some (.ref (ca 1))) (m2 : mg "TooGreat" = Option.some (.ref (ca 2))) (m3 : mg "NoText" = Option.some (.ref (ca 3))) (m4 : mg "NoRoom" = Option.some (.ref (ca 4)))
    (mi : mg "isinstance" = none) (mn : mg "int" = none) (ml : mg "len" = none) (mv : mg "ValueError" = none) : FnOk P w K mg base CX0 5 f fd ["_law_letters_here", "_law_text"] (spLr K T) := by
  refine okX F scLr (fun vs H Q E h => ?_) (fun cdv A outer s H vs Q E hr h => ?_)
  · obtain ⟨lv, v, rfl, _⟩ := h
    rfl
  obtain ⟨lv, u, rfl, hL, hT, hb, h0⟩ := h
  refine ⟨_, pss_one (L2N.ps_try_as (Wout := fun _ _ _ _ => False) (ts := tsK 2 ca) (i := 2) (c := .ref PE_) rfl rfl scLr.nd rfl rfl ⟨rfl, by decide, .inl mP⟩ (fun u s' ⟨_, _, _, _, _, _, _, _, _, _, _, _, _, _, _, _, w⟩ => w.elim)
    (fun W pn xe tk _ => pss_one (ps_ret (pe_callS G hr rfl mG kG bG (fun σ => L2N.passAt tk σ) (pa_cons (pv 0) (pa_cons (pv 1) pa_nil)))))
    (fun a oe cls d pn hzn hf => ⟨fun pins s σ H D I h => ?_⟩)), ?_⟩
  · obtain ⟨i, hi, rfl, rfl, q⟩ := h
    obtain ⟨vs, hv⟩ := id hf
    refine PSs.run (t := tRet (tCall (spKi i a) [] (fun _ _ _ => False) (tCons (tVar 2) tNil))) ?_ pins s σ H D I q
    refine pss_one (ps_ret (pe_callAt (p := (a, oe)) (k := 1) (ki_ok J er hi hzn.zc hf m0 m1 m2 m3 m4 mi mn ml mv) ⟨?_, ?_⟩ ⟨rfl, vs, hv, hzn.2.2 vs hv⟩ List.mem_cons_self rfl mJ J.kp bJ (pa_cons (pv 2) pa_nil)))
    · have := hr.dp
      show A.depth + 1 + 3 * 1 + 5 < recursionLimit
      have h9 : A.depth + 1 + 3 * 4 + 5 < recursionLimit := this
      omega
    · have := hr.un
      show A.units + 3 + 16 * 1 + 200 < cLine
      have h9 : A.units + 3 + 16 * 4 + 200 < cLine := this
      omega
  have tell : ∀ H', Told 0 H' Q → wAs K (.ref PE_) 2 (tsK 2 ca) (fun _ _ _ _ => False) { nx := fun _ H' => Q .non H', rt := Q } (.ref (ca 0)) Option.none [Option.some lv, Option.some u, Option.none] H' := fun H' t =>
    ⟨true, exm 0 (by omega), fun _ a ha => ⟨0, by omega, rfl, rfl, _, rfl, rfl, fun r H'' n e2 hr => t r H'' e2 hr⟩, fun h => by cases h⟩
  exact ⟨_, rfl, _, rfl, lv, u, rfl, hL, hT, hb, fun H' e' => tell H' fun r H2 e2 hr => h0 r H2 (e'.trans e2) hr⟩
end
end Bo
set_option Elab.async false
set_option linter.all false
set_option maxRecDepth 100000
set_option maxHeartbeats 4000000
namespace Bo
open PySem PySem.Spec PyProof.Rows L2 GE GH
theorem call_max2m {X : Cx} (hc : X.calm = true) : CallR X (.builtin "max") (fun xs H Q => ∃ i j m, xs = [.int i, .int j] ∧ (if j > i then j else i) = m ∧ Q (.int m) H) := by
  intro pins s σ H xs us Q I r h
  obtain ⟨i, j, m, e, hm, q⟩ := h
  exact call_max2 hc pins s σ H xs us Q I r ⟨i, j, e, hm.symm ▸ q⟩
theorem seq_fallP {c : TT} {t rest : TS} {D : Ends} {σ : L2.St} {H : Hp} {cond : Prop} (Pr : L2.St → Hp → Prop) (hc : ∀ Q : Bool → Hp → Prop, (cond → ∀ H1, Ext H H1 → Q true H1) → (¬ cond → ∀ H1, Ext H H1 → Q false H1) → c σ H Q)
    (h0 : ¬ cond → ∀ H1, Ext H H1 → Pr σ H1) (ht : cond → ∀ H1, Ext H H1 → ∀ nx : L2.St → Hp → Prop, (∀ σ' H', Pr σ' H' → nx σ' H') → t { D with nx := nx } σ H1) (hr : ∀ σ' H', Pr σ' H' → rest D σ' H') : tSeq (tIfS c t tNext) rest D σ H :=
  hc _ (fun k H1 e => iffT rfl (ht k H1 e _ hr)) (fun k H1 e => iffF rfl (hr _ _ (h0 k H1 e)))
theorem sizeL_rep (p : Pat) : ∀ n, sizeL (List.replicate n p) = n * p.size
  | 0 => by simp [sizeL]
  | n + 1 => by rw [List.replicate_succ, sizeL, sizeL_rep p n, Nat.succ_mul]; omega
theorem depL_rep (p : Pat) : ∀ n, depL (List.replicate n p) ≤ p.dep
  | 0 => Nat.zero_le _
  | n + 1 => by rw [List.replicate_succ, depL]; exact Nat.max_le.mpr ⟨Nat.le_refl _, depL_rep p n⟩
theorem okL_rep {L : Str} {p : Pat} (h : p.ok L) : ∀ n, okL L (List.replicate n p)
  | 0 => trivial
  | n + 1 => ⟨h, okL_rep h n⟩
theorem pats_rep {H : Hp} {p : Pat} {v : V} (h : PatAt H p v) : ∀ n, PatsAt H (List.replicate n p) (List.replicate n v)
  | 0 => rfl
  | n + 1 => ⟨v, _, rfl, h, pats_rep h n⟩
theorem flat_one (v : V) : ∀ n, (List.replicate n [v]).flatten = List.replicate n v
  | 0 => rfl
  | n + 1 => by rw [List.replicate_succ, List.flatten_cons, flat_one v n]; rfl
theorem grow_size : ∀ s, s < 51 → 1 ≤ s → ∀ j, j < 3 → (58 / s + j) * s + 1 ≤ 170 ∧ 58 / s + j ≤ 100 := by decide +kernel
theorem kind3w (L : Str) (n : Int) : ∃ (k : Str) (mk : List Pat → Pat), atI [V.str "row", V.str "or", V.str "and"] (n % 3) = Option.some (.str k) ∧
    (∀ (H : Hp) (ps : List Pat) (a b : Addr) (vs : List V), H a = Option.some (.tup [.str k, .ref b]) → H b = Option.some (.tup vs) → PatsAt H ps vs → PatAt H (mk ps) (.ref a)) ∧
    (∀ ps, 2 ≤ ps.length → okL L ps → (mk ps).ok L) ∧ (∀ ps, (mk ps).size = sizeL ps + 1) ∧ ∀ ps, (mk ps).dep = depL ps + 1 := by
  have : n % 3 = 0 ∨ n % 3 = 1 ∨ n % 3 = 2 := by omega
  rcases this with h | h | h <;> rw [h]
  · exact ⟨"row", Pat.row, rfl, fun H ps a b vs h1 h2 h3 => ⟨a, b, vs, rfl, h1, h2, h3⟩, fun ps h1 h2 => ⟨h1, h2⟩, fun ps => rfl, fun ps => rfl⟩
  · exact ⟨"or", Pat.or, rfl, fun H ps a b vs h1 h2 h3 => ⟨a, b, vs, rfl, h1, h2, h3⟩, fun ps h1 h2 => ⟨h1, h2⟩, fun ps => rfl, fun ps => rfl⟩
  · exact ⟨"and", Pat.and, rfl, fun H ps a b vs h1 h2 h3 => ⟨a, b, vs, rfl, h1, h2, h3⟩, fun ps h1 h2 => ⟨h1, h2⟩, fun ps => rfl, fun ps => rfl⟩
theorem kind1w (L : Str) (n : Nat) : ∃ (k : Str) (mk : Pat → Pat), atI [V.str "many", V.str "not"] ((n : Int) % 2) = Option.some (.str k) ∧
    (∀ (H : Hp) (p : Pat) (a : Addr) (u : V), H a = Option.some (.tup [.str k, u]) → PatAt H p u → PatAt H (mk p) (.ref a)) ∧
    (∀ p : Pat, p.ok L → (mk p).ok L) ∧ ∀ p, (mk p).size = p.size + 1 := by
  have : (n : Int) % 2 = 0 ∨ (n : Int) % 2 = 1 := by omega
  rcases this with h | h <;> rw [h]
  · exact ⟨"many", Pat.many, rfl, fun H p a u h1 h2 => ⟨a, u, rfl, h1, h2⟩, fun p h => h, fun p => rfl⟩
  · exact ⟨"not", Pat.not, rfl, fun H p a u h1 h2 => ⟨a, u, rfl, h1, h2⟩, fun p h => h, fun p => rfl⟩
def spGr : Sp := fun vs H Q _ => ∃ (L : Str) (v : V) (p : Pat) (c : Int), vs = [v, .int c] ∧ PatAt H p v ∧ p.ok L ∧ p.size ≤ 50 ∧ ∀ v' p' H', Ext H H' → PatAt H' p' v' → p'.ok L → p'.size ≤ 170 → p'.dep ≤ 80 → Q v' H'
section
variable {P : Program} {w : World} {K : PySem.W.Frag} {mg : Str → Option Value} {base : Heap}
theorem scGr : FnScope ["_law_pattern", "_law_cell", "_law_many", "_law_often", "_law_turn"] ["_law_pattern", "_law_cell"] (defScope sLawGrown) := ⟨rfl, rfl, rfl, by decide +kernel, rfl, by decide +kernel, by decide +kernel⟩
theorem gr_ok {f g : Addr} {fd gd : FuncData} (F : FnP K "_law_grown" sLawGrown f fd) (G : FnOk P w K mg base CX0 60 g gd ["_law_pattern"] (spLS 60)) (bG : Binds K gd ["_law_pattern"] []) (kG : PySem.W.keepIn K (.ref g) = true) (mG : mg "_law_size" = some (.ref g)) (mx : mg "max" = none) (mr : mg "range" = none) :
    FnOk P w K mg base CX0 61 f fd ["_law_pattern", "_law_cell"] spGr := by
  refine okD F scGr (fun vs H Q E h => ?_) (fun cdv A outer s H vs Q E hr h => ?_)
  · obtain ⟨L, v, p, c, rfl, _⟩ := h
    rfl
  obtain ⟨L, v, p, c, rfl, hp, ho, hs, q⟩ := h
  refine ⟨_, (pss_cons (ps_set (i := 2) scGr.nd rfl (Or.inl rfl) pe_int) (pss_cons (ps_if (pt_cmpR op_eq (pe_op op_mod (pv 1) pe_int) pe_int (nomark _)) (pss_one (ps_set (i := 2) scGr.nd rfl (Or.inl rfl) (pe_op op_mod (pe_op op_fdiv (pv 1) pe_int) pe_int))) pss_nil) (pss_cons (ps_if (pt_cmpR op_eq (pe_op op_mod (pv 1) pe_int) pe_int (nomark _)) (pss_one (ps_set (i := 2) scGr.nd rfl (Or.inl rfl) (pe_op op_sub (pe_op op_add pe_int (pe_op op_mod (pe_op op_fdiv (pv 1) pe_int) pe_int)) (pe_call G hr rfl mG kG bG .nil pass0 (pa_cons (pv 0) pa_nil))))) pss_nil) (pss_cons (ps_if (pt_cmpR op_eq (pe_op op_mod (pv 1) pe_int) pe_int (nomark _)) (pss_cons (ps_set (i := 3) scGr.nd rfl (Or.inl rfl) (pe_callB (call_max2m rfl) rfl mx boot_max (pa_cons pe_int (pa_cons (pe_op op_add (pe_op op_fdiv pe_int (pe_call G hr rfl mG kG bG .nil pass0 (pa_cons (pv 0) pa_nil))) (pe_op op_mod (pe_op op_fdiv (pv 1) pe_int) pe_int)) pa_nil)))) (pss_one (ps_ret (pe_tup (pa_cons (pe_ix ix_list (pe_lst (pa_cons pe_str (pa_cons pe_str (pa_cons pe_str pa_nil)))) (pe_op op_mod (pe_op op_fdiv (pv 1) pe_int) pe_int) (fun _ _ => rfl)) (pa_cons (pe_op op_repT (pe_tup (pa_cons (pv 0) pa_nil)) (pv 3)) pa_nil)))))) pss_nil) (pss_cons (ps_for PassesOwn.never rfl (pi_range1 rfl mr (pa_cons (pv 2) pa_nil)) (pg_name (i := 4) scGr.nd rfl (Or.inl rfl))
      (pss_one (ps_set (i := 0) scGr.nd rfl (Or.inl rfl) (pe_tup (pa_cons (pe_ix ix_list (pe_lst (pa_cons pe_str (pa_cons pe_str pa_nil))) (pe_op op_mod (pv 4) pe_int) (fun _ _ => rfl)) (pa_cons (pv 0) pa_nil)))))) (pss_one (ps_ret (pv 0)))))))), ?_⟩
  have z1 : 1 ≤ sizeLine := by decide
  have z2 : 2 ≤ sizeLine := by decide
  have z3 : 3 ≤ sizeLine := by decide
  have sz1 := size_pos p
  have hdp : p.dep ≤ 60 := Nat.le_trans (dep_le_size p) (by omega)
  refine t_setC ?_
  let Pr : L2.St → Hp → Prop := fun σ H' => ∃ n : Nat, σ = [some v, some (.int c), some (nV n), none, none] ∧ Ext H H' ∧ p.size + n ≤ 75
  have tst : ∀ {i : Int} {n : V} {H' : Hp}, ∀ Q : Bool → Hp → Prop, (c % 6 = i → ∀ H1, Ext H' H1 → Q true H1) → (¬ c % 6 = i → ∀ H1, Ext H' H1 → Q false H1) → tTest (tOp rEq (tOp (rI (fun _ j => 0 < j) fun i j => .int (i % j)) (tVar 1) (tC (.int 6))) (tC (.int i))) [some v, some (.int c), some n, none, none] H' Q := by
    intro i n H' Q a b
    refine ⟨_, rfl, _, _, rfl, rfl, show (0 : Int) < 6 by decide, rfl, _, rfl, ?_⟩
    rw [dec_int]
    by_cases e : c % 6 = i
    · rw [show (c % 6 == i) = true from beq_iff_eq.mpr e]; exact a e _ (Ext.refl _)
    · rw [show (c % 6 == i) = false from beq_eq_false_iff_ne.mpr e]; exact b e _ (Ext.refl _)
  refine seq_fallP (cond := c % 6 = 1) Pr tst (fun _ H1 e1 => ⟨0, rfl, e1, by omega⟩) (fun _ H1 e1 nx hnx => ?_) ?_
  · refine ⟨_, rfl, _, _, rfl, rfl, show (0 : Int) < 6 ∧ (6 : Int) < 1073741824 by decide, _, _, rfl, rfl, show (0 : Int) < 26 by decide, hnx _ _ ⟨(c / 6 % 26).toNat, ?_, e1, by omega⟩⟩
    have : c / 6 % 26 = (((c / 6 % 26).toNat : Nat) : Int) := by omega
    show [some v, some (.int c), some (.int (c / 6 % 26)), none, none] = _
    rw [this]; rfl
  rintro σ' H1 ⟨n, rfl, e1, hn⟩
  refine seq_fallP (cond := c % 6 = 2) Pr tst (fun _ H2 e2 => ⟨n, rfl, e1.trans e2, hn⟩) (fun _ H2 e2 nx hnx => ?_) ?_
  · refine ⟨_, rfl, _, _, rfl, rfl, show (0 : Int) < 6 ∧ (6 : Int) < 1073741824 by decide, _, _, rfl, rfl, show (0 : Int) < 2 by decide, _, _, rfl, rfl, ?_⟩
    refine ⟨_, rfl, v, p, rfl, PatAt.ext (e1.trans e2) _ _ hp, hdp, by omega, fun H3 e3 => ⟨_, _, rfl, rfl, hnx _ _ ⟨(60 + c / 6 % 2 - (p.size : Int)).toNat, ?_, (e1.trans e2).trans e3, by omega⟩⟩⟩
    have : 60 + c / 6 % 2 - (p.size : Int) = (((60 + c / 6 % 2 - (p.size : Int)).toNat : Nat) : Int) := by omega
    show [some v, some (.int c), some (.int (60 + c / 6 % 2 - (p.size : Int))), none, none] = _
    rw [this]; rfl
  rintro σ' H2 ⟨n2, rfl, e2, hn2⟩
  refine seq_fall (cond := c % 6 = 3) tst (fun _ H3 e3 => ?_) (fun _ H3 e3 => ?_)
  · have f3 := e2.trans e3
    have hj : 0 ≤ c / 6 % 3 ∧ c / 6 % 3 < 3 := by omega
    obtain ⟨j, hjn⟩ : ∃ j : Nat, c / 6 % 3 = (j : Int) := ⟨_, (Int.toNat_of_nonneg hj.1).symm⟩
    obtain ⟨s1, s2⟩ := grow_size p.size (by omega) sz1 j (by omega)
    refine t_set ⟨_, rfl, v, p, rfl, PatAt.ext f3 _ _ hp, hdp, by omega, fun H4 e4 => ?_⟩
    refine ⟨_, _, rfl, rfl, show (0 : Int) < ((p.size : Nat) : Int) ∧ ((p.size : Nat) : Int) < 1073741824 by omega, _, rfl, _, _, rfl, rfl, show (0 : Int) < 6 ∧ (6 : Int) < 1073741824 by decide, _, _, rfl, rfl, show (0 : Int) < 3 by decide, _, _, rfl, rfl, ?_⟩
    have eN : (58 : Int) / ((p.size : Nat) : Int) + c / 6 % 3 = ((58 / p.size + j : Nat) : Int) := by
      rw [Int.natCast_add, Int.natCast_ediv, hjn]; rfl
    obtain ⟨m, hm2, hm3, hm4⟩ : ∃ m : Nat, (if (58 : Int) / ((p.size : Nat) : Int) + c / 6 % 3 > 2 then (58 : Int) / ((p.size : Nat) : Int) + c / 6 % 3 else 2) = (m : Int) ∧ 2 ≤ m ∧ (m = 2 ∨ m = 58 / p.size + j) := by
      by_cases h : (58 : Int) / ((p.size : Nat) : Int) + c / 6 % 3 > 2
      · exact ⟨58 / p.size + j, by rw [if_pos h, eN], by rw [eN] at h; omega, .inr rfl⟩
      · exact ⟨2, by rw [if_neg h]; rfl, by omega, .inl rfl⟩
    have hmsz : m * p.size + 1 ≤ 170 ∧ m ≤ 100 := by
      rcases hm4 with rfl | rfl
      · omega
      · exact ⟨s1, s2⟩
    refine ⟨_, _, _, rfl, hm2, ?_⟩
    obtain ⟨k, mk, hk9, hp9, ho9, hs9, hd9⟩ := kind3w L (c / 18)
    refine ⟨z3, fun p1 x1 => ⟨_, rfl, _, _, rfl, rfl, show (0 : Int) < 18 ∧ (18 : Int) < 1073741824 by decide, _, _, rfl, rfl, show (0 : Int) < 3 by decide, p1, _, _, _, rfl, rfl, SqL.of upd_same, hk9, ?_⟩⟩
    have t1 := Ext.new (o := .lst [V.str "row", V.str "or", V.str "and"]) x1
    refine ⟨_, rfl, z1, fun q1 y1 => ⟨_, rfl, q1, _, [v], rfl, rfl, SqT.of upd_same, by simp, by omega, by omega, (show 1 ≤ 1000 by decide), fun q2 y2 => ⟨z2, fun q3 y3 => ?_⟩⟩⟩
    have eA := ((f3.trans e4).trans t1).trans ((Ext.new (o := .tup [v]) y1).trans ((Ext.new (o := .tup (List.replicate ((m : Int)).toNat [v]).flatten) y2).trans (Ext.new (o := .tup [V.str k, .ref q2]) y3)))
    have hmt : ((m : Int)).toNat = m := Int.toNat_natCast m
    refine q _ (mk (List.replicate m p)) _ eA (hp9 _ _ q3 q2 (List.replicate m v) upd_same ?_ (pats_rep (PatAt.ext eA _ _ hp) _)) (ho9 _ (by rw [List.length_replicate]; exact hm3) (okL_rep ho _)) (by rw [hs9, sizeL_rep]; omega) (by rw [hd9]; have := depL_rep p m; omega)
    rw [← flat_one, ← hmt, Int.toNat_natCast]
    exact (Ext.new y3).tup upd_same
  · have f3 := e2.trans e3
    dsimp only
    refine t_seq ⟨_, rfl, _, rfl, by show -(2 ^ 62) ≤ ((n2 : Nat) : Int); omega, by show ((n2 : Nat) : Int) < 2 ^ 62; omega, ?_⟩
    refine for_range (fun i σ' H' => ∃ (gv : V) (gp : Pat) (c5 : Option V), σ' = [some gv, some (.int c), some (nV n2), none, c5] ∧ Ext H H' ∧ PatAt H' gp gv ∧ gp.ok L ∧ gp.size = p.size + i) ?_ ?_ ?_
    · exact ⟨v, p, none, rfl, f3, PatAt.ext f3 _ _ hp, ho, by omega⟩
    · rintro i σ' H' hi ⟨gv, gp, c5, rfl, e, hg, hgo, hgs⟩
      obtain ⟨k, mk, hk9, hp9, ho9, hs9⟩ := kind1w L i
      refine ⟨z2, fun p1 x1 => ⟨_, rfl, _, _, rfl, rfl, show (0 : Int) < 2 by decide, p1, _, _, .str k, rfl, rfl, SqL.of upd_same, ?_, ?_⟩⟩
      · rw [Int.zero_add]; exact hk9
      have t1 := Ext.new (o := .lst [V.str "many", V.str "not"]) x1
      refine ⟨_, rfl, z2, fun p2 x2 => ?_⟩
      have t2 := Ext.new (o := .tup [V.str k, gv]) x2
      exact ⟨.ref p2, mk gp, _, rfl, e.trans (t1.trans t2), hp9 _ _ _ _ upd_same (PatAt.ext (t1.trans t2) _ _ hg), ho9 _ hgo, by rw [hs9, hgs]; omega⟩
    · rintro σ' H' ⟨gv, gp, c5, rfl, e, hg, hgo, hgs⟩
      have hgs' : gp.size ≤ 75 := by
        have : ((n2 : Int)).toNat = n2 := Int.toNat_natCast n2
        omega
      exact ⟨_, rfl, q gv gp _ e hg hgo (by omega) (Nat.le_trans (dep_le_size gp) (by omega))⟩
end
end Bo
set_option Elab.async false
set_option linter.all false
set_option maxRecDepth 100000
set_option maxHeartbeats 8000000
namespace Bo
open PySem PySem.Spec PyProof.Rows L2 GE GH
def spLw (K : PySem.W.Frag) (T : Addr) : Sp := fun vs H Q _ => ∃ (a : Addr) (ns : List Int), vs = [.ref a] ∧ ns.length ≤ 63 ∧ SqL K H a (ns.map V.int) ∧ GxR.TabG H T ∧ ∀ H', Q (.bl true) H'
theorem dp_one {K : PySem.W.Frag} {H : Hp} {a : Addr} {z : Str} (h : H a = some (.lst [.str z])) : Dp K H (.ref a) (.list [.str z]) := .lst (SqL.of h) (.cons (.str _) .nil)
theorem seq_no {c : TT} {t rest : TS} {D : Ends} {σ : L2.St} {H : Hp} (hc : ∀ Q : Bool → Hp → Prop, (∀ H1, Ext H H1 → Q false H1) → c σ H Q) (hr : ∀ H1, Ext H H1 → rest D σ H1) : tSeq (tIfS c t tNext) rest D σ H := hc _ fun H1 e => iffF rfl (hr H1 e)
theorem kit_ii {K : PySem.W.Frag} : PySem.W.kitOne K (.type "int") (.type "int") = some true := kit_ty (by decide +kernel)
theorem kit_ib {K : PySem.W.Frag} : PySem.W.kitOne K (.type "int") (.type "bool") = some false := kit_ty (by decide +kernel)
theorem lv_str {K : PySem.W.Frag} {H : Hp} {L : Str} (h : L.cps.size ≤ 100) : LV K H (.str L) := ⟨⟨"str", Kn.ofStr _ _ _⟩, fun z e => by cases e; exact h⟩
section
variable {P : Program} {w : World} {K : PySem.W.Frag} {mg : Str → Option Value} {base : Heap}
theorem scLw : FnScope ["_law_script", "_law_letters_here", "_law_pattern", "_law_size_here", "_law_found", "_law_due", "_law_cell", "_law_way", "_law_wrong", "_law_none", "_law_thing"] ["_law_script"] (defScope sLaw) := ⟨rfl, rfl, rfl, by decide +kernel, rfl, by decide +kernel, by decide +kernel⟩
theorem law_ok {f gca glt gdr ggr gls gno gip gto gnp gab gnl glr : Addr} {fd dca dlt ddr dgr dls dno dip dto dnp dab dnl dlr : FuncData} {T : Addr} (F : FnP K "law" sLaw f fd)
    (Gca : FnOk P w K mg base CX0 1 gca dca ["_law_script", "_law_k"] (spCA K)) (bca : Binds K dca ["_law_script", "_law_k"] []) (kca : PySem.W.keepIn K (.ref gca) = true) (mca : mg "_law_cell_at" = Option.some (.ref gca))
    (Glt : FnOk P w K mg base CX0 1 glt dlt ["_law_cell"] spLt) (blt : Binds K dlt ["_law_cell"] []) (klt : PySem.W.keepIn K (.ref glt) = true) (mlt : mg "_law_letters" = Option.some (.ref glt))
    (Gdr : FnOk P w K mg base CX0 61 gdr ddr ["_law_letters_here", "_law_cells", "_law_most"] (spDr K)) (bdr : Binds K ddr ["_law_letters_here", "_law_cells", "_law_most"] []) (kdr : PySem.W.keepIn K (.ref gdr) = true) (mdr : mg "_law_drawn" = Option.some (.ref gdr))
    (Ggr : FnOk P w K mg base CX0 61 ggr dgr ["_law_pattern", "_law_cell"] spGr) (bgr : Binds K dgr ["_law_pattern", "_law_cell"] []) (kgr : PySem.W.keepIn K (.ref ggr) = true) (mgr : mg "_law_grown" = Option.some (.ref ggr))
    (Gls : FnOk P w K mg base CX0 80 gls dls ["_law_pattern"] (spLS 80)) (bls : Binds K dls ["_law_pattern"] []) (kls : PySem.W.keepIn K (.ref gls) = true) (mls : mg "_law_size" = Option.some (.ref gls))
    (Gno : FnOk P w K mg base CX0 2 gno dno ["pattern"] spNo) (bno : Binds K dno ["pattern"] []) (kno : PySem.W.keepIn K (.ref gno) = true) (mno : mg "nodes" = Option.some (.ref gno))
    (Gip : FnOk P w K mg base CX0 3 gip dip ["letters", "thing"] (spIP K)) (bip : Binds K dip ["letters", "thing"] []) (kip : PySem.W.keepIn K (.ref gip) = true) (mip : mg "is_pattern" = Option.some (.ref gip))
    (Gto : FnOk P w K mg base CX0 7 gto dto ["_law_way", "_law_letters_here", "_law_thing"] (spTo K T)) (bto : Binds K dto ["_law_way", "_law_letters_here", "_law_thing"] []) (kto : PySem.W.keepIn K (.ref gto) = true) (mto : mg "_law_told" = Option.some (.ref gto))
    (Gnp : FnOk P w K mg base CX0 2 gnp dnp ["_law_letters_here", "_law_pattern", "_law_cell"] (spNoP K)) (bnp : Binds K dnp ["_law_letters_here", "_law_pattern", "_law_cell"] []) (knp : PySem.W.keepIn K (.ref gnp) = true) (mnp : mg "_law_no_pattern" = Option.some (.ref gnp))
    (Gab : FnOk P w K mg base CX0 1 gab dab ["_law_pattern", "_law_wrong", "_law_cell"] (spAb K)) (bab : Binds K dab ["_law_pattern", "_law_wrong", "_law_cell"] []) (kab : PySem.W.keepIn K (.ref gab) = true) (mab : mg "_law_about" = Option.some (.ref gab))
    (Gnl : FnOk P w K mg base CX0 1 gnl dnl ["_law_cell"] (spNLs K)) (bnl : Binds K dnl ["_law_cell"] []) (knl : PySem.W.keepIn K (.ref gnl) = true) (mnl : mg "_law_no_letters" = Option.some (.ref gnl))
    (Glr : FnOk P w K mg base CX0 5 glr dlr ["_law_letters_here", "_law_text"] (spLr K T)) (blr : Binds K dlr ["_law_letters_here", "_law_text"] []) (klr : PySem.W.keepIn K (.ref glr) = true) (mlr : mg "_law_read" = Option.some (.ref glr))
    (mi : mg "isinstance" = none) (mb : mg "bool" = none) (mn : mg "int" = none) : FnOk P w K mg base CX0 81 f fd ["_law_script"] (spLw K T) := by
  refine okD F scLw (fun vs H Q E h => ?_) (fun cdv A outer s H vs Q E hr h => ?_)
  · obtain ⟨a, ns, rfl, _⟩ := h
    rfl
  obtain ⟨a, ns, rfl, hns, hS, hT, q⟩ := h
  have r1 : Room 1 _ := hr.mono (show 1 ≤ 80 by decide)
  have r2 : Room 2 _ := hr.mono (show 2 ≤ 80 by decide)
  have r3 : Room 3 _ := hr.mono (show 3 ≤ 80 by decide)
  have r5 : Room 5 _ := hr.mono (show 5 ≤ 80 by decide)
  have r7 : Room 7 _ := hr.mono (show 7 ≤ 80 by decide)
  have r61 : Room 61 _ := hr.mono (show 61 ≤ 80 by decide)
  refine ⟨_, (pss_cons (ps_set (i := 1) scLw.nd rfl (Or.inl rfl) (pe_call Glt r1 rfl mlt klt blt .nil pass0 (pa_cons (pe_call Gca r1 rfl mca kca bca .nil pass0 (pa_cons (pv 0) (pa_cons pe_int pa_nil))) pa_nil))) (pss_cons (ps_set (i := 2) scLw.nd rfl (Or.inl rfl) (pe_call Ggr r61 rfl mgr kgr bgr .nil pass0 (pa_cons (pe_call Gdr r61 rfl mdr kdr bdr .nil pass0 (pa_cons (pv 1) (pa_cons (pe_slice sl_list (pv 0) (po_some pe_int) (po_some pe_int)) (pa_cons pe_int pa_nil)))) (pa_cons (pe_call Gca r1 rfl mca kca bca .nil pass0 (pa_cons (pv 0) (pa_cons pe_int pa_nil))) pa_nil)))) (pss_cons (ps_set (i := 3) scLw.nd rfl (Or.inl rfl) (pe_call Gls hr rfl mls kls bls .nil pass0 (pa_cons (pv 2) pa_nil))) (pss_cons (ps_set (i := 4) scLw.nd rfl (Or.inl rfl) (pe_call Gno r2 rfl mno kno bno .nil pass0 (pa_cons (pv 2) pa_nil))) (pss_cons (ps_if (PW.pt (pw_or (pt_not (pt_val (pe_callB call_isi rfl mi (by decide +kernel) (pa_cons (pv 4) (pa_cons (pe_bltn (v := .ty "int") (u := .type "int") rfl mn (by decide +kernel) rfl) pa_nil)))))
      (pw_or (pt_val (pe_callB call_isi rfl mi (by decide +kernel) (pa_cons (pv 4) (pa_cons (pe_bltn (v := .ty "bool") (u := .type "bool") rfl mb (by decide +kernel) rfl) pa_nil)))) (pw_or1 (pt_cmpR op_ne (pv 4) (pv 3) (nomark _)))))) (pss_one (ps_ret pe_bl)) pss_nil) (pss_cons (ps_if (pt_cmpR op_notBl (pe_call Gip r3 rfl mip kip bip .nil pass0 (pa_cons (pv 1) (pa_cons (pv 2) pa_nil))) pe_bl (nomark _)) (pss_one (ps_ret pe_bl)) pss_nil) (pss_cons (ps_if (pt_cmpR op_notN (pe_call Gto r7 rfl mto kto bto .nil pass0 (pa_cons pe_int (pa_cons (pv 1) (pa_cons pe_non pa_nil)))) pe_non (nomark _)) (pss_one (ps_ret pe_bl)) pss_nil) (pss_cons (ps_set (i := 5) scLw.nd rfl (Or.inl rfl) pe_non) (pss_cons (ps_if (pt_cmpR op_gt (pv 3) pe_int (nomark _)) (pss_one (ps_set (i := 5) scLw.nd rfl (Or.inl rfl) (pe_lst (pa_cons pe_str pa_nil)))) pss_nil) (pss_cons (ps_if (pt_cmpR (op_neD hr.units) (pe_call Gto r7 rfl mto kto bto .nil pass0 (pa_cons pe_int (pa_cons (pv 1) (pa_cons (pv 2) pa_nil)))) (pv 5) (by rfl)) (pss_one (ps_ret pe_bl)) pss_nil) (pss_cons (ps_set (i := 6) scLw.nd rfl (Or.inl rfl) (pe_call Gca r1 rfl mca kca bca .nil pass0 (pa_cons (pv 0) (pa_cons pe_int pa_nil)))) (pss_cons (ps_set (i := 7) scLw.nd rfl (Or.inl rfl) (pe_op op_add pe_int (pe_op op_mod (pe_op op_fdiv (pv 6) pe_int) pe_int))) (pss_cons (ps_if (PW.pt (pw_and (pt_cmpR op_gt (pv 3) pe_int (nomark _)) (pw_and1 (pt_cmpR (op_neD hr.units) (pe_call Gto r7 rfl mto kto bto .nil pass0 (pa_cons (pv 7) (pa_cons (pv 1) (pa_cons (pv 2) pa_nil)))) (pv 5) (by rfl))))) (pss_one (ps_ret pe_bl)) pss_nil) (pss_cons (ps_set (i := 8) scLw.nd rfl (Or.inl rfl) (pe_call Gab r1 rfl mab kab bab .nil pass0 (pa_cons (pv 2) (pa_cons (pe_call Gnp r2 rfl mnp knp bnp .nil pass0 (pa_cons (pv 1) (pa_cons (pv 2) (pa_cons (pe_op op_fdiv (pv 6) pe_int) pa_nil)))) (pa_cons (pv 6) pa_nil))))) (pss_cons (ps_if (PW.pt (pw_or (pt_cmpR op_notBl (pe_call Gip r3 rfl mip kip bip .nil pass0 (pa_cons (pv 1) (pa_cons (pv 8) pa_nil))) pe_bl (nomark _)) (pw_or1 (pt_cmpR (op_neD hr.units) (pe_call Gto r7 rfl mto kto bto .nil pass0 (pa_cons pe_int (pa_cons (pv 1) (pa_cons (pv 8) pa_nil)))) (pe_lst (pa_cons pe_str pa_nil)) (by rfl))))) (pss_one (ps_ret pe_bl)) pss_nil) (pss_cons (ps_if (pt_cmpR (op_neD hr.units) (pe_call Gto r7 rfl mto kto bto .nil pass0 (pa_cons (pv 7) (pa_cons (pv 1) (pa_cons (pv 8) pa_nil)))) (pe_lst (pa_cons pe_str pa_nil)) (by rfl)) (pss_one (ps_ret pe_bl)) pss_nil) (pss_cons (ps_set (i := 9) scLw.nd rfl (Or.inl rfl) (pe_call Gnl r1 rfl mnl knl bnl .nil pass0 (pa_cons (pv 6) pa_nil))) (pss_cons (ps_set (i := 10) scLw.nd rfl (Or.inl rfl) (pe_ix ix_list (pe_lst (pa_cons (pv 8) (pa_cons (pv 2) pa_nil))) (pe_op op_mod (pe_op op_fdiv (pv 6) pe_int) pe_int) (fun _ _ => rfl))) (pss_cons (ps_if (PW.pt (pw_or (pt_cmpR (op_neD hr.units) (pe_call Gto r7 rfl mto kto bto .nil pass0 (pa_cons pe_int (pa_cons (pv 9) (pa_cons pe_non pa_nil)))) (pe_lst (pa_cons pe_str pa_nil)) (by rfl)) (pw_or1 (pt_cmpR (op_neD hr.units) (pe_call Gto r7 rfl mto kto bto .nil pass0 (pa_cons pe_int (pa_cons (pv 9) (pa_cons (pv 10) pa_nil)))) (pe_lst (pa_cons pe_str pa_nil)) (by rfl))))) (pss_one (ps_ret pe_bl)) pss_nil) (pss_one (ps_ret (pe_and (pe_cmpR (op_eqD hr.units) (pe_call Gto r7 rfl mto kto bto .nil pass0 (pa_cons (pv 7) (pa_cons (pv 9) (pa_cons (pv 10) pa_nil)))) (pe_lst (pa_cons pe_str pa_nil)) (by rfl))
      (pe_one (pe_cmpR (op_eqD hr.units) (pe_call Glr r5 rfl mlr klr blr .nil pass0 (pa_cons (pv 9) (pa_cons (pe_ix ix_list (pe_lst (pa_cons pe_non (pa_cons pe_str pa_nil))) (pe_op op_mod (pv 6) pe_int) (fun _ _ => rfl)) pa_nil))) (pe_lst (pa_cons pe_str pa_nil)) (by rfl))))))))))))))))))))))))), ?_⟩
  have sq : ∀ H', Ext H H' → SqL K H' a (ns.map V.int) := fun H' e => e.sqL hS
  have z1 : 1 ≤ sizeLine := by decide
  have z2 : 2 ≤ sizeLine := by decide
  refine t_set ⟨_, rfl, a, ns, 0, rfl, hS, _, rfl, fun H1 e1 => ?_⟩
  have hL := lets_good (ns.getD 0 0)
  generalize lets (ns.getD 0 0) = L at hL ⊢
  obtain ⟨hL1, hL4⟩ := good_len hL
  have hLv : ∀ {H'}, LV K H' (.str L) := lv_str (by omega)
  have hcut : ∃ ms : List Int, cutV (ns.map V.int) (Option.some 3) (Option.some 23) = ms.map V.int ∧ ms.length ≤ 63 := by
    refine ⟨(ns.drop (HT.sIx (ns.map V.int).length 0 (Option.some 3))).take (HT.sIx (ns.map V.int).length (ns.map V.int).length (Option.some 23) - HT.sIx (ns.map V.int).length 0 (Option.some 3)), ?_, ?_⟩
    · unfold cutV; rw [← List.map_drop, ← List.map_take]
    · rw [List.length_take, List.length_drop]; omega
  obtain ⟨ms, hms, hml⟩ := hcut
  refine t_set ⟨_, rfl, _, rfl, _, rfl, _, rfl, a, _, rfl, sq H1 e1, fun p1 x1 => ⟨L, p1, ms, rfl, hL, SqL.of (by rw [upd_same, hms]), by omega, fun v0 p0 H2 e2 hp0 ho0 hs0 => ?_⟩⟩
  have f2 : Ext H H2 := (e1.trans (Ext.new x1)).trans e2
  refine ⟨_, rfl, a, ns, 1, rfl, sq H2 f2, L, v0, p0, _, rfl, hp0, ho0, hs0, fun v p H3 e3 hp ho hs hd => ?_⟩
  have f3 := f2.trans e3
  have sz1 := size_pos p
  refine t_set ⟨_, rfl, v, p, rfl, hp, hd, by omega, fun H4 e4 => ?_⟩
  have f4 := f3.trans e4
  refine t_set ⟨_, rfl, v, p, rfl, PatAt.ext e4 _ _ hp, by omega, fun H5 e5 => ?_⟩
  have f5 := f4.trans e5
  have hp5 := PatAt.ext (e4.trans e5) _ _ hp
  refine t_seq ⟨_, rfl, _, .ty "int", .type "int", .type "int", _, rfl, .ty _, .base (.int _), kit_ii, _, rfl, iffF (by decide) ?_⟩
  refine ⟨_, rfl, _, .ty "bool", .type "int", .type "bool", _, rfl, .ty _, .base (.int _), kit_ib, _, rfl, iffF rfl ?_⟩
  refine ⟨_, rfl, _, rfl, rfl, _, rfl, iffF (by rw [decide_eq_true rfl]; rfl) ?_⟩
  dsimp only [tNext]
  refine t_seq ⟨_, rfl, _, rfl, L, v, rfl, .inl ⟨p, hp5, ho, by omega, fun H6 e6 => ⟨true, true, rfl, rfl, _, rfl, iffF (by decide) ?_⟩⟩⟩
  have f6 := f5.trans e6
  have hp6 := PatAt.ext e6 _ _ hp5
  dsimp only [tNext]
  have good : goodV (.str L) = true := hL
  have noB : ∀ {P : Prop}, goodV (.str L) = false → P := fun h => by rw [good] at h; cases h
  refine t_seq ⟨_, rfl, 0, .str L, .non, rfl, by decide, by decide, hLv, f6.tab _ hT, fun _ => ⟨fun h => noB h, fun _ H7 e7 => ⟨rfl, _, rfl, iffF (by decide) ?_⟩⟩, fun h => absurd rfl h⟩
  have f7 := f6.trans e7
  have hp7 := PatAt.ext e7 _ _ hp6
  dsimp only [tNext]
  refine t_setC ?_
  -- due
  refine seq_fallP (cond := 60 < p.size) (fun σ' H' => ∃ dv, σ' = [some (.ref a), some (.str L), some v, some (nV p.size), some (nV p.size), some dv, none, none, none, none, none] ∧ Ext H7 H' ∧ ((60 < p.size ∧ ∃ r, dv = .ref r ∧ H' r = some (.lst [.str "great"])) ∨ (p.size ≤ 60 ∧ dv = .non)))
    (fun Q' qT qF => ?_) (fun k H8 e8 => ⟨.non, rfl, e8, .inr ⟨by omega, rfl⟩⟩) (fun k H8 e8 nx hnx => ?_) ?_
  · refine ⟨_, rfl, _, _, rfl, rfl, _, rfl, ?_⟩
    by_cases h60 : 60 < p.size
    · rw [decide_eq_true (by omega : (60 : Int) < ((p.size : Nat) : Int))]; exact qT h60 _ (Ext.refl _)
    · rw [decide_eq_false (by omega : ¬ (60 : Int) < ((p.size : Nat) : Int))]; exact qF h60 _ (Ext.refl _)
  · exact ⟨z1, fun r x => hnx _ _ ⟨.ref r, rfl, e8.trans (Ext.new x), .inl ⟨k, r, rfl, upd_same⟩⟩⟩
  rintro σ' H8 ⟨dv, rfl, e8, hdue⟩
  have f8 := f7.trans e8
  have hp8 := PatAt.ext e8 _ _ hp7
  have hdp : ∀ {H'}, Ext H8 H' → ∃ d, Dp K H' dv d ∧ SeqAt.shaped d = true ∧ ((60 < p.size ∧ d = .list [.str "great"]) ∨ (p.size ≤ 60 ∧ d = .none)) := fun {H'} e => by
    rcases hdue with ⟨h, r, rfl, hr⟩ | ⟨h, rfl⟩
    · exact ⟨_, dp_one (e.lst hr), by decide +kernel, .inl ⟨h, rfl⟩⟩
    · exact ⟨_, .non, by decide +kernel, .inr ⟨h, rfl⟩⟩
  have done : ∀ (d : PyData) (x : V) (H9 : Hp), Ext H8 H9 → Dp K H9 x d → SeqAt.shaped d = true → ((60 < p.size ∧ d = .list [.str "great"]) ∨ (p.size ≤ 60 ∧ d = .none)) → ∀ {R : VK}, R (.bl false) H9 → rNeD K x dv H9 R := fun d x H9 e hd sd hdd R r => by
    obtain ⟨d2, h2, s2, hdd2⟩ := hdp e
    have ed : d2 = d := by
      rcases hdd with ⟨h, rfl⟩ | ⟨h, rfl⟩ <;> rcases hdd2 with ⟨h', rfl⟩ | ⟨h', rfl⟩ <;> first | rfl | omega
    subst ed
    refine ⟨d2, d2, hd, h2, sd, sd, ?_⟩
    have : PyData.eqv d2 d2 = true := by
      rcases hdd with ⟨h, rfl⟩ | ⟨h, rfl⟩ <;> decide +kernel
    rw [this]; exact r
  refine seq_no (fun Q' qF => ?_) (fun H9 e9 => ?_)
  · refine ⟨_, rfl, _, rfl, 1, .str L, v, rfl, by decide, by decide, hLv, f8.tab _ hT, fun h => absurd h (by decide), fun _ => ⟨fun h => noB h, fun L' eL _ => .inr ?_⟩⟩
    cases eL
    exact ⟨p, hp8, ho, by omega, fun h H9 e9 r H10 e10 hr => ⟨_, rfl, done _ _ _ (e9.trans e10) (dp_one hr) (by decide +kernel) (.inl ⟨h, rfl⟩) ⟨_, rfl, qF H10 (e9.trans e10)⟩⟩, fun h H9 e9 => ⟨rfl, _, rfl, done _ _ _ e9 .non (by decide +kernel) (.inr ⟨h, rfl⟩) ⟨_, rfl, qF H9 e9⟩⟩⟩
  have f9 := f8.trans e9
  have hp9 := PatAt.ext e9 _ _ hp8
  refine t_set ⟨_, rfl, a, ns, 2, rfl, sq H9 f9, ?_⟩
  generalize ns.getD 2 0 = c
  refine t_set ⟨_, rfl, _, _, rfl, rfl, show (0 : Int) < 7 ∧ (7 : Int) < 1073741824 by decide, _, _, rfl, rfl, show (0 : Int) < 5 by decide, _, _, rfl, rfl, ?_⟩
  have hw : 0 ≤ 1 + c / 7 % 5 ∧ 1 + c / 7 % 5 ≤ 5 ∧ 1 + c / 7 % 5 ≠ 0 := by omega
  obtain ⟨hw0, hw5, hwn⟩ := hw
  dsimp only [List.set]
  refine seq_no (fun Q' qF => ?_) (fun H10 e10 => ?_)
  · refine ⟨_, rfl, _, _, rfl, rfl, _, rfl, ?_⟩
    by_cases h60 : 60 < p.size
    · refine iffT (decide_eq_true (by omega : (60 : Int) < ((p.size : Nat) : Int))) ?_
      refine ⟨_, rfl, _, rfl, _, rfl, (1 + c / 7 % 5), .str L, v, rfl, hw0, hw5, hLv, f9.tab _ hT, fun h => absurd h hwn, fun _ => ⟨fun h => noB h, fun L' eL _ => .inr ?_⟩⟩
      cases eL
      exact ⟨p, hp9, ho, by omega, fun h H10 e10 r H11 e11 hr => ⟨_, rfl, done _ _ _ (e9.trans (e10.trans e11)) (dp_one hr) (by decide +kernel) (.inl ⟨h, rfl⟩) ⟨_, rfl, qF H11 (e10.trans e11)⟩⟩, fun h => absurd h60 (by omega)⟩
    · exact iffF (decide_eq_false (by omega : ¬ (60 : Int) < ((p.size : Nat) : Int))) (qF H9 (Ext.refl _))
  have f10 := f9.trans e10
  have hp10 := PatAt.ext e10 _ _ hp9
  refine t_set ⟨_, rfl, _, rfl, _, rfl, _, rfl, _, _, rfl, rfl, show (0 : Int) < 12 ∧ (12 : Int) < 1073741824 by decide, L, v, p, _, rfl, hL, hp10, ho, hs, fun u H11 e11 hu => ?_⟩
  refine ⟨_, rfl, L, v, u, p, c, rfl, PatAt.ext e11 _ _ hp10, ho, hs, hu, fun wr H12 e12 hb12 => ?_⟩
  have f12 := (f10.trans e11).trans e12
  have hp12 := PatAt.ext (e11.trans e12) _ _ hp10
  have ask : ∀ {H'} (z : Int) {R : VK} {E : XK}, Ext H12 H' → 0 ≤ z → z ≤ 5 → z ≠ 0 → Told 1 H' R → spTo K T [.int z, .str L, wr] H' R E := fun {H'} z R E e z0 z5 zn t =>
    ⟨z, .str L, wr, rfl, z0, z5, hLv, (f12.trans e).tab _ hT, fun h => absurd h zn, fun _ => ⟨fun h => noB h, fun L' eL _ => .inl (by
      cases eL
      obtain ⟨n, hb, hn⟩ := hb12
      exact ⟨n, bd_ext e hb, hn, fun H2 e2 r H3 e3 hr => t r H3 (e2.trans e3) hr⟩)⟩⟩
  have eqw : ∀ {H' : Hp} {r b : Addr} {z : Str} {R : VK}, H' r = some (.lst [.str z]) → H' b = some (.lst [.str z]) → SeqAt.shaped (.list [.str z]) = true → PyData.eqv (.list [.str z]) (.list [.str z]) = true → R (.bl false) H' → rNeD K (.ref r) (.ref b) H' R := fun h1 h2 s1 s2 r =>
    ⟨_, _, dp_one h1, dp_one h2, s1, s1, by rw [s2]; exact r⟩
  obtain ⟨nb, hb, hnb⟩ := id hb12
  refine t_seq ⟨_, rfl, _, rfl, L, wr, rfl, .inr ⟨nb, hb, hnb, fun H13 e13 => ⟨false, false, rfl, rfl, _, rfl, iffF (by decide) ?_⟩⟩⟩
  refine ⟨_, rfl, _, rfl, ask (E := E0) 1 e13 (by decide) (by decide) (by decide) fun r H14 e14 hr => ⟨z1, fun b x => eqw ((Ext.new x).lst hr) upd_same (by decide +kernel) (by decide +kernel) ⟨_, rfl, iffF rfl ?_⟩⟩⟩
  have f14 := (e13.trans e14).trans (Ext.new (o := .lst [V.str "pattern"]) x)
  dsimp only [tNext]
  refine t_seq ⟨_, rfl, _, rfl, _, rfl, ask (E := E0) (1 + c / 7 % 5) f14 hw0 hw5 hwn fun r H15 e15 hr => ⟨z1, fun b x => eqw ((Ext.new x).lst hr) upd_same (by decide +kernel) (by decide +kernel) ⟨_, rfl, iffF rfl ?_⟩⟩⟩
  have f15 := (f14.trans e15).trans (Ext.new (o := .lst [V.str "pattern"]) x)
  dsimp only [tNext]
  refine t_set ⟨_, rfl, c, rfl, fun nl H16 e16 hlv hbad => ?_⟩
  have f16 := (f12.trans f15).trans e16
  refine t_set ⟨_, rfl, _, rfl, z2, fun l x => ⟨_, rfl, _, _, rfl, rfl, show (0 : Int) < 14 ∧ (14 : Int) < 1073741824 by decide, _, _, rfl, rfl, show (0 : Int) < 2 by decide, ?_⟩⟩
  obtain ⟨th, hth, _⟩ := all_at (P := fun _ => True) (xs := [wr, v]) (fun _ _ => trivial) 1 rfl (c / 14)
  refine ⟨l, _, _, th, rfl, rfl, SqL.of upd_same, hth, ?_⟩
  have e17 := e16.trans (Ext.new (o := .lst [wr, v]) x)
  have f17 := f16.trans (Ext.new (o := .lst [wr, v]) x)
  have lv17 := lv_ext (Ext.new (o := .lst [wr, v]) x) hlv
  have askL : ∀ {H'} (z : Int) (y : V) {R : VK} {E : XK}, Ext (upd H16 l (.lst [wr, v])) H' → 0 ≤ z → z ≤ 5 → Told 0 H' R → spTo K T [.int z, nl, y] H' R E := fun {H'} z y R E e z0 z5 t =>
    ⟨z, nl, y, rfl, z0, z5, lv_ext e lv17, (f17.trans e).tab _ hT, fun _ => ⟨fun _ => t, fun h => (by rw [hbad] at h; cases h)⟩, fun _ => ⟨fun _ H2 e2 r H3 e3 hr => t r H3 (e2.trans e3) hr, fun L' eL g => (by rw [eL] at hbad; rw [show goodV (.str L') = goodS L' from rfl, g] at hbad; cases hbad)⟩⟩
  dsimp only [List.set]
  refine t_seq ⟨_, rfl, askL (E := E0) 0 .non (Ext.refl _) (by decide) (by decide) fun r H18 e18 hr => ⟨z1, fun b x => eqw ((Ext.new x).lst hr) upd_same (by decide +kernel) (by decide +kernel) ⟨_, rfl, iffF rfl ?_⟩⟩⟩
  have f18 := e18.trans (Ext.new (o := .lst [V.str "letters"]) x)
  refine ⟨_, rfl, _, rfl, askL (E := E0) 1 th f18 (by decide) (by decide) fun r H19 e19 hr => ⟨z1, fun b x => eqw ((Ext.new x).lst hr) upd_same (by decide +kernel) (by decide +kernel) ⟨_, rfl, iffF rfl ?_⟩⟩⟩
  have f19 := (f18.trans e19).trans (Ext.new (o := .lst [V.str "letters"]) x)
  dsimp only [tNext]
  have eqT : PyData.eqv (.list [.str (word 0)]) (.list [.str "letters"]) = true := by decide +kernel
  refine ⟨_, rfl, _, rfl, _, rfl, askL (E := E0) (1 + c / 7 % 5) th f19 hw0 hw5 fun r H20 e20 hr => ⟨z1, fun b x => ⟨_, _, dp_one ((Ext.new x).lst hr), dp_one upd_same, by decide +kernel, by decide +kernel, ?_⟩⟩⟩
  refine ⟨_, rfl, iffT eqT ?_⟩
  have f20 := (f19.trans e20).trans (Ext.new (o := .lst [V.str "letters"]) x)
  obtain ⟨tx, htx, _⟩ := all_at (P := fun _ => True) (xs := [.non, .str "a"]) (fun _ _ => trivial) 1 rfl c
  refine ⟨_, rfl, z2, fun l2 x2 => ⟨_, rfl, _, _, rfl, rfl, show (0 : Int) < 2 by decide, l2, _, _, tx, rfl, rfl, SqL.of upd_same, htx, ?_⟩⟩
  have f21 := f20.trans (Ext.new (o := .lst [V.non, .str "a"]) x2)
  refine ⟨nl, tx, rfl, lv_ext f21 lv17, (f17.trans f21).tab _ hT, hbad, fun r H22 e22 hr => ⟨z1, fun b x => ⟨_, _, dp_one ((Ext.new x).lst hr), dp_one upd_same, by decide +kernel, by decide +kernel, ?_⟩⟩⟩
  rw [eqT]
  exact q _
end
end Bo
set_option Elab.async false
set_option linter.all false
set_option maxRecDepth 100000
set_option maxHeartbeats 0
namespace Bo
open PySem PySem.Spec PyProof.Rows L2 GE GH
theorem code_is {K : PySem.W.Frag} {x : Str} {st : Stmt} {fd : FuncData} (F : FnP K x st (He.ga K x) fd) : fd.code = .ref (He.codeOf K (x, none)) := by
  obtain ⟨oc, od, dV, kV, doc, pm, an, cdv, ct, osl, e, lk, hcd, _, _⟩ := F.ex
  obtain ⟨c, hc⟩ := He.codeIn_ref hcd
  subst e
  subst hc
  exact congrArg Value.ref (He.codeOf_eq (p := (x, none)) lk rfl).symm
theorem ex_err {K : PySem.W.Frag} (h : ex K = true) : Err K (fun i => He.ga K (cn i)) := by
  unfold ex at h
  simp only [Bool.and_eq_true, List.all_eq_true, decide_eq_true_eq] at h
  obtain ⟨⟨h1, h2⟩, h3⟩ := h
  refine ⟨fun i hi => ?_, fun i j hi hj => h2 i (List.mem_range.mpr hi) j (List.mem_range.mpr hj), fun i hi => h3 i (List.mem_range.mpr hi)⟩
  have h9 := h1 i (List.mem_range.mpr hi)
  unfold excB at h9
  simp only [Bool.and_eq_true, decide_eq_true_eq] at h9
  obtain ⟨⟨⟨⟨⟨⟨⟨a1, a2⟩, a3⟩, a4⟩, a5⟩, a6⟩, a7⟩, a8⟩ := h9
  exact ⟨a1, a2, a3, a4, a5, a6, a7, a8⟩
section
variable {P : Program} {w : World} {K : PySem.W.Frag} {mg : Str → Option Value} {base : Heap}

theorem facts {h : Heap} {f : Addr} (X : K.In h) (G : h.Ns mainGlobals mg) (hfa : mg ("law" : Str) = some (.ref f)) (c : He.SaysX fa fn [] tf ex w h K) :
    ∃ fd : FuncData, (∀ (s : Shared) (v : Value), BindsTo s fd ⟨[v], []⟩ [("_law_script", v)]) ∧ ∀ base : Heap, K.In base → base.Ns mainGlobals mg → (∀ p ∈ tf.map (He.cT K), LamX.TabB base mg p.1 p.2) →
      FnOk P w K mg base CX0 81 f fd ["_law_script"] (spLw K (He.cT K ("need_letters", none)).2) := by
  obtain ⟨DNeedLetters, FNeedLetters⟩ := c.t.d.def_ 0 (d := dNeedLetters) rfl
  obtain ⟨DNeedPattern, FNeedPattern⟩ := c.t.d.def_ 1 (d := dNeedPattern) rfl
  obtain ⟨DIsPattern, FIsPattern⟩ := c.t.d.def_ 2 (d := dIsPattern) rfl
  obtain ⟨DNodes, FNodes⟩ := c.t.d.def_ 3 (d := dNodes) rfl
  obtain ⟨DIsNode, FIsNode⟩ := c.t.d.def_ 4 (d := dIsNode) rfl
  obtain ⟨DIsLetter, FIsLetter⟩ := c.t.d.def_ 5 (d := dIsLetter) rfl
  obtain ⟨DPartsOf, FPartsOf⟩ := c.t.d.def_ 6 (d := dPartsOf) rfl
  obtain ⟨DFits, FFits⟩ := c.t.d.def_ 7 (d := dFits) rfl
  obtain ⟨DRead, FRead⟩ := c.t.d.def_ 8 (d := dRead) rfl
  obtain ⟨DMachineOf, FMachineOf⟩ := c.t.d.def_ 9 (d := dMachineOf) rfl
  obtain ⟨DToldAlike, FToldAlike⟩ := c.t.d.def_ 10 (d := dToldAlike) rfl
  obtain ⟨DLawCellAt, FLawCellAt⟩ := c.t.d.def_ 11 (d := dLawCellAt) rfl
  obtain ⟨DLawLetters, FLawLetters⟩ := c.t.d.def_ 12 (d := dLawLetters) rfl
  obtain ⟨DLawSize, FLawSize⟩ := c.t.d.def_ 13 (d := dLawSize) rfl
  obtain ⟨DLawStep, FLawStep⟩ := c.t.d.def_ 14 (d := dLawStep) rfl
  obtain ⟨DLawDrawn, FLawDrawn⟩ := c.t.d.def_ 15 (d := dLawDrawn) rfl
  obtain ⟨DLawKind, FLawKind⟩ := c.t.d.def_ 16 (d := dLawKind) rfl
  obtain ⟨DLawNoLetters, FLawNoLetters⟩ := c.t.d.def_ 17 (d := dLawNoLetters) rfl
  obtain ⟨DLawStranger, FLawStranger⟩ := c.t.d.def_ 18 (d := dLawStranger) rfl
  obtain ⟨DLawNoPattern, FLawNoPattern⟩ := c.t.d.def_ 19 (d := dLawNoPattern) rfl
  obtain ⟨DLawAbout, FLawAbout⟩ := c.t.d.def_ 20 (d := dLawAbout) rfl
  obtain ⟨DLawAsked, FLawAsked⟩ := c.t.d.def_ 21 (d := dLawAsked) rfl
  obtain ⟨DLawTold, FLawTold⟩ := c.t.d.def_ 22 (d := dLawTold) rfl
  obtain ⟨DLawRead, FLawRead⟩ := c.t.d.def_ 23 (d := dLawRead) rfl
  obtain ⟨DLawGrown, FLawGrown⟩ := c.t.d.def_ 24 (d := dLawGrown) rfl
  obtain ⟨DLaw, FLaw⟩ := c.t.d.def_ 25 (d := dLaw) rfl
  have mNeedLetters : mg "need_letters" = some (.ref (He.ga K "need_letters")) := He.glo_ok X G (c.t.d.fact 0 (f := .glo "need_letters") rfl)
  have FNeedLetters' : FnP K "need_letters" sNeedLetters (He.ga K "need_letters") DNeedLetters := FNeedLetters
  have bNeedLetters : Binds K DNeedLetters ["letters"] [] := FNeedLetters'.bindsN fun _ _ _ _ _ _ us hl => match us, hl with | [_], _ => rfl
  have mNeedPattern : mg "need_pattern" = some (.ref (He.ga K "need_pattern")) := He.glo_ok X G (c.t.d.fact 1 (f := .glo "need_pattern") rfl)
  have FNeedPattern' : FnP K "need_pattern" sNeedPattern (He.ga K "need_pattern") DNeedPattern := FNeedPattern
  have bNeedPattern : Binds K DNeedPattern ["letters", "pattern"] [] := FNeedPattern'.bindsN fun _ _ _ _ _ _ us hl => match us, hl with | [_, _], _ => rfl
  have mIsPattern : mg "is_pattern" = some (.ref (He.ga K "is_pattern")) := He.glo_ok X G (c.t.d.fact 2 (f := .glo "is_pattern") rfl)
  have FIsPattern' : FnP K "is_pattern" sIsPattern (He.ga K "is_pattern") DIsPattern := FIsPattern
  have bIsPattern : Binds K DIsPattern ["letters", "thing"] [] := FIsPattern'.bindsN fun _ _ _ _ _ _ us hl => match us, hl with | [_, _], _ => rfl
  have mNodes : mg "nodes" = some (.ref (He.ga K "nodes")) := He.glo_ok X G (c.t.d.fact 3 (f := .glo "nodes") rfl)
  have FNodes' : FnP K "nodes" sNodes (He.ga K "nodes") DNodes := FNodes
  have bNodes : Binds K DNodes ["pattern"] [] := FNodes'.bindsN fun _ _ _ _ _ _ us hl => match us, hl with | [_], _ => rfl
  have mIsNode : mg "is_node" = some (.ref (He.ga K "is_node")) := He.glo_ok X G (c.t.d.fact 4 (f := .glo "is_node") rfl)
  have FIsNode' : FnP K "is_node" sIsNode (He.ga K "is_node") DIsNode := FIsNode
  have bIsNode : Binds K DIsNode ["letters", "thing"] [] := FIsNode'.bindsN fun _ _ _ _ _ _ us hl => match us, hl with | [_, _], _ => rfl
  have mIsLetter : mg "is_letter" = some (.ref (He.ga K "is_letter")) := He.glo_ok X G (c.t.d.fact 5 (f := .glo "is_letter") rfl)
  have FIsLetter' : FnP K "is_letter" sIsLetter (He.ga K "is_letter") DIsLetter := FIsLetter
  have bIsLetter : Binds K DIsLetter ["letters", "thing"] [] := FIsLetter'.bindsN fun _ _ _ _ _ _ us hl => match us, hl with | [_, _], _ => rfl
  have mPartsOf : mg "parts_of" = some (.ref (He.ga K "parts_of")) := He.glo_ok X G (c.t.d.fact 6 (f := .glo "parts_of") rfl)
  have FPartsOf' : FnP K "parts_of" sPartsOf (He.ga K "parts_of") DPartsOf := FPartsOf
  have bPartsOf : Binds K DPartsOf ["pattern"] [] := FPartsOf'.bindsN fun _ _ _ _ _ _ us hl => match us, hl with | [_], _ => rfl
  have mFits : mg "fits" = some (.ref (He.ga K "fits")) := He.glo_ok X G (c.t.d.fact 7 (f := .glo "fits") rfl)
  have FFits' : FnP K "fits" sFits (He.ga K "fits") DFits := FFits
  have bFits : Binds K DFits ["letters", "pattern", "text"] [] := FFits'.bindsN fun _ _ _ _ _ _ us hl => match us, hl with | [_, _, _], _ => rfl
  have mRead : mg "read" = some (.ref (He.ga K "read")) := He.glo_ok X G (c.t.d.fact 8 (f := .glo "read") rfl)
  have FRead' : FnP K "read" sRead (He.ga K "read") DRead := FRead
  have bRead : Binds K DRead ["letters", "text"] [] := FRead'.bindsN fun _ _ _ _ _ _ us hl => match us, hl with | [_, _], _ => rfl
  have mMachineOf : mg "machine_of" = some (.ref (He.ga K "machine_of")) := He.glo_ok X G (c.t.d.fact 9 (f := .glo "machine_of") rfl)
  have FMachineOf' : FnP K "machine_of" sMachineOf (He.ga K "machine_of") DMachineOf := FMachineOf
  have bMachineOf : Binds K DMachineOf ["letters", "pattern"] [] := FMachineOf'.bindsN fun _ _ _ _ _ _ us hl => match us, hl with | [_, _], _ => rfl
  have mToldAlike : mg "told_alike" = some (.ref (He.ga K "told_alike")) := He.glo_ok X G (c.t.d.fact 10 (f := .glo "told_alike") rfl)
  have FToldAlike' : FnP K "told_alike" sToldAlike (He.ga K "told_alike") DToldAlike := FToldAlike
  have bToldAlike : Binds K DToldAlike ["letters", "one", "other"] [] := FToldAlike'.bindsN fun _ _ _ _ _ _ us hl => match us, hl with | [_, _, _], _ => rfl
  have mLawCellAt : mg "_law_cell_at" = some (.ref (He.ga K "_law_cell_at")) := He.glo_ok X G (c.t.d.fact 11 (f := .glo "_law_cell_at") rfl)
  have FLawCellAt' : FnP K "_law_cell_at" sLawCellAt (He.ga K "_law_cell_at") DLawCellAt := FLawCellAt
  have bLawCellAt : Binds K DLawCellAt ["_law_script", "_law_k"] [] := FLawCellAt'.bindsN fun _ _ _ _ _ _ us hl => match us, hl with | [_, _], _ => rfl
  have mLawLetters : mg "_law_letters" = some (.ref (He.ga K "_law_letters")) := He.glo_ok X G (c.t.d.fact 12 (f := .glo "_law_letters") rfl)
  have FLawLetters' : FnP K "_law_letters" sLawLetters (He.ga K "_law_letters") DLawLetters := FLawLetters
  have bLawLetters : Binds K DLawLetters ["_law_cell"] [] := FLawLetters'.bindsN fun _ _ _ _ _ _ us hl => match us, hl with | [_], _ => rfl
  have mLawSize : mg "_law_size" = some (.ref (He.ga K "_law_size")) := He.glo_ok X G (c.t.d.fact 13 (f := .glo "_law_size") rfl)
  have FLawSize' : FnP K "_law_size" sLawSize (He.ga K "_law_size") DLawSize := FLawSize
  have bLawSize : Binds K DLawSize ["_law_pattern"] [] := FLawSize'.bindsN fun _ _ _ _ _ _ us hl => match us, hl with | [_], _ => rfl
  have mLawStep : mg "_law_step" = some (.ref (He.ga K "_law_step")) := He.glo_ok X G (c.t.d.fact 14 (f := .glo "_law_step") rfl)
  have FLawStep' : FnP K "_law_step" sLawStep (He.ga K "_law_step") DLawStep := FLawStep
  have bLawStep : Binds K DLawStep ["_law_letters_here", "_law_stack", "_law_cell"] [] := FLawStep'.bindsN fun _ _ _ _ _ _ us hl => match us, hl with | [_, _, _], _ => rfl
  have mLawDrawn : mg "_law_drawn" = some (.ref (He.ga K "_law_drawn")) := He.glo_ok X G (c.t.d.fact 15 (f := .glo "_law_drawn") rfl)
  have FLawDrawn' : FnP K "_law_drawn" sLawDrawn (He.ga K "_law_drawn") DLawDrawn := FLawDrawn
  have bLawDrawn : Binds K DLawDrawn ["_law_letters_here", "_law_cells", "_law_most"] [] := FLawDrawn'.bindsN fun _ _ _ _ _ _ us hl => match us, hl with | [_, _, _], _ => rfl
  have mLawKind : mg "_law_kind" = some (.ref (He.ga K "_law_kind")) := He.glo_ok X G (c.t.d.fact 16 (f := .glo "_law_kind") rfl)
  have FLawKind' : FnP K "_law_kind" sLawKind (He.ga K "_law_kind") DLawKind := FLawKind
  have bLawKind : Binds K DLawKind ["_law_error"] [] := FLawKind'.bindsN fun _ _ _ _ _ _ us hl => match us, hl with | [_], _ => rfl
  have mLawNoLetters : mg "_law_no_letters" = some (.ref (He.ga K "_law_no_letters")) := He.glo_ok X G (c.t.d.fact 17 (f := .glo "_law_no_letters") rfl)
  have FLawNoLetters' : FnP K "_law_no_letters" sLawNoLetters (He.ga K "_law_no_letters") DLawNoLetters := FLawNoLetters
  have bLawNoLetters : Binds K DLawNoLetters ["_law_cell"] [] := FLawNoLetters'.bindsN fun _ _ _ _ _ _ us hl => match us, hl with | [_], _ => rfl
  have mLawStranger : mg "_law_stranger" = some (.ref (He.ga K "_law_stranger")) := He.glo_ok X G (c.t.d.fact 18 (f := .glo "_law_stranger") rfl)
  have FLawStranger' : FnP K "_law_stranger" sLawStranger (He.ga K "_law_stranger") DLawStranger := FLawStranger
  have bLawStranger : Binds K DLawStranger ["_law_letters_here", "_law_cell"] [] := FLawStranger'.bindsN fun _ _ _ _ _ _ us hl => match us, hl with | [_, _], _ => rfl
  have mLawNoPattern : mg "_law_no_pattern" = some (.ref (He.ga K "_law_no_pattern")) := He.glo_ok X G (c.t.d.fact 19 (f := .glo "_law_no_pattern") rfl)
  have FLawNoPattern' : FnP K "_law_no_pattern" sLawNoPattern (He.ga K "_law_no_pattern") DLawNoPattern := FLawNoPattern
  have bLawNoPattern : Binds K DLawNoPattern ["_law_letters_here", "_law_pattern", "_law_cell"] [] := FLawNoPattern'.bindsN fun _ _ _ _ _ _ us hl => match us, hl with | [_, _, _], _ => rfl
  have mLawAbout : mg "_law_about" = some (.ref (He.ga K "_law_about")) := He.glo_ok X G (c.t.d.fact 20 (f := .glo "_law_about") rfl)
  have FLawAbout' : FnP K "_law_about" sLawAbout (He.ga K "_law_about") DLawAbout := FLawAbout
  have bLawAbout : Binds K DLawAbout ["_law_pattern", "_law_wrong", "_law_cell"] [] := FLawAbout'.bindsN fun _ _ _ _ _ _ us hl => match us, hl with | [_, _, _], _ => rfl
  have mLawAsked : mg "_law_asked" = some (.ref (He.ga K "_law_asked")) := He.glo_ok X G (c.t.d.fact 21 (f := .glo "_law_asked") rfl)
  have FLawAsked' : FnP K "_law_asked" sLawAsked (He.ga K "_law_asked") DLawAsked := FLawAsked
  have bLawAsked : Binds K DLawAsked ["_law_way", "_law_letters_here", "_law_thing"] [] := FLawAsked'.bindsN fun _ _ _ _ _ _ us hl => match us, hl with | [_, _, _], _ => rfl
  have mLawTold : mg "_law_told" = some (.ref (He.ga K "_law_told")) := He.glo_ok X G (c.t.d.fact 22 (f := .glo "_law_told") rfl)
  have FLawTold' : FnP K "_law_told" sLawTold (He.ga K "_law_told") DLawTold := FLawTold
  have bLawTold : Binds K DLawTold ["_law_way", "_law_letters_here", "_law_thing"] [] := FLawTold'.bindsN fun _ _ _ _ _ _ us hl => match us, hl with | [_, _, _], _ => rfl
  have mLawRead : mg "_law_read" = some (.ref (He.ga K "_law_read")) := He.glo_ok X G (c.t.d.fact 23 (f := .glo "_law_read") rfl)
  have FLawRead' : FnP K "_law_read" sLawRead (He.ga K "_law_read") DLawRead := FLawRead
  have bLawRead : Binds K DLawRead ["_law_letters_here", "_law_text"] [] := FLawRead'.bindsN fun _ _ _ _ _ _ us hl => match us, hl with | [_, _], _ => rfl
  have mLawGrown : mg "_law_grown" = some (.ref (He.ga K "_law_grown")) := He.glo_ok X G (c.t.d.fact 24 (f := .glo "_law_grown") rfl)
  have FLawGrown' : FnP K "_law_grown" sLawGrown (He.ga K "_law_grown") DLawGrown := FLawGrown
  have bLawGrown : Binds K DLawGrown ["_law_pattern", "_law_cell"] [] := FLawGrown'.bindsN fun _ _ _ _ _ _ us hl => match us, hl with | [_, _], _ => rfl
  have mLaw : mg "law" = some (.ref (He.ga K "law")) := He.glo_ok X G (c.t.d.fact 25 (f := .glo "law") rfl)
  have FLaw' : FnP K "law" sLaw (He.ga K "law") DLaw := FLaw
  have bLaw : Binds K DLaw ["_law_script"] [] := FLaw'.bindsN fun _ _ _ _ _ _ us hl => match us, hl with | [_], _ => rfl
  have g_PatternError : mg "PatternError" = some (.ref (He.ga K "PatternError")) := He.glo_ok X G (c.t.d.fact 26 (f := .glo "PatternError") rfl)
  have x_PatternError : EX K mg "PatternError" (He.ga K "PatternError") := by
    obtain ⟨a1, a2, a3, a4⟩ := He.exc_ok (c.t.d.fact 32 (f := .exc "PatternError") rfl)
    exact ⟨g_PatternError, a1, a2, a3, a4⟩
  have g_NoLetters : mg "NoLetters" = some (.ref (He.ga K "NoLetters")) := He.glo_ok X G (c.t.d.fact 27 (f := .glo "NoLetters") rfl)
  have x_NoLetters : EX K mg "NoLetters" (He.ga K "NoLetters") := by
    obtain ⟨a1, a2, a3, a4⟩ := He.exc_ok (c.t.d.fact 33 (f := .exc "NoLetters") rfl)
    exact ⟨g_NoLetters, a1, a2, a3, a4⟩
  have g_NoPattern : mg "NoPattern" = some (.ref (He.ga K "NoPattern")) := He.glo_ok X G (c.t.d.fact 28 (f := .glo "NoPattern") rfl)
  have x_NoPattern : EX K mg "NoPattern" (He.ga K "NoPattern") := by
    obtain ⟨a1, a2, a3, a4⟩ := He.exc_ok (c.t.d.fact 34 (f := .exc "NoPattern") rfl)
    exact ⟨g_NoPattern, a1, a2, a3, a4⟩
  have g_TooGreat : mg "TooGreat" = some (.ref (He.ga K "TooGreat")) := He.glo_ok X G (c.t.d.fact 29 (f := .glo "TooGreat") rfl)
  have x_TooGreat : EX K mg "TooGreat" (He.ga K "TooGreat") := by
    obtain ⟨a1, a2, a3, a4⟩ := He.exc_ok (c.t.d.fact 35 (f := .exc "TooGreat") rfl)
    exact ⟨g_TooGreat, a1, a2, a3, a4⟩
  have g_NoText : mg "NoText" = some (.ref (He.ga K "NoText")) := He.glo_ok X G (c.t.d.fact 30 (f := .glo "NoText") rfl)
  have x_NoText : EX K mg "NoText" (He.ga K "NoText") := by
    obtain ⟨a1, a2, a3, a4⟩ := He.exc_ok (c.t.d.fact 36 (f := .exc "NoText") rfl)
    exact ⟨g_NoText, a1, a2, a3, a4⟩
  have g_NoRoom : mg "NoRoom" = some (.ref (He.ga K "NoRoom")) := He.glo_ok X G (c.t.d.fact 31 (f := .glo "NoRoom") rfl)
  have x_NoRoom : EX K mg "NoRoom" (He.ga K "NoRoom") := by
    obtain ⟨a1, a2, a3, a4⟩ := He.exc_ok (c.t.d.fact 37 (f := .exc "NoRoom") rfl)
    exact ⟨g_NoRoom, a1, a2, a3, a4⟩
  have n_ValueError : mg "ValueError" = none := He.free_ok X G (c.t.d.fact 38 (f := .free "ValueError") rfl)
  have n_all : mg "all" = none := He.free_ok X G (c.t.d.fact 39 (f := .free "all") rfl)
  have n_bool : mg "bool" = none := He.free_ok X G (c.t.d.fact 40 (f := .free "bool") rfl)
  have n_int : mg "int" = none := He.free_ok X G (c.t.d.fact 41 (f := .free "int") rfl)
  have n_isinstance : mg "isinstance" = none := He.free_ok X G (c.t.d.fact 42 (f := .free "isinstance") rfl)
  have n_len : mg "len" = none := He.free_ok X G (c.t.d.fact 43 (f := .free "len") rfl)
  have n_max : mg "max" = none := He.free_ok X G (c.t.d.fact 44 (f := .free "max") rfl)
  have n_min : mg "min" = none := He.free_ok X G (c.t.d.fact 45 (f := .free "min") rfl)
  have n_range : mg "range" = none := He.free_ok X G (c.t.d.fact 46 (f := .free "range") rfl)
  have n_set : mg "set" = none := He.free_ok X G (c.t.d.fact 47 (f := .free "set") rfl)
  have n_str : mg "str" = none := He.free_ok X G (c.t.d.fact 48 (f := .free "str") rfl)
  have n_sum : mg "sum" = none := He.free_ok X G (c.t.d.fact 49 (f := .free "sum") rfl)
  have n_tuple : mg "tuple" = none := He.free_ok X G (c.t.d.fact 50 (f := .free "tuple") rfl)
  obtain ⟨t_MOST_LETTERS, i_MOST_LETTERS⟩ := He.int_ok X G (c.t.d.fact 51 (f := .int "MOST_LETTERS" 4) rfl)
  obtain ⟨t_MOST_SIGNS, i_MOST_SIGNS⟩ := He.int_ok X G (c.t.d.fact 52 (f := .int "MOST_SIGNS" 200) rfl)
  obtain ⟨t_MOST_NODES, i_MOST_NODES⟩ := He.int_ok X G (c.t.d.fact 53 (f := .int "MOST_NODES" 60) rfl)
  obtain ⟨t_DEPTH, i_DEPTH⟩ := He.int_ok X G (c.t.d.fact 54 (f := .int "DEPTH" 8) rfl)
  obtain ⟨t_MOST_WRITTEN, i_MOST_WRITTEN⟩ := He.int_ok X G (c.t.d.fact 55 (f := .int "MOST_WRITTEN" 400) rfl)
  have e_PatternError := He.exm_ok (c.t.d.fact 56 (f := .exm "PatternError" "PatternError" true) rfl)
  have e_NoLetters := He.exm_ok (c.t.d.fact 57 (f := .exm "NoLetters" "PatternError" true) rfl)
  have e_NoPattern := He.exm_ok (c.t.d.fact 58 (f := .exm "NoPattern" "PatternError" true) rfl)
  have e_TooGreat := He.exm_ok (c.t.d.fact 59 (f := .exm "TooGreat" "PatternError" true) rfl)
  have e_NoText := He.exm_ok (c.t.d.fact 60 (f := .exm "NoText" "PatternError" true) rfl)
  have e_NoRoom := He.exm_ok (c.t.d.fact 61 (f := .exm "NoRoom" "PatternError" true) rfl)
  have er := ex_err c.more
  cases hfa.symm.trans mLaw
  have bA := FunD.bindsA (ps := ["_law_script"]) FLaw' fun _ _ _ _ _ _ us hl => match us, hl with | [_], _ => rfl
  refine ⟨DLaw, fun s v => bA s [v] rfl, fun base _ _ hTB => ?_⟩
  have tb : ∀ x : Str, ((x, none) : He.Defn) ∈ tf → GxR.TabB base mg (He.codeOf K (x, none)) (He.cT K (x, none)).2 := fun x hx => by
    have t := hTB _ (List.mem_map_of_mem hx)
    exact ⟨t.code, t.bm, t.gP⟩
  have tb2 := tb "need_letters" (by simp [tf])
  have exm : ∀ i, i < 4 → PySem.W.exmOne K (.ref (He.ga K (cn i))) (.ref (He.ga K "PatternError")) = some true := by
    intro i hi
    match i, hi with
    | 0, _ => exact e_NoLetters
    | 1, _ => exact e_NoPattern
    | 2, _ => exact e_TooGreat
    | 3, _ => exact e_NoText
  -- the program's defs
  have NL := nl_ok (P := P) (w := w) FNeedLetters' (code_is FNeedLetters') tb2 x_NoLetters n_isinstance n_str n_len n_all n_set i_MOST_LETTERS
  have IL := il_ok (P := P) (w := w) (base := base) FIsLetter' n_isinstance n_str n_len
  have PO := po_ok (P := P) (w := w) (mg := mg) (base := base) FPartsOf'
  have IN := in_ok FIsNode' IL bIsLetter FIsLetter'.kp mIsLetter n_isinstance n_str n_tuple n_len
  have IP := ip_ok FIsPattern' IN bIsNode FIsNode'.kp mIsNode PO bPartsOf FPartsOf'.kp mPartsOf
  have NO := no_ok FNodes' PO bPartsOf FPartsOf'.kp mPartsOf
  have NP := np_ok FNeedPattern' x_NoPattern x_TooGreat NL bNeedLetters FNeedLetters'.kp mNeedLetters IP bIsPattern FIsPattern'.kp mIsPattern NO bNodes FNodes'.kp mNodes i_MOST_NODES
  have FI := fi_ok FFits' NP bNeedPattern FNeedPattern'.kp mNeedPattern
  have MA := ma_ok FMachineOf' NP bNeedPattern FNeedPattern'.kp mNeedPattern
  have TA := ta_ok FToldAlike' NP bNeedPattern FNeedPattern'.kp mNeedPattern
  have RE := re_ok FRead' NL bNeedLetters FNeedLetters'.kp mNeedLetters
  -- the law's
  have CA := ca_ok (P := P) (w := w) (base := base) FLawCellAt' n_len
  have LT := lt_ok (P := P) (w := w) (base := base) FLawLetters' n_range
  have LS : ∀ d, FnOk P w K mg base CX0 d (He.ga K "_law_size") DLawSize ["_law_pattern"] (spLS d) := fun d => by
    induction d with
    | zero => exact ls_none
    | succ d ih => exact ls_step FLawSize' ih bLawSize mLawSize n_sum
  have ST := st_ok (P := P) (w := w) (base := base) FLawStep' n_len n_min n_tuple
  have DR := dr_ok FLawDrawn' ST bLawStep FLawStep'.kp mLawStep (LS 60) bLawSize FLawSize'.kp mLawSize n_len n_sum n_tuple
  have GR := gr_ok FLawGrown' (LS 60) bLawSize FLawSize'.kp mLawSize n_max n_range
  have NLS := nls_ok (P := P) (w := w) (mg := mg) (base := base) FLawNoLetters'
  have SR := sr_ok (P := P) (w := w) (base := base) FLawStranger' n_len
  have NOP := nop_ok FLawNoPattern' SR bLawStranger FLawStranger'.kp mLawStranger
  have AB := ab_ok (P := P) (w := w) (mg := mg) (base := base) FLawAbout'
  have ASK := ask_ok FLawAsked' NL bNeedLetters FNeedLetters'.kp mNeedLetters NP bNeedPattern FNeedPattern'.kp mNeedPattern FI bFits FFits'.kp mFits MA bMachineOf FMachineOf'.kp mMachineOf TA bToldAlike FToldAlike'.kp mToldAlike
  have TO := to_ok (ca := fun i => He.ga K (cn i)) FLawTold' er exm g_PatternError ASK bLawAsked FLawAsked'.kp mLawAsked FLawKind' bLawKind mLawKind g_NoLetters g_NoPattern g_TooGreat g_NoText g_NoRoom n_isinstance n_int n_len n_ValueError
  have LR := lr_ok (ca := fun i => He.ga K (cn i)) FLawRead' er exm g_PatternError RE bRead FRead'.kp mRead FLawKind' bLawKind mLawKind g_NoLetters g_NoPattern g_TooGreat g_NoText g_NoRoom n_isinstance n_int n_len n_ValueError
  exact law_ok FLaw' CA bLawCellAt FLawCellAt'.kp mLawCellAt LT bLawLetters FLawLetters'.kp mLawLetters DR bLawDrawn FLawDrawn'.kp mLawDrawn GR bLawGrown FLawGrown'.kp mLawGrown (LS 80) bLawSize FLawSize'.kp mLawSize NO bNodes FNodes'.kp mNodes IP bIsPattern FIsPattern'.kp mIsPattern
    TO bLawTold FLawTold'.kp mLawTold NOP bLawNoPattern FLawNoPattern'.kp mLawNoPattern AB bLawAbout FLawAbout'.kp mLawAbout NLS bLawNoLetters FLawNoLetters'.kp mLawNoLetters LR bLawRead FLawRead'.kp mLawRead n_isinstance n_bool n_int
end
end Bo
set_option Elab.async false
set_option linter.all false
open PySem PySem.W PySem.Calls PyProof.Rows
set_option maxRecDepth 100000 in
set_option maxHeartbeats 0 in
theorem PySem.Challenge.cw_bothreed_k01_patterns_holds : PySem.Challenge.rw_bothreed_k01_patterns.Holds := by
  w_on; o_law
  refine HandSHeadRun.head_any (r := Bo.R) (q := view Bo.R.prog [104]) (H := Bo.hk) (ob := Bo.ob) (M := 9000) (loose := Bo.names) (d := HandSHeadRun.topDef Bo.R.prog 104) (kwd := []) Bo.ob_eq
    (by kernel_rfl) (fun s => by kernel_rfl) Bo.run (by kernel_rfl) (by kernel_rfl) (by kernel_rfl) (by rfl) (by first | assumption | decide +kernel) (by decide +kernel) ⟨rfl, rfl, rfl, rfl, rfl, by decide +kernel⟩ ?hw ?hc
  case hw => w_witness2
  case hc =>
    refine LamX.walk_ofTsE (l := PySem.Challenge.rw_bothreed_k01_patterns) (n := 63) (k := 81) (x := "_law_script") (CX := fun _ => L2.CX0) rfl (by decide) (by kernel_rfl) ⟨rfl, by decide, by decide⟩ ?F (fun _ _ _ _ _ z => z)
    intro w mg f h Y G hmg0
    obtain ⟨K, KX, c⟩ := Y
    have hmg : mg ("law" : PySem.Str) = some (.ref f) := by
      have e : (HandSHeadRun.topDef Bo.R.prog 104).name = ("law" : PySem.Str) := by kernel_rfl
      rw [← e]
      exact hmg0
    obtain ⟨fd, hb, hF⟩ := Bo.facts (P := PySem.Challenge.rw_bothreed_k01_patterns.prog) (w := w) KX G hmg c
    refine ⟨K, KX, fd, Bo.tf.map (He.cT K), _, ?_, ?_, ?_, hb, ?_, hF⟩
    · intro p hp
      obtain ⟨x, hx, rfl⟩ := List.mem_map.mp hp
      exact c.empty x hx
    · intro p hp
      obtain ⟨x, hx, rfl⟩ := List.mem_map.mp hp
      exact c.out x hx
    · intro p hp
      obtain ⟨x, hx, rfl⟩ := List.mem_map.mp hp
      exact PySem.W.codeHd_of_K KX (c.hd x hx)
    · intro H a ns hl _ hT hS
      have tab : ∀ x : PySem.Str, ((x, none) : He.Defn) ∈ Bo.tf → GxR.TabG H (He.cT K (x, none)).2 := fun x hx => ⟨#[], hT _ (List.mem_map_of_mem hx), trivial⟩
      exact ⟨a, ns, rfl, hl, hS, tab "need_letters" (by simp [Bo.tf]), fun _ => rfl⟩
