import PyProof.Rows.All
import Wide.All
import OpenK.AllK
import Wide.FinOn
import HandS.ForMost
import HandS.AnyAll
import HandS.GenOver
import HandS.Strs
import HandS.Defaults
import HandS.WideBits
import KE.KStateDown
import Lean
import HandS.ForExc
import HandS.Head0
import HandS.Head1
import HandS.Head2
import HandS.HeadEnd
import HandS.HeadHook1
import HandS.HeadHook2
import HandS.HeadHook3
import HandS.HeadHook4
import HandS.HeadWalk
import HandS.IsInst
import HandS.Text
import HandS.ExcCtx
import HandS.Conv
import HandS.Codes
import HandS.ForDict
import PyProof.P3Eq
import HandS.Steps
import HandS.HotCalls
import HandS.ExcIs
import HandS.ExcOwn
import PyProof.StrLaws
import HandS.TupMul
import HandS.TupSets
import HandS.EndTab
import KE.KNestM
import PySem.Challenge.RW_bothreed_k03_texts_read
set_option Elab.async false
set_option linter.all false
set_option maxRecDepth 100000
set_option maxHeartbeats 4000000
/-! any, all over a generator expression whose element may call defs of the program's own -/
namespace GE
open PySem PySem.Spec PyProof.Rows L2 GxR
theorem over_start {A : Around} {elt iter tg : Expr} {ifs : List Expr} {scope : Scope} {pos : Pos} {it acc : Value} {env : Env} :
    A.over (.compStart (.GeneratorExp elt [⟨tg, iter, ifs, 0⟩] scope pos) 0 it acc env) [] = A.deeper env := by
  obtain ⟨hd, d, fr, gs, u⟩ := A
  simp [Around.over, Around.deeper, marksOver, frameCount, unitsOf, envsOf, guardsOf, pushEnvs, pushGuards, Code.envs, Code.env?, Code.isFrame, Code.guards, Code.isGuard, Code.weight, Code.frames, Code.isCreation, Code.isCaller, Code.cUnits]
theorem over_loop {A : Around} {elt iter tg : Expr} {ifs : List Expr} {scope : Scope} {pos : Pos} {it acc : Value} {env : Env} :
    A.over (.compLoop (.GeneratorExp elt [⟨tg, iter, ifs, 0⟩] scope pos) 0 it acc env) [] = A.deeper env := by
  obtain ⟨hd, d, fr, gs, u⟩ := A
  simp [Around.over, Around.deeper, marksOver, frameCount, unitsOf, envsOf, guardsOf, pushEnvs, pushGuards, Code.envs, Code.env?, Code.isFrame, Code.guards, Code.isGuard, Code.weight, Code.frames, Code.isCreation, Code.isCaller, Code.cUnits]

/-- the context of the generator's turns -/
abbrev Cx.gen (X : Cx) (s : Shared) (H : Hp) (cenv : Env) (fp : List Addr) (x : Str) : Cx :=
  { X with A := X.A.in1.in1.deeper cenv, N := X.N ++ [x], s_0 := s, H_0 := H, env := cenv, outer := X.stack, stack := cenv :: X.stack, ex := fp, fn := fun _ => false, pn := [], xe := fun _ _ => False }
/-- the environment of the generator's frame -/
abbrev gEnv (X : Cx) (scope : Scope) (C : Addr) (code : Value) : Env := genEnv scope (cloFrom X.env.cells scope.names []) C code builtinsNs X.env
theorem Room.gen {k : Nat} {A : Around} (r : Room (k + 1) A) (env : Env) : Room k (A.in1.in1.deeper env) :=
  ⟨r.hd, by have := r.dp; show A.depth + 1 + 3 * k + 5 < _; omega, by have := r.un; show A.units + 1 + 1 + 3 + 16 * k + 200 < _; omega⟩

/-- the scope of the generator expression -/
structure GSc (N : List Str) (sc scope : Scope) (x : Str) : Prop where
  blk : BlkOk (N ++ [x]) sc scope [(x, N.length)]
  nd : (N ++ [x]).Nodup
  co : scope.isCoroutine = false
  cell : ∀ y ∈ scope.names, y.2 ≠ .cell
  dot : scope.names.lookup (".0" : Str) = some NameKind.local
  loc : scope.names.lookup x = some .local
def gscC (N : List Str) (sc scope : Scope) (x : Str) : Bool :=
  blkC (N ++ [x]) sc scope [(x, N.length)] && decide ((N ++ [x]).Nodup) && !scope.isCoroutine && (scope.names.all fun y => match y.2 with | .cell => false | _ => true) && (match scope.names.lookup (".0" : Str) with | some .local => true | _ => false)
    && (match scope.names.lookup x with | some .local => true | _ => false)
theorem gsc_by {N : List Str} {sc scope : Scope} {x : Str} (h : gscC N sc scope x = true) : GSc N sc scope x := by
  unfold gscC at h
  simp only [Bool.and_eq_true, decide_eq_true_eq, Bool.not_eq_true', List.all_eq_true] at h
  obtain ⟨⟨⟨⟨⟨h1, h2⟩, h3⟩, h4⟩, h5⟩, h6⟩ := h
  refine ⟨blkOk_by h1, h2, h3, fun y hy e => ?_, ?_, ?_⟩
  · have := h4 y hy
    rw [e] at this
    cases this
  · split at h5
    · assumption
    · cases h5
  · split at h6
    · assumption
    · cases h6

section
variable {X : Cx} {pins : List (Addr × Obj)} {σ : L2.St} {H : Hp} {s s' : Shared}
/-- the same heap, other tokens and generators -/
theorem Inv.regen (I : Inv X pins σ H s) (hh : s'.heap = s.heap) (ho : s'.os = s.os) (hb : AllBare s'.gens) : Inv X pins σ H s' := by
  obtain ⟨h, g, d, t, o⟩ := s
  obtain ⟨h', g', d', t', o'⟩ := s'
  obtain rfl : h' = h := hh
  obtain rfl : o' = o := ho
  exact ⟨I.ok, I.os, hb, I.base, I.loc, I.cell, I.free, I.freeC, I.pin, I.hok, I.len⟩

theorem gen_start {scope : Scope} {x : Str} {code : Value} {m : Str → Option Value} {fp : List Addr} (I : Inv X pins σ H s) (S : GSc X.N X.env.scope scope x) (hfp : ∀ b ∈ fp, FpOk X pins H b ∧ b < s.heap.objs.size)
    (hn : s'.heap.Ns s.heap.objs.size m) (kp : ∀ b o, s.heap.get? b = some o → s'.heap.get? b = some o) (ho : s'.os = s.os) (hb : AllBare s'.gens) :
    Inv (Cx.gen X s H (gEnv X scope s.heap.objs.size code) fp x) [] (σ ++ [none]) H s' := by
  have ok := S.blk
  have hfree : ∀ y ∈ scope.names, y.2 = .free → ∃ c, X.env.cells.lookup y.1 = some c := fun y hy e => by
    rcases ok.free y hy e with k | k
    · exact I.ok.has _ (.inl k)
    · exact I.ok.has _ (.inr k)
  have cm : ∀ {y c}, (y, c) ∈ cloFrom X.env.cells scope.names [] → X.env.cells.lookup y = some c ∧ c < s.heap.objs.size := fun {y c} hm => by
    rcases cloFrom_mem hm with hm | ⟨h1, rfl⟩
    · cases hm
    · obtain ⟨c, hc⟩ := hfree _ h1 rfl
      rw [hc]
      obtain ⟨w, z⟩ := I.cell _ _ hc
      exact ⟨rfl, z.lt⟩
  generalize hcenv : gEnv X scope s.heap.objs.size code = cenv
  have hL : cenv.locals = s.heap.objs.size := by rw [← hcenv]; rfl
  have hcl : cenv.cells = cloFrom X.env.cells scope.names [] := by rw [← hcenv]; rfl
  have hsc : cenv.scope = scope := by rw [← hcenv]; rfl
  have hfr : cenv.frame = some cenv.locals := by rw [← hcenv]; rfl
  have mem : ∀ {y c}, cenv.cells.lookup y = some c → X.env.cells.lookup y = some c ∧ c < s.heap.objs.size := fun {y c} e => by
    rw [hcl] at e
    exact cm (PySem.mem_of_lookup e)
  have look : ∀ {y}, scope.names.lookup y = some .free → ∃ c, cenv.cells.lookup y = some c ∧ X.env.cells.lookup y = some c := fun {y} hl => by
    have hy : (y, NameKind.free) ∈ scope.names := PySem.mem_of_lookup hl
    obtain ⟨c', e'⟩ := mem_lookup (cloFrom_has (cells := X.env.cells) (acc := []) hy)
    rw [← hcl] at e'
    exact ⟨c', e', (mem e').1⟩
  have okG : (Cx.gen X s H cenv fp x).Ok := by
    refine ⟨I.ok.mod, by show cenv.scope.kind = _; rw [hsc]; exact ok.kind, by show cenv.globals = _; rw [← hcenv]; exact I.ok.glob, by show cenv.builtins = _; rw [← hcenv]; rfl, by show s.heap.objs.size ≤ cenv.locals; rw [hL]; exact Nat.le_refl _,
      fun y z c e1 e2 => ?_, fun y hy => ?_, fun y c z e => ?_, I.ok.hd, ?_, .inr ⟨rfl, hfr⟩, fun b hb => ⟨?_, fun y c e z => ?_⟩, I.bs, Nat.le_trans I.ok.bsz I.sz, fun b o e hb => ?_, fun b hb z => ?_, I.stack, I.stkFree⟩
    · exact I.ok.inj y z c (mem e1).1 (mem e2).1
    · show ∃ c, cenv.cells.lookup y = some c
      have key : ∀ k, cenv.kindOf y = some k → (k = .cell ∨ k = .free) → ∃ c, cenv.cells.lookup y = some c := fun k hk hk' => by
        unfold Env.kindOf at hk
        rw [hsc] at hk
        rcases hk' with rfl | rfl
        · exact absurd rfl (S.cell _ (PySem.mem_of_lookup hk))
        · obtain ⟨c, h1, _⟩ := look hk
          exact ⟨c, h1⟩
      rcases hy with hy | hy
      · exact key _ hy (.inl rfl)
      · exact key _ hy (.inr rfl)
    · cases z
    · show (X.A.in1.in1.deeper cenv).frames = some (cenv :: X.stack)
      have := I.ok.frames
      show pushEnvs [cenv] X.A.frames = some (cenv :: X.stack)
      rw [this]; rfl
    · show b ≠ cenv.locals
      rw [hL]; exact Nat.ne_of_lt (hfp b hb).2
    · exact (hfp b hb).1.2.2.2.2.1 y c (mem e).1 z
    · rcases (hfp b hb).1.2.2.2.1 with z | z
      · exact I.ok.noex b o e z
      · exact absurd (Nat.lt_of_lt_of_le (Heap.lt_size e) (Nat.le_trans I.ok.bsz z)) (Nat.lt_irrefl _)
    · rcases List.mem_cons.mp (I.stkSub b z) with z | z
      · exact (hfp b hb).1.2.1 z
      · exact (hfp b hb).1.2.2.1 z
  refine ⟨okG, ho, hb, Un.kept kp, ⟨m, ?_, fun i y av e1 e2 e3 => ?_⟩, fun y c e => ?_, ?_, fun y c e => ?_, fun p hp => ?_, I.hok.kept kp, ?_⟩
  · show Heap.Ns _ cenv.locals _
    rw [hL]; exact hn
  · have hi : i < σ.length := by
      rcases Nat.lt_or_ge i σ.length with h | h
      · exact h
      · rw [List.getElem?_append_right h] at e2
        rcases Nat.eq_zero_or_pos (i - σ.length) with z | z
        · rw [z] at e2; cases e2
        · rw [List.getElem?_eq_none (by simp; omega)] at e2; cases e2
    have hN : i < X.N.length := by rw [← I.len]; exact hi
    rw [List.getElem?_append_left hi] at e2
    have e1 : (X.N ++ [x])[i]? = some y := e1
    have e1N := e1
    rw [List.getElem?_append_left hN] at e1N
    have hfreeY : scope.names.lookup y = some .free := by
      have key : ∀ k, scope.names.lookup y = some k → k = .local ∨ k = .cell ∨ k = .free → scope.names.lookup y = some .free := fun k hk hk' => by
        have no : ¬ (k = .local ∨ k = .cell) := fun hh => by
          rcases ok.own _ (PySem.mem_of_lookup hk) hh with e' | e'
          · have : y = x := by simpa using e'
            subst this
            have e3 : (X.N ++ [y])[X.N.length]? = some y := by simp
            have := nodup_ix S.nd e1 e3
            omega
          · exact e' (List.mem_of_getElem? e1)
        rcases hk' with rfl | rfl | rfl
        · exact absurd (.inl rfl) no
        · exact absurd (.inr rfl) no
        · exact hk
      have e3 : Vis cenv.scope y := e3
      rw [hsc] at e3
      rcases e3 with e3 | e3 | e3
      · exact key _ e3 (.inl rfl)
      · exact key _ e3 (.inr (.inl rfl))
      · exact key _ e3 (.inr (.inr rfl))
    obtain ⟨m', hn', hl⟩ := I.loc
    have hvis : Vis X.env.scope y := (ok.free _ (PySem.mem_of_lookup hfreeY) rfl).elim (fun k => .inr (.inl k)) (fun k => .inr (.inr k))
    obtain ⟨w, r, q⟩ := hl i y av e1N e2 hvis
    refine ⟨w, r, .inr ⟨.inr (by show cenv.scope.names.lookup y = _; rw [hsc]; exact hfreeY), ?_⟩⟩
    obtain ⟨c, h1, h2⟩ := look hfreeY
    rcases q with ⟨k, _⟩ | ⟨_, c', e', z⟩
    · have k : X.env.scope.names.lookup y = some .local := k
      rcases ok.free _ (PySem.mem_of_lookup hfreeY) rfl with k' | k' <;> rw [show X.env.scope.names.lookup y = _ from k'] at k <;> cases k
    · rw [h2] at e'; cases e'
      exact ⟨c, h1, z.keeps kp⟩
  · obtain ⟨w, z⟩ := I.cell y c (mem e).1
    exact ⟨w, z.keeps kp⟩
  · show H cenv.locals = none
    rw [hL]; exact I.hok.fresh (Nat.le_refl _)
  · exact I.freeC y c (mem e).1
  · exact absurd (show p ∈ ([] : List (Addr × Obj)) ++ [] from hp) (by simp)
  · show (σ ++ [none]).length = (X.N ++ [x]).length
    simp [I.len]
end

/-! ### the turns -/
def GR (XG : Cx) (pn : List (Addr × Obj)) (σ0 : L2.St) (QF : Hp → Prop) : Nat → Shared → Shared → Prop := fun _ _ s₁ => ∃ H, Inv XG pn σ0 H s₁ ∧ QF H
def GYp (XG : Cx) (pn : List (Addr × Obj)) (σ0 : L2.St) (stopv : Bool) (QS : Hp → Prop) (fp : List Addr) (tn : Nat → Heap → Prop) (W : Nat → Nat → Hp → Prop) : Protocol := fun k _ v s kap =>
  ∃ H b, v = .bool b ∧ Inv XG pn σ0 H s ∧ (if b = stopv then QS H else ∃ i m, m < k ∧ tn i s.heap ∧ (∀ c ∈ fp, H c = none) ∧ W i m H ∧ ∀ s'' : Shared, s''.heap = s.heap → s''.os = s.os → AllBare s''.gens → kap (.send .none) s'')
theorem set_last {α : Type} (l : List (Option α)) (v : α) : (l ++ [none]).set l.length (some v) = l ++ [some v] := by
  induction l with
  | nil => rfl
  | cons a r ih => show a :: ((r ++ [none]).set r.length (some v)) = a :: (r ++ [some v]); rw [ih]
section
variable {X : Cx} {s1 : Shared} {H1 : Hp} {cenv : Env} {fp : List Addr} {x : Str} {px : Pos} {J : It} {it : Addr} {tn : Nat → Heap → Prop} {pn : List (Addr × Obj)} {σ : L2.St} {stopv : Bool} {QS QF : Hp → Prop} {W : Nat → Nat → Hp → Prop} {elt iter : Expr} {te : TE} {scope : Scope} {pos : Pos}
theorem seg_turns (hc : X.calm = true) (T : Turn X.prog X.w X.K (.Name x px) J fp it tn) (hpn : ∀ p ∈ pn, ∀ b ∈ fp, p.1 ≠ b) (nd : (X.N ++ [x]).Nodup) (hx : cenv.scope.names.lookup x = some .local) (hco : cenv.scope.isCoroutine = false)
    (he : PE (Cx.gen X s1 H1 cenv fp x) elt te)
    (turn : ∀ i m H, W i m H → (J.stop i H ∧ QF H) ∨ (J.go i H ∧ ∃ Nx : Hp → Prop, (∀ H', Nx H' → ∃ m', m' < m ∧ W (i + 1) m' H') ∧ ∀ v H', J.yld i H v H' → te (σ ++ [some v]) H' fun y H2 => ∃ b, y = .bl b ∧ if b = stopv then QS H2 else Nx H2)) :
    ∀ (n m i : Nat) (s₀ s : Shared) (H : Hp), m < n → Inv (Cx.gen X s1 H1 cenv fp x) pn (σ ++ [none]) H s → tn i s.heap → (∀ b ∈ fp, H b = none) → W i m H →
      Seg (model X.prog X.w) X.A.in1.in1 (fun n s₀ r s₁ => r = .ok .next ∧ GR (Cx.gen X s1 H1 cenv fp x) pn (σ ++ [none]) QF n s₀ s₁) (GYp (Cx.gen X s1 H1 cenv fp x) pn (σ ++ [none]) stopv QS fp tn W) n s₀
        (.compLoop (.GeneratorExp elt [⟨.Name x px, iter, [], 0⟩] scope pos) 0 (.ref it) .none cenv) ((model X.prog X.w).den (.compLoop (.GeneratorExp elt [⟨.Name x px, iter, [], 0⟩] scope pos) 0 (.ref it) .none cenv)) [] s := by
  intro n
  induction n with
  | zero => intro m i s₀ s H hm; exact absurd hm (Nat.not_lt_zero _)
  | succ k ih =>
    intro m i s₀ s H hm I st fr w
    have ov : X.A.in1.in1.over (.compLoop (.GeneratorExp elt [⟨.Name x px, iter, [], 0⟩] scope pos) 0 (.ref it) .none cenv) [] = (Cx.gen X s1 H1 cenv fp x).A := over_loop
    have stat : ∀ {H' : Hp}, (∀ b ∈ fp, H' b = none) → ∀ b ∈ fp, FpOk (Cx.gen X s1 H1 cenv fp x) pn H' b := fun hn b hb =>
      ⟨hn b hb, (I.ok.exf b hb).1, I.ok.exfs b hb, .inl hb, fun x c e => (I.ok.exf b hb).2 x c e, fun p hp => by
        rcases List.mem_append.mp hp with z | z
        · cases z
        · exact hpn p z b hb⟩
    show Seg _ _ _ _ _ s₀ _ ((compTurn (.GeneratorExp elt [⟨.Name x px, iter, [], 0⟩] scope pos) 0 (.ref it) .none cenv).onRaise (leaving cenv)) [] s
    rw [compTurn_gen, Sem.onRaise_eq_wrap]
    refine seg_bind_wrap (wpAny_standAt ?_)
    refine seg_bind_wrap ?_
    rw [ov]
    rcases turn i m H w with ⟨stop, qf⟩ | ⟨go, Nx, hNx, step⟩
    · refine thnF (T.done (Cx.gen X s1 H1 cenv fp x) rfl rfl rfl hc i pn s _ H (fun _ _ => False) I (stat fr) st stop) fun r s2 ⟨hr, I2⟩ => ?_
      subst hr
      exact seg_end (.ok .next) ⟨rfl, H, I2, qf⟩
    · refine thnF (T.item (Cx.gen X s1 H1 cenv fp x) rfl rfl rfl hc i pn s _ H (fun _ _ => False) I (stat fr) st go) fun r s2 ⟨u, hr, h2⟩ => ?_
      subst hr
      refine seg_bind_wrap ?_
      rw [ov]
      refine thnF h2 fun _ s3 ⟨v, H3, I3, r3, y3, st3, fr3⟩ => ?_
      have I3' := I3.pinned (stat fr3) (T.obj _ _ st3)
      have hl : σ.length = X.N.length := by
        have := I.len
        simp at this
        exact this
      have pg : PG (Cx.gen X s1 H1 cenv fp x) (.Name x px) (gName X.N.length) := pg_name nd (by show (X.N ++ [x])[X.N.length]? = some x; simp) (.inl hx) (.inr hx)
      refine seg_bind_wrap ?_
      rw [ov]
      refine thnF (pg.run _ s3 _ H3 v u (fun σ' H' => σ' = σ ++ [some v] ∧ H' = H3) I3' r3 ⟨by rw [← hl]; exact set_last σ v, rfl⟩) fun _ s4 ⟨σ4, H4, I4, e4, e4'⟩ => ?_
      subst e4 e4'
      simp only [List.forIn_nil]
      refine seg_bind_wrap (wpAny_pure ?_)
      simp only [if_true]
      have hy : ∀ v, yieldOut cenv v = yieldValue v := fun v => by simp only [yieldOut, hco, Bool.false_eq_true, if_false]
      simp only [hy]
      rw [Sem.bind_eq_wrap', Sem.bind_eq_wrap', Sem.wrap_wrap, Sem.wrap_wrap]
      refine seg_wrap ?_
      rw [ov]
      refine thnF (he.run _ s4 _ H4 _ I4 (step v H4 y3)) fun z s5 ⟨yv, H5, I5, r5, b, eb, q5⟩ => ?_
      subst eb
      obtain rfl : z = Value.bool b := r5
      have pin' : ∀ c ∈ fp, ∀ o, s3.heap.get? c = some o → s5.heap.get? c = some o ∧ H5 c = none := fun c hc o e =>
        let z := I5.pin (c, o) (List.mem_append_right _ (List.mem_append_right _ (mem_pinsAt hc e)))
        ⟨z.1, z.2.1⟩
      have st5 : tn (i + 1) s5.heap := T.keep _ _ _ st3 fun c hc o e => (pin' c hc o e).1
      have fr5 : ∀ c ∈ fp, H5 c = none := fun c hc => by
        obtain ⟨o, e, _⟩ := T.obj _ _ st3 c hc
        exact (pin' c hc o e).2
      have I5' : Inv (Cx.gen X s1 H1 cenv fp x) pn (σ ++ [none]) H5 s5 := (I5.unpinned (pins := pn)).weak (by simp) fun j w e => by
        rcases Nat.lt_or_ge j σ.length with h | h
        · rw [List.getElem?_append_left h] at e ⊢; exact e
        · rw [List.getElem?_append_right h] at e
          rcases Nat.eq_zero_or_pos (j - σ.length) with z | z
          · rw [z] at e; cases e
          · rw [List.getElem?_eq_none (by simp; omega)] at e; cases e
      refine seg_at (seg_yield rfl rfl rfl ⟨H5, b, rfl, I5', ?_⟩)
      by_cases hb : b = stopv
      · rw [if_pos hb] at q5 ⊢
        exact q5
      · rw [if_neg hb] at q5 ⊢
        obtain ⟨m', hm', w'⟩ := hNx H5 q5
        refine ⟨i + 1, m', by omega, st5, fr5, w', fun s'' e1 e2 e3 => ?_⟩
        refine seg_again rfl (ih m' (i + 1) s'' s'' H5 (by omega) (Inv.regen I5' e1 e2 e3) ?_ fr5 w')
        rw [e1]; exact st5
theorem seg_first (hc : X.calm = true) (T : Turn X.prog X.w X.K (.Name x px) J fp it tn) (hpn : ∀ p ∈ pn, ∀ b ∈ fp, p.1 ≠ b) (nd : (X.N ++ [x]).Nodup) (hx : cenv.scope.names.lookup x = some .local) (hco : cenv.scope.isCoroutine = false)
    (he : PE (Cx.gen X s1 H1 cenv fp x) elt te)
    (turn : ∀ i m H, W i m H → (J.stop i H ∧ QF H) ∨ (J.go i H ∧ ∃ Nx : Hp → Prop, (∀ H', Nx H' → ∃ m', m' < m ∧ W (i + 1) m' H') ∧ ∀ v H', J.yld i H v H' → te (σ ++ [some v]) H' fun y H2 => ∃ b, y = .bl b ∧ if b = stopv then QS H2 else Nx H2))
    (n m : Nat) (s₀ s : Shared) (H : Hp) (hm : m < n) (I : Inv (Cx.gen X s1 H1 cenv fp x) pn (σ ++ [none]) H s) (st : tn 0 s.heap) (fr : ∀ b ∈ fp, H b = none) (w : W 0 m H) :
      Seg (model X.prog X.w) X.A.in1.in1 (fun n s₀ r s₁ => r = .ok .next ∧ GR (Cx.gen X s1 H1 cenv fp x) pn (σ ++ [none]) QF n s₀ s₁) (GYp (Cx.gen X s1 H1 cenv fp x) pn (σ ++ [none]) stopv QS fp tn W) n s₀
        (.compStart (.GeneratorExp elt [⟨.Name x px, iter, [], 0⟩] scope pos) 0 (.ref it) .none cenv) ((model X.prog X.w).den (.compStart (.GeneratorExp elt [⟨.Name x px, iter, [], 0⟩] scope pos) 0 (.ref it) .none cenv)) [] s := by
  have ov : X.A.in1.in1.over (.compStart (.GeneratorExp elt [⟨.Name x px, iter, [], 0⟩] scope pos) 0 (.ref it) .none cenv) [] = (Cx.gen X s1 H1 cenv fp x).A := over_start
  have loop := seg_turns (iter := iter) (px := px) (scope := scope) (pos := pos) hc T hpn nd hx hco he turn n m 0 s₀ s H hm I st fr w
  show Seg _ _ _ _ _ s₀ _ ((compStart (.GeneratorExp elt [⟨.Name x px, iter, [], 0⟩] scope pos) 0 (.ref it) .none cenv).onRaise (leaving cenv)) [] s
  unfold compStart
  rw [Sem.onRaise_eq_wrap]
  show Seg _ _ _ _ _ s₀ _ ((ask >>= _).wrap _ _ _ _) [] s
  refine seg_bind_wrap (wpAny_askSetting ?_)
  split
  · exact seg_again rfl loop
  · first
      | exact seg_bind_wrap (wpAny_rule (seg_bind_wrap (wpAny_standAt (seg_bind_wrap (T.self _ 0 s _ _ st (seg_again rfl loop))))))
      | (refine seg_bind_wrap (wpAny_rule ?_); show Seg _ _ _ _ _ s₀ _ ((standAt iter.pos >>= _).wrap _ _ _ _) [] s; exact seg_bind_wrap (wpAny_standAt (seg_bind_wrap (T.self _ 0 s _ _ st (seg_again rfl loop)))))
end
end GE
set_option Elab.async false
set_option linter.all false
set_option maxRecDepth 100000
set_option maxHeartbeats 4000000
namespace GE
open PySem PySem.Spec PyProof.Rows L2 GxR
theorem AllBare.setGen {s : Shared} {g : Nat} {x : GenState} (h : AllBare s.gens) (hx : x.bare = true) : AllBare (s.setGen g x).gens := by
  intro y hy
  have hy' : y ∈ s.gens.setIfInBounds g x := hy
  obtain ⟨i, hi, e⟩ := Array.mem_iff_getElem.mp hy'
  have hi' : i < s.gens.size := by simpa using hi
  rw [Array.getElem_setIfInBounds] at e
  split at e
  · rw [← e]; exact hx
  · rw [← e]; exact h _ (Array.getElem_mem hi')
  · exact hi'
section
variable {X : Cx} {s1 : Shared} {H1 : Hp} {cenv : Env} {fp : List Addr} {x : Str} {px : Pos} {J : It} {it a g : Nat} {tn : Nat → Heap → Prop} {pn : List (Addr × Obj)} {σ : L2.St} {stopv : Bool} {QS QF : Hp → Prop} {W : Nat → Nat → Hp → Prop} {elt iter : Expr} {te : TE} {scope : Scope} {pos : Pos} {R : Result → Shared → Prop}
/-- between two turns -/
def JG (X : Cx) (XG : Cx) (pn : List (Addr × Obj)) (σ0 : L2.St) (stopv : Bool) (QS QF : Hp → Prop) (fp : List Addr) (tn : Nat → Heap → Prop) (W : Nat → Nat → Hp → Prop) (a g n : Nat) (s : Shared) : Prop :=
  (∃ H, Inv XG pn σ0 H s) ∧ s.heap.IsGen a g ∧ ∃ gs, s.gens[g]? = some gs ∧ ∀ s'' : Shared, s''.heap = s.heap → s''.os = s.os → AllBare s''.gens →
    gs.Goes (model X.prog X.w) X.A.in1.in1 (fun n s₀ r s₁ => r = .ok .next ∧ GR XG pn σ0 QF n s₀ s₁) (GYp XG pn σ0 stopv QS fp tn W) n (.send .none) s''
/-- what pyNext leads to -/
def NX (X : Cx) (XG : Cx) (pn : List (Addr × Obj)) (σ0 : L2.St) (stopv : Bool) (QS QF : Hp → Prop) (fp : List Addr) (tn : Nat → Heap → Prop) (W : Nat → Nat → Hp → Prop) (a g n : Nat) (r : Option Value) (s : Shared) : Prop :=
  match r with
  | none => ∃ H, Inv XG pn σ0 H s ∧ QF H
  | some v => ∃ b, v = .bool b ∧ if b = stopv then ∃ H, Inv XG pn σ0 H s ∧ QS H else ∃ n', n' < n ∧ JG X XG pn σ0 stopv QS QF fp tn W a g n' s
theorem next_gen {XG : Cx} {σ0 : L2.St} {n : Nat} {s : Shared} {go : Obj} (hh : X.A.handled = none) (hroom : X.A.depth < recursionLimit) (hgo : (a, go) ∈ pn) (hG : ∀ h : Heap, h.get? a = some go → h.IsGen a g) (h : JG X XG pn σ0 stopv QS QF fp tn W a g n s) {E : Value → Shared → Prop} :
    wpAny (model X.prog X.w) X.A.in1 (pyNext (.ref a)) (NX X XG pn σ0 stopv QS QF fp tn W a g n) E s := by
  obtain ⟨⟨H, I⟩, hg, gs, hgs, goes⟩ := h
  have hsz : g + 1 ≤ s.gens.size := by
    rcases Nat.lt_or_ge g s.gens.size with h' | h'
    · exact h'
    · rw [Array.getElem?_eq_none h'] at hgs; cases hgs
  refine GenW.wpAny_gsz hsz ?_
  refine wpAny_pyNext_genexpQ (A := X.A.in1) (P := GR XG pn σ0 QF) hh I.nolimit hroom hg hgs (goes _ rfl rfl (AllBare.setGen I.bare rfl)) (fun v s₁ gs' hb hv => ?_) (fun s₁ hp h' hk => ?_)
  · obtain ⟨H', b, rfl, I', q⟩ := hv
    intro hsz'
    have I2 : Inv XG pn σ0 H' (s₁.setGen g gs') := Inv.regen I' rfl rfl (AllBare.setGen I'.bare hb)
    refine ⟨b, rfl, ?_⟩
    by_cases hbs : b = stopv
    · rw [if_pos hbs] at q ⊢
      exact ⟨H', I2, q⟩
    · rw [if_neg hbs] at q ⊢
      obtain ⟨i, m, hm, st, fr, w, kap⟩ := q
      cases n with
      | zero => exact absurd hm (Nat.not_lt_zero _)
      | succ k =>
        refine ⟨k, Nat.lt_succ_self _, ⟨H', I2⟩, hG _ (I2.pin (a, go) (List.mem_append_right _ hgo)).1, gs', ?_, fun s'' e1 e2 e3 => ?_⟩
        · have h9 : g < (s₁.gens.setIfInBounds g gs').size := hsz'
          have h8 : g < s₁.gens.size := by simpa using h9
          show (s₁.gens.setIfInBounds g gs')[g]? = some gs'
          rw [Array.getElem?_setIfInBounds_self_of_lt h8]
        · exact kap s'' e1 e2 e3
  · intro _
    obtain ⟨H', I', q⟩ := hp
    have I2 : Inv XG pn σ0 H' (s₁.setGen g .finished) := Inv.regen I' rfl rfl (AllBare.setGen I'.bare rfl)
    exact ⟨H', I2.kept (t' := (s₁.setGen g .finished).toks) hk, q⟩
theorem any_turns {XG : Cx} {σ0 : L2.St} {go : Obj} (hh : X.A.handled = none) (hroom : X.A.depth < recursionLimit) (hgo : (a, go) ∈ pn) (hG : ∀ h : Heap, h.get? a = some go → h.IsGen a g)
    (hS : ∀ H s, Inv XG pn σ0 H s → QS H → R (.ok (.ret (.bool true))) s) (hF : ∀ H s, Inv XG pn σ0 H s → QF H → R (.ok (.ret (.bool false))) s) :
    ∀ (n : Nat) (s : Shared), JG X XG pn σ0 true QS QF fp tn W a g n s → codeAny (model X.prog X.w) X.A (.builtin "any.loop" ⟨[.ref a], []⟩) R s := by
  intro n
  induction n using Nat.strongRecOn with
  | ind n ih =>
    intro s h
    refine codeAny_builtin PySem.F.entry_any_loop ?_
    rw [Around.under_plainId PySem.F.plain_any_loop _]
    show wpAny _ X.A.in1 (pyNext (.ref a) >>= _) _ _ s
    refine wpAny_bind (wpAny_mono (next_gen hh hroom hgo hG h (E := fun _ _ => False)) (fun r s' hr => ?_) fun _ _ z => False.elim z)
    cases r with
    | none =>
      obtain ⟨H', I', q⟩ := hr
      exact wpAny_bind (wpAny_rule (wpAny_pure (hF H' s' I' q)))
    | some v =>
      obtain ⟨b, rfl, q⟩ := hr
      refine wpAny_bind (wpAny_holding (wpAny_truthy_bool ?_))
      refine wpAny_bind (wpAny_letGo ?_)
      cases b with
      | true =>
        simp only [if_true] at q ⊢
        obtain ⟨H', I', q⟩ := q
        exact wpAny_bind (wpAny_rule (wpAny_pure (hS H' s' I' q)))
      | false =>
        simp only [Bool.false_eq_true, if_false] at q ⊢
        obtain ⟨n', hn, j⟩ := q
        exact wpAny_pure ⟨plainId_quiet PySem.F.plain_any_loop _, ih n' hn s' j⟩
theorem all_turns {XG : Cx} {σ0 : L2.St} {go : Obj} (hh : X.A.handled = none) (hroom : X.A.depth < recursionLimit) (hgo : (a, go) ∈ pn) (hG : ∀ h : Heap, h.get? a = some go → h.IsGen a g)
    (hS : ∀ H s, Inv XG pn σ0 H s → QS H → R (.ok (.ret (.bool false))) s) (hF : ∀ H s, Inv XG pn σ0 H s → QF H → R (.ok (.ret (.bool true))) s) :
    ∀ (n : Nat) (s : Shared), JG X XG pn σ0 false QS QF fp tn W a g n s → codeAny (model X.prog X.w) X.A (.builtin "all.loop" ⟨[.ref a], []⟩) R s := by
  intro n
  induction n using Nat.strongRecOn with
  | ind n ih =>
    intro s h
    refine codeAny_builtin PySem.F.entry_all_loop ?_
    rw [Around.under_plainId PySem.F.plain_all_loop _]
    show wpAny _ X.A.in1 (pyNext (.ref a) >>= _) _ _ s
    refine wpAny_bind (wpAny_mono (next_gen hh hroom hgo hG h (E := fun _ _ => False)) (fun r s' hr => ?_) fun _ _ z => False.elim z)
    cases r with
    | none =>
      obtain ⟨H', I', q⟩ := hr
      exact wpAny_bind (wpAny_rule (wpAny_pure (hF H' s' I' q)))
    | some v =>
      obtain ⟨b, rfl, q⟩ := hr
      refine wpAny_bind (wpAny_holding (wpAny_truthy_bool ?_))
      refine wpAny_bind (wpAny_letGo ?_)
      cases b with
      | false =>
        simp only [if_true] at q
        simp only [Bool.false_eq_true, if_false]
        obtain ⟨H', I', q⟩ := q
        exact wpAny_bind (wpAny_rule (wpAny_pure (hS H' s' I' q)))
      | true =>
        simp only [Bool.true_eq_false, if_false] at q
        simp only [if_true]
        obtain ⟨n', hn, j⟩ := q
        exact wpAny_pure ⟨plainId_quiet PySem.F.plain_all_loop _, ih n' hn s' j⟩
end
section
variable {X : Cx} {pins : List (Addr × Obj)} {σ : L2.St} {H : Hp} {s : Shared}
/-- any(..), all(..): stopv the truth at which it ends -/
def tQuant (stopv : Bool) (P : Addr) (wi : TI) (te : TE) : TE := fun σ H Q => wi σ H fun J H1 => TabG H1 P ∧ ∀ H2, Tabbed P H1 H2 → ∃ W : Nat → Nat → Hp → Prop, (∃ m, W 0 m H2) ∧ ∀ i m H, W i m H →
  (J.stop i H ∧ Q (.bl (!stopv)) H) ∨ (J.go i H ∧ ∃ Nx : Hp → Prop, (∀ H', Nx H' → ∃ m', m' < m ∧ W (i + 1) m' H') ∧ ∀ v H', J.yld i H v H' → te (σ ++ [some v]) H' fun y H3 => ∃ b, y = .bl b ∧ if b = stopv then Q (.bl stopv) H3 else Nx H3)
theorem gen_made {c P : Addr} {elt iter : Expr} {x : Str} {px gpos : Pos} {scope : Scope} {wi : TI} {te : TE} {k : Nat} {stopv : Bool} {Q : VK} {Q' : Value → Shared → Prop}
    (hc : X.calm = true) (hr : Room k X.A) (TB : TabB X.base X.mg c P) (hcode : X.env.code = .ref c) (S : GSc X.N X.env.scope scope x) (hi : PI X (.Name x px) iter wi)
    (he : ∀ (s : Shared) (H : Hp) (C : Addr) (code : Value) (fp : List Addr), PE (Cx.gen X s H (gEnv X scope C code) fp x) elt te)
    (hs : ∀ v, genFold iter X.env v = pure v) (I : Inv X pins σ H s) (h : tQuant stopv P wi te σ H Q)
    (hQ : ∀ (a g : Nat) (s5 : Shared) (XG : Cx) (pn : List (Addr × Obj)) (σ0 : L2.St) (fp : List Addr) (tn : Nat → Heap → Prop) (W : Nat → Nat → Hp → Prop) (go : Obj) (n : Nat), (a, go) ∈ pn → (∀ h : Heap, h.get? a = some go → h.IsGen a g) → s5.heap.IsGen a g →
      JG X XG pn σ0 stopv (fun H => Q (.bl stopv) H) (fun H => Q (.bl (!stopv)) H) fp tn W a g n s5 →
      (∀ H s, Inv XG pn σ0 H s → Inv X pins σ H s) → Q' (.ref a) s5) :
    wpAny (model X.prog X.w) X.A (eval (.GeneratorExp elt [⟨.Name x px, iter, [], 0⟩] scope gpos) X.env) Q' X.xe s := by
  have hfree : ∀ y ∈ scope.names, y.2 = .free → ∃ c, X.env.cells.lookup y.1 = some c := fun y hy e => by
    rcases S.blk.free y hy e with k | k
    · exact I.ok.has _ (.inl k)
    · exact I.ok.has _ (.inr k)
  refine wpAny_GeneratorExp_make S.co (closure_ok hfree) S.cell S.dot S.blk.kind (by have := hr.dp; omega) ?_ hs
  refine thn (hi.run pins s σ H _ I h) fun xv s1 hx => thn hx fun itv s2 h2 => ?_
  obtain ⟨it, fp, tn, J, H2, rfl, I2, T, st2, f2, ⟨ps, hP, ht⟩, q⟩ := h2
  refine ⟨I2.nolimit, ?_⟩
  have hPs : s2.heap.get? P = some { cls := .none, data := .fields ps } := I2.hok P _ hP
  have cd : PySem.W.CodeHd s2.heap c P := TB.code.keeps fun b u e => I2.bk b u e
  have nfP : ∀ b ∈ fp, b ≠ P := fun b hb z => by
    have := (f2 b hb).1
    rw [z, hP] at this; cases this
  have cont : ∀ (code : Value) (s3 : Shared) (H3 : Hp), Tabbed P H2 H3 → Inv X pins σ H3 s3 → (∀ b o, b ≠ P → s2.heap.get? b = some o → s3.heap.get? b = some o) →
      wpAny (model X.prog X.w) X.A (builtinsFor X.env.globals X.env.builtins) (fun bi s₄ =>
        ∀ h', h'.Ns s₄.heap.objs.size (fun y => if y = ".0" then some (.ref it) else none) → Heap.SameBut s₄.heap.objs.size (s₄.heap.push { cls := .type "frame", data := .dict #[] }) h' →
          Q' (.ref h'.objs.size) { s₄ with
            gens := s₄.gens.push (.fresh (.compStart (.GeneratorExp elt [⟨.Name x px, iter, [], 0⟩] scope gpos) 0 (.ref it) .none (genEnv scope (cloFrom X.env.cells scope.names []) s₄.heap.objs.size code bi X.env))),
            toks := s₄.toks + 1 + 1 + 1,
            heap := h'.push { cls := .type "generator", data := .fields #[.int s₄.gens.size 0, .str "<genexpr>" (s₄.toks + 1), .str (X.env.qual ++ "<genexpr>") (s₄.toks + 1 + 1)] } }) X.xe s3 := by
    intro code s3 H3 tb I3 keep3
    obtain ⟨bm, ob, e1, e2, e3, e4, e5, e6, e7, e8⟩ := TB.bm
    refine wpAny_builtinsFor (m := X.mg) (by rw [I3.ok.glob]; exact I3.mod.glob.keeps I3.bk) e1 e2 (I3.bk _ _ e5) e6 e7 e8 ?_
    intro h' hn' hs'
    obtain ⟨W, ⟨m0, w0⟩, turn⟩ := q H3 tb
    have hsz : h'.objs.size = s3.heap.objs.size + 1 := by rw [hs'.1, Heap.size_push]
    have keep' : ∀ b o, s3.heap.get? b = some o → h'.get? b = some o := fun b o e => hs'.extBut b o (Nat.ne_of_lt (Heap.lt_size e)) (Heap.get?_push_of_some _ e)
    generalize hgo : ({ cls := .type "generator", data := .fields #[.int s3.gens.size 0, .str "<genexpr>" (s3.toks + 1), .str (X.env.qual ++ "<genexpr>") (s3.toks + 1 + 1)] } : Obj) = go
    have hG : ∀ h : Heap, h.get? h'.objs.size = some go → h.IsGen h'.objs.size s3.gens.size := fun h e => ⟨go, _, _, e, by rw [← hgo], by rw [← hgo], by rw [← hgo]⟩
    have keep5 : ∀ b o, s3.heap.get? b = some o → (h'.push go).get? b = some o := fun b o e => Heap.get?_push_of_some _ (keep' b o e)
    have gob : (h'.push go).get? h'.objs.size = some go := Heap.get?_push_size _ (by rw [← hgo]; rfl)
    have f3 : ∀ b ∈ fp, FpOk X pins H3 b ∧ b < s3.heap.objs.size := fun b hb => by
      obtain ⟨o, e, _⟩ := T.obj _ _ st2 b hb
      exact ⟨⟨by rw [tb.2 b (nfP b hb)]; exact (f2 b hb).1, (f2 b hb).2⟩, Heap.lt_size (keep3 b o (nfP b hb) e)⟩
    generalize hs5 : ({ s3 with
            gens := s3.gens.push (.fresh (.compStart (.GeneratorExp elt [⟨.Name x px, iter, [], 0⟩] scope gpos) 0 (.ref it) .none (genEnv scope (cloFrom X.env.cells scope.names []) s3.heap.objs.size code builtinsNs X.env))),
            toks := s3.toks + 1 + 1 + 1,
            heap := h'.push go } : Shared) = s5
    have eh : s5.heap = h'.push go := by rw [← hs5]
    have eo : s5.os = s3.os := by rw [← hs5]
    have eb : AllBare s5.gens := by rw [← hs5]; exact I3.bare.push rfl
    have I5 := gen_start (s' := s5) (code := code) I3 S f3 (by rw [eh]; exact hn'.push _) (fun b o e => by rw [eh]; exact keep5 b o e) eo eb
    have aL : h'.objs.size ≠ s3.heap.objs.size := by omega
    have aF : h'.objs.size ∉ frs X.stack := fun hm => by
      obtain ⟨_, o, ho, _⟩ := I3.stack.mem hm
      have h9 : h'.objs.size < s3.heap.objs.size := Heap.lt_size ho
      omega
    have aH : H3 h'.objs.size = none := I3.hok.fresh (by omega)
    have I6 : Inv (Cx.gen X s3 H3 (gEnv X scope s3.heap.objs.size code) fp x) [(h'.objs.size, go)] (σ ++ [none]) H3 s5 := I5.pins_of fun p hp => by
      rw [List.mem_singleton.mp hp]
      exact ⟨by rw [eh]; exact gob, aH, aL, aF, fun v z => by rw [← hgo] at z; cases z⟩
    have st5 : tn 0 s5.heap := T.keep _ _ _ st2 fun b hb o e => by rw [eh]; exact keep5 b o (keep3 b o (nfP b hb) e)
    refine hQ h'.objs.size s3.gens.size s5 _ [(h'.objs.size, go)] (σ ++ [none]) fp tn W go (m0 + 1) (List.mem_singleton.mpr rfl) hG (hG _ (by rw [eh]; exact gob)) ⟨⟨H3, I6⟩, hG _ (by rw [eh]; exact gob),
      .fresh (.compStart (.GeneratorExp elt [⟨.Name x px, iter, [], 0⟩] scope gpos) 0 (.ref it) .none (gEnv X scope s3.heap.objs.size code)), ?_, fun s'' e1 e2 e3 => ⟨rfl, ?_⟩⟩ fun H' s' I' => ?_
    · rw [← hs5]; exact Array.getElem?_push_size ..
    · refine seg_first (cenv := gEnv X scope s3.heap.objs.size code) hc T ?_ S.nd S.loc S.co (he s3 H3 _ code fp) turn (m0 + 1) m0 s'' s'' H3 (Nat.lt_succ_self _) (Inv.regen I6 e1 e2 e3) (by rw [e1]; exact st5) (fun b hb => (f3 b hb).1.1) w0
      intro p hp b hb z
      rw [List.mem_singleton.mp hp] at z
      have h9 : b < s3.heap.objs.size := (f3 b hb).2
      have h8 : h'.objs.size < s3.heap.objs.size := Eq.mp (congrArg (fun (n : Nat) => n < s3.heap.objs.size) (show b = h'.objs.size from z.symm)) h9
      omega
    · exact I3.call' (ch := fp) I'.os I'.base I'.hok I'.bare fun b hb => ⟨(f3 b hb).1.2.2.2.1, (f3 b hb).1.2.1, (f3 b hb).1.2.2.2.2.1, (f3 b hb).1.2.2.2.2.2⟩
  cases hf : codeAmong gpos ps.toList with
  | none =>
    refine wpAny_genexprCodeX hcode (cd.code hPs ht) (cd.tab hPs) hf fun c' h' tk hx hge hlt hco' _ htab' _ => ?_
    obtain ⟨o1, vs, f1, tf, fl, tg, inF, tx, tt, op, _, _, _, _, _, _, _, _, _, htr, _⟩ := hco'
    have J3 := inv_tab (more := #[rawInt gpos.line, rawInt gpos.col, .ref c']) (h' := h') (g' := s2.gens) (d' := s2.drawn) (t' := tk) I2 hP (fun b o hb e => hx b o hb e) htab'.2 I2.bare
    exact cont _ _ _ ⟨⟨_, upd_same, htr⟩, fun b hb => upd_ne hb⟩ J3 fun b o hb e => hx b o hb e
  | some cv =>
    refine wpAny_genexprCode_hit hcode (cd.code hPs ht) hf ?_
    exact cont cv s2 H2 ⟨⟨ps, hP, ht⟩, fun b _ => rfl⟩ I2 fun b o _ e => e

theorem pe_anyE {c P : Addr} {elt iter : Expr} {x : Str} {px p pos gpos : Pos} {scope : Scope} {wi : TI} {te : TE} {k : Nat}
    (hc : X.calm = true) (hr : Room k X.A) (hg : Gl X "any") (hm : X.mg "any" = none) (TB : TabB X.base X.mg c P) (hcode : X.env.code = .ref c) (S : GSc X.N X.env.scope scope x) (hi : PI X (.Name x px) iter wi)
    (he : ∀ (s : Shared) (H : Hp) (C : Addr) (code : Value) (fp : List Addr), PE (Cx.gen X s H (gEnv X scope C code) fp x) elt te)
    (hs : ∀ v, genFold iter X.env v = pure v)
    (hst : starEach [.GeneratorExp elt [⟨.Name x px, iter, [], 0⟩] scope gpos] X.env = (false, eval (.GeneratorExp elt [⟨.Name x px, iter, [], 0⟩] scope gpos) X.env) :: starEach [] X.env := by rfl) :
    PE X (.Call (.Name "any" p) [.GeneratorExp elt [⟨.Name x px, iter, [], 0⟩] scope gpos] [] pos) (tQuant true P wi te) := by
  refine ⟨fun pins s σ H Q I h => ?_⟩
  refine wpAny_Call_Name_kw (ld_blt I hg hm boot_any ?_)
  refine PyProof.Rows.callWith_builtin1 ?_ hst (by rfl)
  rw [hst]
  show wpAny _ _ (spliced ((false, eval (.GeneratorExp elt [⟨.Name x px, iter, [], 0⟩] scope gpos) X.env) :: backTo pos (starEach [] X.env))) _ _ s
  refine Calls.spliced_cons (gen_made hc hr TB hcode S hi he hs I h fun a g s5 XG pn σ0 fp tn W go n hgo hG hg5 j back => ?_)
  refine Calls.spliced_nil ?_
  refine call_function_tree PySem.F.kind_any PySem.F.plain_any PySem.F.entry_any (PySem.F.args_any1 _) ?_
  unfold Builtin.«any»
  refine wpAny_bind (m := oneArg "any" _) (wpAny_pure ?_)
  refine wpAny_bind (wpAny_pyIter_gen hg5 ?_)
  exact wpAny_pure ⟨plainId_quiet PySem.F.plain_any_loop _, any_turns (I.ok.hd hc) hr.depth hgo hG (fun H' s' I' q => ⟨.bl true, H', back H' s' I', rfl, q⟩) (fun H' s' I' q => ⟨.bl false, H', back H' s' I', rfl, q⟩) n s5 j⟩
theorem pe_allE {c P : Addr} {elt iter : Expr} {x : Str} {px p pos gpos : Pos} {scope : Scope} {wi : TI} {te : TE} {k : Nat}
    (hc : X.calm = true) (hr : Room k X.A) (hg : Gl X "all") (hm : X.mg "all" = none) (TB : TabB X.base X.mg c P) (hcode : X.env.code = .ref c) (S : GSc X.N X.env.scope scope x) (hi : PI X (.Name x px) iter wi)
    (he : ∀ (s : Shared) (H : Hp) (C : Addr) (code : Value) (fp : List Addr), PE (Cx.gen X s H (gEnv X scope C code) fp x) elt te)
    (hs : ∀ v, genFold iter X.env v = pure v)
    (hst : starEach [.GeneratorExp elt [⟨.Name x px, iter, [], 0⟩] scope gpos] X.env = (false, eval (.GeneratorExp elt [⟨.Name x px, iter, [], 0⟩] scope gpos) X.env) :: starEach [] X.env := by rfl) :
    PE X (.Call (.Name "all" p) [.GeneratorExp elt [⟨.Name x px, iter, [], 0⟩] scope gpos] [] pos) (tQuant false P wi te) := by
  refine ⟨fun pins s σ H Q I h => ?_⟩
  refine wpAny_Call_Name_kw (ld_blt I hg hm boot_all ?_)
  refine PyProof.Rows.callWith_builtin1 ?_ hst (by rfl)
  rw [hst]
  show wpAny _ _ (spliced ((false, eval (.GeneratorExp elt [⟨.Name x px, iter, [], 0⟩] scope gpos) X.env) :: backTo pos (starEach [] X.env))) _ _ s
  refine Calls.spliced_cons (gen_made hc hr TB hcode S hi he hs I h fun a g s5 XG pn σ0 fp tn W go n hgo hG hg5 j back => ?_)
  refine Calls.spliced_nil ?_
  refine call_function_tree PySem.F.kind_all PySem.F.plain_all PySem.F.entry_all (PySem.F.args_all1 _) ?_
  unfold Builtin.«all»
  refine wpAny_bind (m := oneArg "all" _) (wpAny_pure ?_)
  refine wpAny_bind (wpAny_pyIter_gen hg5 ?_)
  exact wpAny_pure ⟨plainId_quiet PySem.F.plain_all_loop _, all_turns (I.ok.hd hc) hr.depth hgo hG (fun H' s' I' q => ⟨.bl false, H', back H' s' I', rfl, q⟩) (fun H' s' I' q => ⟨.bl true, H', back H' s' I', rfl, q⟩) n s5 j⟩
end
end GE
set_option Elab.async false
set_option linter.all false
set_option maxRecDepth 100000
set_option maxHeartbeats 4000000
/-! rules that the layer lacks -/
namespace GE
open PySem PySem.Spec PyProof.Rows L2
/-- the signs of a text, each with its place, in a new pair -/
def Ites (x : Str) : It :=
  ⟨fun i _ => i < x.cps.size, fun i H v H' => ∃ T c, v = .ref T ∧ H T = none ∧ H' = upd H T (.tup [.int (i : Nat), .str ⟨#[c]⟩]) ∧ x.cps[i]? = some c, fun i _ => i = x.cps.size⟩
theorem draws_sign {prog : Program} {w : World} {A : Around} (hh : A.handled = none) (it : Addr) (x : Str) (t : Tok) : Draws prog w A it [it] x.cps.size (SignAt x) (fun i h => h.IsStrIter it (strIterType x) x t i) := by
  by_cases ha : strIterType x = "str_ascii_iterator"
  · rw [ha]; exact Draws.strAscii hh it x t
  · have : strIterType x = "str_iterator" := by
      unfold strIterType at ha ⊢
      split
      · rename_i h; rw [if_pos h] at ha; exact absurd rfl ha
      · rfl
    rw [this]; exact Draws.strWide hh it x t
theorem turn_enumS {P : Program} {w : World} {K : PySem.W.Frag} {elts : List Expr} {kk : Nat} {tpos : Pos} (x : Str) (t : Tok) (e it : Addr) (hne : e ≠ it) :
    Turn P w K (.Tuple elts kk tpos) (Ites x) [e, it] e (fun i h => (∃ old, IsEnum h e it ((i : Nat) : Int) old) ∧ h.IsStrIter it (strIterType x) x t i) where
  mem := by simp
  obj := fun i h st b hb => by
    obtain ⟨⟨old, he⟩, ⟨o, ho, hc, hd⟩⟩ := st
    have e' : b = e ∨ b = it := by simpa using hb
    rcases e' with z | z
    · rw [z]; exact ⟨_, he, fun v q => nomatch q⟩
    · rw [z]; exact ⟨o, ho, fun v q => by rw [hd] at q; cases q⟩
  keep := fun i h h' st k => by
    obtain ⟨⟨old, he⟩, ⟨o, ho, r⟩⟩ := st
    exact ⟨⟨old, k e (by simp) _ he⟩, o, k it (by simp) o ho, r⟩
  item := by
    intro X hP hw hK hc i pins s σ H E I hf st hg
    subst hP hw hK
    obtain ⟨⟨old, he⟩, hit⟩ := st
    have hel : e < s.heap.objs.size := Heap.lt_size he
    have hil : it < s.heap.objs.size := by obtain ⟨_, q, _⟩ := hit; exact Heap.lt_size q
    have D := draws_sign (prog := X.prog) (w := X.w) (A := X.A.in1) (I.ok.hd hc) it x t
    refine wpAny_pyNext_enum_itemD D he hit hg hne (by simpa using hne) fun v h' tk hv ho hit' hT hsz hk => ?_
    obtain ⟨c, u, hcx, rfl⟩ := hv
    refine ⟨_, rfl, wpAny_letOwnedTupleGo_enum (s := { s with heap := h', toks := tk + 1 }) ho fun h'' he' sb => ?_⟩
    have hT2 : h''.get? s.heap.objs.size = some { cls := .type "tuple", data := .seq #[.int i tk, .str ⟨#[c]⟩ u] } := (sb.2 _ (Nat.ne_of_gt hel)).trans hT
    have new : ObjOk X.prog X.w (upd H s.heap.objs.size (.tup [.int (i : Nat), .str ⟨#[c]⟩])) h'' s.heap.objs.size (.tup [.int (i : Nat), .str ⟨#[c]⟩]) :=
      ⟨by show 2 ≤ sizeLine; decide, [.int i tk, .str ⟨#[c]⟩ u], .cons ⟨_, rfl⟩ (.cons ⟨_, rfl⟩ .nil), ⟨_, hT2, rfl, _, rfl⟩⟩
    have I1 : Inv X pins σ (upd H s.heap.objs.size (.tup [.int (i : Nat), .str ⟨#[c]⟩])) { s with heap := h'', toks := tk + 1 } :=
      I.turnedNew (ch := [e, it]) (fun b ob hb q => (sb.2 b (fun z => hb (by simp [z]))).trans (hk b ob (fun z => hb (by simp [z])) (fun z => hb (by simp [z])) q)) hf (Nat.le_refl _) new
    refine ⟨.ref s.heap.objs.size, _, I1, rfl, ⟨_, c, rfl, I.hok.fresh (Nat.le_refl _), rfl, hcx⟩, ⟨⟨.str ⟨#[c]⟩ u, ?_⟩, ?_⟩, fun b hb => ?_⟩
    · have e1 : ((i + 1 : Nat) : Int) = (i : Int) + 1 := by omega
      rw [e1]; exact he'
    · obtain ⟨o, q, r⟩ := hit'
      exact ⟨o, (sb.2 it (Ne.symm hne)).trans q, r⟩
    · have hb' : b < s.heap.objs.size := by
        have e' : b = e ∨ b = it := by simpa using hb
        rcases e' with z | z
        · rw [z]; exact hel
        · rw [z]; exact hil
      rw [upd_ne (Nat.ne_of_lt hb')]
      exact (hf b hb).1
  done := by
    intro X hP hw hK hc i pins s σ H E I hf st hg
    subst hP hw hK
    obtain ⟨⟨old, he⟩, hit⟩ := st
    obtain ⟨f0, f1, f2, f3, f4, f5⟩ := hf it (by simp)
    have D := draws_sign (prog := X.prog) (w := X.w) (A := X.A.in1) (I.ok.hd hc) it x t
    obtain rfl : i = x.cps.size := hg
    exact wpAny_pyNext_enum_endD D he hit fun h' eb => ⟨rfl, I.turned (t' := s.toks) (fun b o hb q => eb b o hb q) f0 f1 f3 f4 f5⟩
  self := fun A i s Q E st h => let ⟨⟨_, he⟩, _⟩ := st; wpAny_pyIter_enum he h
def iEnumS (ta : TA) : TI := fun σ H R => ta σ H fun vs H1 => ∃ x : Str, vs = [.str x] ∧ R (Ites x) H1
theorem pi_enumS {X : Cx} {e : Expr} {ta : TA} {p pos tpos : Pos} {elts : List Expr} {kk : Nat} (hg : Gl X "enumerate") (hm : X.mg "enumerate" = none) (ha : PA X [e] ta) (hs : starEach [e] X.env = [(false, eval e X.env)] := by rfl) :
    PI X (.Tuple elts kk tpos) (.Call (.Name "enumerate" p) [e] [] pos) (iEnumS ta) := by
  refine ⟨fun pins s σ H R I h => ?_⟩
  refine Call_ (ld_blt I hg hm boot_enumerate (PyProof.Rows.callWith_type1 (thn (ha.run pos pins s σ H _ I h) fun us s1 ⟨vs, H1, I1, r1, q1⟩ => ?_) hs rfl))
  obtain ⟨x, ex, q⟩ := q1
  subst ex
  cases r1 with
  | cons r rr =>
    cases rr
    obtain ⟨t, rfl⟩ := r
    refine call_enumerate_str fun h' he hit hsz hk => wpAny_pyIter_enum he ?_
    have I2 : Inv X pins σ H1 { s1 with heap := h' } := I1.kept (t' := s1.toks) hk
    refine ⟨s1.heap.objs.size + 1, [s1.heap.objs.size + 1, s1.heap.objs.size], _, _, H1, rfl, I2, turn_enumS x t (s1.heap.objs.size + 1) s1.heap.objs.size (Nat.succ_ne_self _), ⟨⟨.none, he⟩, hit⟩, fun b hb => ?_, q⟩
    have hle : s1.heap.objs.size ≤ b := by
      rcases List.mem_cons.mp hb with z | z
      · rw [z]; exact Nat.le_add_right _ _
      · rw [List.mem_singleton.mp z]; exact Nat.le_refl _
    exact I1.fpOk hle (I1.hok.fresh hle)

/-! ### len(set(text)) -/
def sig (a : Str) (i : Nat) : Str := ⟨#[a.cps.getD i 0]⟩
/-- is k among the first i signs of a -/
def seenS (a : Str) : Nat → Str → Bool
  | 0, _ => false
  | i + 1, k => seenS a i k || decide (k = sig a i)
/-- how many unlike signs the first i are -/
def unlike (a : Str) : Nat → Nat
  | 0 => 0
  | i + 1 => if seenS a i (sig a i) = true then unlike a i else unlike a i + 1
theorem unlike_le (a : Str) : ∀ i, unlike a i ≤ i
  | 0 => Nat.le_refl _
  | i + 1 => by have := unlike_le a i; unfold unlike; split <;> omega
section
variable {prog : Program} {w : World} {A : Around} {R : Result → Shared → Prop} {I S : Addr}
theorem set_turns {a : Str} {t : Tok} (W : WalksS prog w A.in1 I [I] [I] (fun a b => b = a) a.cps.size (SignAt a) (fun i s => s.heap.IsStrIter I (strIterType a) a t i)) (hSI : S ≠ I) (hm : a.cps.size ≤ 100) :
    ∀ (k i : Nat) (s : Shared), a.cps.size - i = k → i ≤ a.cps.size → s.heap.IsStrIter I (strIterType a) a t i → s.heap.SetOf (PySem.strKind prog w) S (seenS a i) (unlike a i) →
      (∀ s', Moved [S, I] (fun a b => b = a) s s' → s'.heap.SetOf (PySem.strKind prog w) S (seenS a a.cps.size) (unlike a a.cps.size) → R (.ok (.ret .none)) s') →
      codeAny (model prog w) A (.builtin "set.update.loop" ⟨[.ref S, .ref I], []⟩) R s := by
  have hSw : S ∉ [I] := by simpa using hSI
  have sub : ∀ b ∈ [I], b ∈ [S, I] := fun b hb => List.mem_cons_of_mem _ hb
  have keepS : ∀ {s s' : Shared} {T : Str → Bool} {n : Nat}, Moved [I] (fun a b => b = a) s s' → s.heap.SetOf (PySem.strKind prog w) S T n → s'.heap.SetOf (PySem.strKind prog w) S T n := fun hm ⟨o, es, ep, tb, ho, rest⟩ => ⟨o, es, ep, tb, hm.heap S _ hSw ho, rest⟩
  intro k
  induction k with
  | zero =>
    intro i s hk hi hst hS hR
    obtain rfl : i = a.cps.size := by omega
    refine codeAny_builtin PyProof.Rows.F.entry_set_update_loop ?_
    rw [Around.under_plainId PyProof.Rows.F.plain_set_update_loop _]
    show wpAny _ A.in1 (pyNext (.ref I) >>= _) _ _ s
    refine wpAny_bind (W.done s _ _ hst fun s' hm => ?_)
    exact wpAny_pure (hR s' (hm.mono sub) (keepS hm hS))
  | succ k ih =>
    intro i s hk hi hst hS hR
    have hlt : i < a.cps.size := by omega
    refine codeAny_builtin PyProof.Rows.F.entry_set_update_loop ?_
    rw [Around.under_plainId PyProof.Rows.F.plain_set_update_loop _]
    show wpAny _ A.in1 (pyNext (.ref I) >>= _) _ _ s
    refine wpAny_bind (W.item i s _ _ hlt hst fun v s' hP hst' hm => ?_)
    obtain ⟨c, u, hc, rfl⟩ := hP
    have ec : (⟨#[c]⟩ : Str) = sig a i := by
      unfold sig
      obtain ⟨h1, h2⟩ := Array.getElem?_eq_some_iff.mp hc
      simp [Array.getD, h1, h2]
    rw [ec]
    show wpAny _ A.in1 (holding [Value.str (sig a i) u] (setAdd S (.str (sig a i) u)) >>= _) _ _ s'
    refine wpAny_bind (wpAny_holding ?_)
    unfold setAdd
    refine wpAny_holding ?_
    refine wpAny_bind ((PySem.strKind prog w).pyHash (k := sig a i) (strKind_is _ _ _ _) ?_)
    have hu := unlike_le a i
    refine wpAny_setAddHashed_of (knd := PySem.strKind prog w) (s := { s' with toks := s'.toks + 1 }) (strKind_is _ _ _ _) rfl (show s'.heap.SetOf _ _ _ _ from keepS hm hS) (by unfold scanBound; omega) fun h' hsb hS2 => ?_
    refine wpAny_pure ⟨plainId_quiet PyProof.Rows.F.plain_set_update_loop _, ih (i + 1) _ (by omega) hlt ?_ hS2 fun s'' hm'' hS'' => ?_⟩
    · obtain ⟨o, ho, r⟩ := hst'
      exact ⟨o, (hsb.2 I (Ne.symm hSI)).trans ho, r⟩
    · refine hR s'' (Moved.trans (fun _ _ _ x y => y.trans x) ((hm.mono sub).then_heap (Nat.le_succ _) fun b o hb e => ?_) hm'') hS''
      exact (hsb.2 b (fun h => hb (by rw [h]; exact List.mem_cons_self))).trans e
end

section
variable {prog : Program} {w : World} {A : Around} {E : Value → Shared → Prop} {s : Shared}
theorem sub_str_set : isSubtype (.type "str") (.type "set") = pure false := by rw [isSubtype_type]; kernel_rfl
theorem sub_str_frozenset : isSubtype (.type "str") (.type "frozenset") = pure false := by rw [isSubtype_type]; kernel_rfl
theorem call_set_text {a : Str} {t : Tok} {Q : Value → Shared → Prop} (hh : A.handled = none) (hm : a.cps.size ≤ 100)
    (h : ∀ (h' : Heap) (tk : Nat), h'.SetOf (PySem.strKind prog w) s.heap.objs.size (seenS a a.cps.size) (unlike a a.cps.size) →
      (∀ b o, b < s.heap.objs.size → s.heap.get? b = some o → h'.get? b = some o) → Q (.ref s.heap.objs.size) { s with heap := h', toks := tk }) :
    wpAny (model prog w) A (call (.type "set") [.str a t]) Q E s := by
  obtain ⟨c, tl, hmro⟩ := PySem.F.called_set.mro
  have made := PySem.F.called_set.made
  have ofT := PySem.F.called_set.sub
  refine wpAny_call (codeAny_of_tree ?_)
  show wpAny _ _ (callAny (.type "set") _) _ _ _
  refine wpAny_pure ⟨Code.quiet_builtin _ (by decide +kernel), codeAny_builtin PySem.F.entry_type_call ?_⟩
  rw [Around.under_plain (weight_type_call_type "set" [.str a t] []) rfl]
  have notT := PySem.F.called_set.notType
  have can := PySem.F.called_set.canCreate
  have chk := PySem.F.typeCall_set_1 (.str a t)
  repeat (any_goals (first | assumption | wp_step))
  refine codeAny_mono (code_set_new_1 (.str a t) (E := E) (Q₁ := fun obj s₁ => ∃ led : Bool, obj = .ref s.heap.objs.size ∧ s₁ = { s with heap := s.heap.push { cls := .type "set", dict := none, data := .set #[] 0 (.fresh 0 0 led) } }) fun led => ⟨led, rfl, rfl⟩) fun r s₁ hr => ?_
  cases r with
  | error e => exact hr
  | ok fl =>
    cases fl with
    | ret obj =>
      obtain ⟨led, rfl, rfl⟩ := hr
      generalize hob : ({ cls := .type "set", dict := none, data := .set #[] 0 (.fresh 0 0 led) } : Obj) = ob
      have at0 : (s.heap.push ob).get? s.heap.objs.size = some ob := Heap.get?_push_size _ (by rw [← hob]; rfl)
      have ty0 : Shared.TypeIs { s with heap := s.heap.push ob } (.ref s.heap.objs.size) "set" := ⟨_, at0, by rw [← hob]⟩
      have look := PySem.F.called_set.init.lookup
      have bnd := PySem.F.called_set.init.bind (.ref s.heap.objs.size)
      repeat (any_goals (first | assumption | wp_step))
      refine codeAny_mono (codeAny_call_builtin (R := wants (fun r s₂ => r = .none ∧ ∃ h' tk, s₂ = { s with heap := h', toks := tk } ∧
          h'.SetOf (PySem.strKind prog w) s.heap.objs.size (seenS a a.cps.size) (unlike a a.cps.size) ∧
          (∀ b o, b < s.heap.objs.size → s.heap.get? b = some o → h'.get? b = some o)) E) PySem.F.called_set.init.plain PySem.F.entry_set_init (check_set_init_1 ty0 ?_)) fun r₂ s₂ hr₂ => ?_
      · have s1 := sub_str_set
        have s2 := sub_str_frozenset
        have nd : (Value.type "str" == Value.type "dict") = false := by decide
        subst hob
        unfold Builtin.«set.__init__» noKeywords Builtin.Frozenset.updateFrom
        generalize hPI : pyIter = PI
        wp_walk
        subst hPI
        generalize hob : ({ cls := .type "set", dict := none, data := .set #[] 0 (.fresh 0 0 led) } : Obj) = ob at at0 ty0 ⊢
        refine wpAny_pyIter_strU ?_
        refine wpAny_bind (wpAny_runValue ?_)
        have hh3 : A.in1.in1.in1.handled = none := by simp [hh]
        have hIe : (s.heap.push ob).objs.size = s.heap.objs.size + 1 := Heap.size_push ..
        have W : Walks prog w A.in1.in1.in1 (s.heap.push ob).objs.size [(s.heap.push ob).objs.size] [(s.heap.push ob).objs.size] a.cps.size (SignAt a) (fun i h => h.IsStrIter (s.heap.push ob).objs.size (strIterType a) a t i) := by
          by_cases ha : strIterType a = "str_ascii_iterator"
          · rw [ha]; exact Walks.strAscii hh3 _ a t
          · have : strIterType a = "str_iterator" := by
              unfold strIterType at ha ⊢
              split
              · rename_i h; rw [if_pos h] at ha; exact absurd rfl ha
              · rfl
            rw [this]; exact Walks.strWide hh3 _ a t
        refine set_turns W.toS (by rw [hIe]; exact Nat.ne_of_lt (Nat.lt_succ_self _)) hm (a.cps.size - 0) 0 _ rfl (Nat.zero_le _) ⟨_, Heap.get?_push_size _ rfl, rfl, rfl⟩ ?hS0 ?hR
        case hS0 =>
          have at1 : ((s.heap.push ob).push { cls := .type (strIterType a), data := .fields #[.str a t, .int 0 0] }).get? s.heap.objs.size = some ob := Heap.get?_push_of_some _ at0
          subst hob
          exact PyProof.Rows.SetOf_congr ((PyProof.Rows.setObjOf_fresh (knd := PySem.strKind prog w) led).setOf at1 (by unfold scanBound; omega)) (fun _ => rfl) rfl
        case hR =>
          intro s' hm hS'
          obtain ⟨h', g', d', tk', os'⟩ := s'
          obtain rfl : g' = s.gens := hm.gens
          obtain rfl : d' = s.drawn := hm.drawn
          obtain rfl : os' = s.os := hm.os
          show wpAny _ _ _ _ _ _
          refine wpAny_pure ?_
          show wpAny _ _ (ret Value.none) _ _ _
          refine wpAny_pure ⟨rfl, h', tk', rfl, hS', fun b o hb e => ?_⟩
          refine hm.heap b o (fun hmem => ?_) (Heap.get?_push_of_some _ (Heap.get?_push_of_some _ e))
          rcases List.mem_cons.mp hmem with z | z
          · exact absurd hb (by rw [z]; exact Nat.lt_irrefl _)
          · rw [List.mem_singleton.mp z, hIe] at hb
            exact absurd (Nat.lt_of_succ_lt hb) (Nat.lt_irrefl _)
      · cases r₂ with
        | error e => exact hr₂
        | ok fl₂ =>
          cases fl₂ with
          | ret r =>
            obtain ⟨rfl, h', tk, rfl, hS', hk'⟩ := hr₂
            repeat (any_goals (first | assumption | wp_step))
            exact h _ _ hS' hk'
          | _ => exact hr₂.elim
    | _ => exact hr.elim
end
section
variable {X : Cx}
def tLenSetT (ta : TE) : TE := fun σ H Q => ta σ H fun x H1 => ∃ a : Str, x = .str a ∧ a.cps.size ≤ 100 ∧ Q (.int (unlike a a.cps.size : Nat)) H1
theorem pe_lenSetT {a : Expr} {ta : TE} {p p2 q pos : Pos} (hc : X.calm = true) (hg : Gl X "len") (hm : X.mg "len" = none) (hg2 : Gl X "set") (hm2 : X.mg "set" = none) (ha : PE X a ta)
    (na : starEach [a] X.env = (false, eval a X.env) :: starEach [] X.env := by rfl) : PE X (.Call (.Name "len" p) [.Call (.Name "set" p2) [a] [] q] [] pos) (tLenSetT ta) := by
  refine ⟨fun pins s σ H Q I h => ?_⟩
  refine Call_ (ld_blt I hg hm boot_len ?_)
  refine PyProof.Rows.callWith_builtin1 (PyProof.Rows.args_cons ?_ rfl) rfl rfl
  refine Call_ (ld_blt I hg2 hm2 boot_set ?_)
  refine PyProof.Rows.callWith_type1 (PyProof.Rows.args_cons (thn (ha.run pins s σ H _ I h) fun v s1 ⟨x, H1, I1, r1, a, ea, hz, q1⟩ => PyProof.Rows.args_nil ?_) na) na rfl
  subst ea
  obtain ⟨t, rfl⟩ := r1
  refine call_set_text (I1.ok.hd hc) hz fun h' tk hS hk => ?_
  refine PyProof.Rows.args_nil ?_
  obtain ⟨o, es, ep, tb, ho, hex, hd, _, _, _, hf, hn⟩ := hS
  have I2 : Inv X pins σ H1 { s1 with heap := h', toks := tk } := I1.kept fun b o e => hk b o (Heap.lt_size e) e
  have hu := unlike_le a a.cps.size
  refine call_len_set ho hex hd hf (by rw [hn] <;> omega) ⟨.int _, H1, I2.tok _, ⟨_, by rw [hn]⟩, q1⟩
end
end GE
set_option Elab.async false
set_option linter.all false
set_option maxRecDepth 100000
/-! patterns, and which stretches of a text fit them -/
namespace Bo
open PySem L2
inductive Pat where
  | none | empty
  | sign (c : Nat)
  | row (ps : List Pat) | or (ps : List Pat) | and (ps : List Pat)
  | many (p : Pat) | not (p : Pat)
mutual
def Pat.dep : Pat → Nat
  | .row ps => depL ps + 1
  | .or ps => depL ps + 1
  | .and ps => depL ps + 1
  | .many p => p.dep + 1
  | .not p => p.dep + 1
  | _ => 1
def depL : List Pat → Nat
  | [] => 0
  | p :: ps => max p.dep (depL ps)
end
mutual
def Pat.size : Pat → Nat
  | .row ps => sizeL ps + 1
  | .or ps => sizeL ps + 1
  | .and ps => sizeL ps + 1
  | .many p => p.size + 1
  | .not p => p.size + 1
  | _ => 1
def sizeL : List Pat → Nat
  | [] => 0
  | p :: ps => p.size + sizeL ps
end
mutual
theorem dep_le_size : ∀ p : Pat, p.dep ≤ p.size
  | .row ps => Nat.succ_le_succ (depL_le_size ps)
  | .or ps => Nat.succ_le_succ (depL_le_size ps)
  | .and ps => Nat.succ_le_succ (depL_le_size ps)
  | .many p => Nat.succ_le_succ (dep_le_size p)
  | .not p => Nat.succ_le_succ (dep_le_size p)
  | .none => Nat.le_refl _
  | .empty => Nat.le_refl _
  | .sign _ => Nat.le_refl _
theorem depL_le_size : ∀ ps : List Pat, depL ps ≤ sizeL ps
  | [] => Nat.le_refl _
  | p :: ps => Nat.max_le.mpr ⟨Nat.le_trans (dep_le_size p) (Nat.le_add_right _ _), Nat.le_trans (depL_le_size ps) (Nat.le_add_left _ _)⟩
end
theorem dep_pos (p : Pat) : 1 ≤ p.dep := by cases p <;> simp [Pat.dep]
theorem size_pos (p : Pat) : 1 ≤ p.size := by cases p <;> simp [Pat.size]
theorem dep_mem {p : Pat} : ∀ {ps : List Pat}, p ∈ ps → p.dep ≤ depL ps
  | q :: ps, h => by
    rcases List.mem_cons.mp h with e | h
    · rw [e]; exact Nat.le_max_left _ _
    · exact Nat.le_trans (dep_mem h) (Nat.le_max_right _ _)
/-- from i to j by steps of R -/
inductive Star (R : Nat → Nat → Prop) : Nat → Nat → Prop
  | refl (i : Nat) : Star R i i
  | step {i j k : Nat} : R i j → Star R j k → Star R i k
theorem Star.trans {R : Nat → Nat → Prop} {i j k : Nat} (a : Star R i j) (b : Star R j k) : Star R i k := by
  induction a with
  | refl => exact b
  | step h _ ih => exact .step h (ih b)
theorem Star.snoc {R : Nat → Nat → Prop} {i j k : Nat} (a : Star R i j) (b : R j k) : Star R i k := a.trans (.step b (.refl _))
mutual
/-- the stretch of t from i to j fits the pattern -/
def M (t : List Nat) : Pat → Nat → Nat → Prop
  | .none => fun _ _ => False
  | .empty => fun i j => i = j
  | .sign c => fun i j => t[i]? = some c ∧ j = i + 1
  | .row ps => fun i j => MRow t ps i j
  | .or ps => fun i j => MOr t ps i j
  | .and ps => fun i j => i ≤ j ∧ j ≤ t.length ∧ MAnd t ps i j
  | .many p => fun i j => Star (fun a b => M t p a b) i j
  | .not p => fun i j => i ≤ j ∧ j ≤ t.length ∧ ¬ M t p i j
def MRow (t : List Nat) : List Pat → Nat → Nat → Prop
  | [] => fun i j => i = j
  | p :: ps => fun i j => ∃ k, M t p i k ∧ MRow t ps k j
def MOr (t : List Nat) : List Pat → Nat → Nat → Prop
  | [] => fun _ _ => False
  | p :: ps => fun i j => M t p i j ∨ MOr t ps i j
def MAnd (t : List Nat) : List Pat → Nat → Nat → Prop
  | [] => fun _ _ => True
  | p :: ps => fun i j => M t p i j ∧ MAnd t ps i j
end
theorem star_bound {R : Nat → Nat → Prop} {n : Nat} (h : ∀ i j, i ≤ n → R i j → i ≤ j ∧ j ≤ n) {i j : Nat} (s : Star R i j) : i ≤ n → i ≤ j ∧ j ≤ n := by
  induction s with
  | refl => intro hi; exact ⟨Nat.le_refl _, hi⟩
  | step r _ ih =>
    intro hi
    obtain ⟨h1, h2⟩ := h _ _ hi r
    obtain ⟨h3, h4⟩ := ih h2
    exact ⟨Nat.le_trans h1 h3, h4⟩
mutual
theorem M_bound (t : List Nat) : ∀ (p : Pat) (i j : Nat), i ≤ t.length → M t p i j → i ≤ j ∧ j ≤ t.length
  | .none, i, j, hi, h => by simp [M] at h
  | .empty, i, j, hi, h => by
    have h : i = j := h
    subst h; exact ⟨Nat.le_refl _, hi⟩
  | .sign c, i, j, hi, h => by
    obtain ⟨h1, h2⟩ : t[i]? = some c ∧ j = i + 1 := h
    have := (List.getElem?_eq_some_iff.mp h1).1
    omega
  | .row ps, i, j, hi, h => MRow_bound t ps i j hi h
  | .or ps, i, j, hi, h => MOr_bound t ps i j hi h
  | .and ps, i, j, hi, h => ⟨h.1, h.2.1⟩
  | .many p, i, j, hi, h => star_bound (R := fun a b => M t p a b) (fun a b ha hab => M_bound t p a b ha hab) h hi
  | .not p, i, j, hi, h => ⟨h.1, h.2.1⟩
theorem MRow_bound (t : List Nat) : ∀ (ps : List Pat) (i j : Nat), i ≤ t.length → MRow t ps i j → i ≤ j ∧ j ≤ t.length
  | [], i, j, hi, h => by
    have h : i = j := h
    subst h; exact ⟨Nat.le_refl _, hi⟩
  | p :: ps, i, j, hi, h => by
    obtain ⟨k, h1, h2⟩ := h
    obtain ⟨a, b⟩ := M_bound t p i k hi h1
    obtain ⟨c, d⟩ := MRow_bound t ps k j b h2
    exact ⟨Nat.le_trans a c, d⟩
theorem MOr_bound (t : List Nat) : ∀ (ps : List Pat) (i j : Nat), i ≤ t.length → MOr t ps i j → i ≤ j ∧ j ≤ t.length
  | [], i, j, hi, h => by simp [MOr] at h
  | p :: ps, i, j, hi, h => by
    rcases h with h | h
    · exact M_bound t p i j hi h
    · exact MOr_bound t ps i j hi h
end
mutual
/-- the value stands for the pattern -/
def PatAt (H : Hp) : Pat → V → Prop
  | .none => fun v => ∃ a, v = .ref a ∧ H a = some (.tup [.str "none"])
  | .empty => fun v => ∃ a, v = .ref a ∧ H a = some (.tup [.str "empty"])
  | .sign c => fun v => ∃ a, v = .ref a ∧ H a = some (.tup [.str "sign", .str ⟨#[c]⟩])
  | .row ps => fun v => ∃ a b vs, v = .ref a ∧ H a = some (.tup [.str "row", .ref b]) ∧ H b = some (.tup vs) ∧ PatsAt H ps vs
  | .or ps => fun v => ∃ a b vs, v = .ref a ∧ H a = some (.tup [.str "or", .ref b]) ∧ H b = some (.tup vs) ∧ PatsAt H ps vs
  | .and ps => fun v => ∃ a b vs, v = .ref a ∧ H a = some (.tup [.str "and", .ref b]) ∧ H b = some (.tup vs) ∧ PatsAt H ps vs
  | .many p => fun v => ∃ a u, v = .ref a ∧ H a = some (.tup [.str "many", u]) ∧ PatAt H p u
  | .not p => fun v => ∃ a u, v = .ref a ∧ H a = some (.tup [.str "not", u]) ∧ PatAt H p u
def PatsAt (H : Hp) : List Pat → List V → Prop
  | [] => fun vs => vs = []
  | p :: ps => fun vs => ∃ v r, vs = v :: r ∧ PatAt H p v ∧ PatsAt H ps r
end
/-- all but the tables of code stays; the tables may grow -/
structure Ext (H H' : Hp) : Prop where
  keep : ∀ b o, H b = some o → (∀ ps, o ≠ .tbl ps) → H' b = some o
  tab : ∀ b, GxR.TabG H b → GxR.TabG H' b
  there : ∀ b o, H b = some o → ∃ o', H' b = some o'
theorem Ext.refl (H : Hp) : Ext H H := ⟨fun _ _ h _ => h, fun _ h => h, fun _ o h => ⟨o, h⟩⟩
theorem Ext.trans {H H1 H2 : Hp} (a : Ext H H1) (b : Ext H1 H2) : Ext H H2 := ⟨fun c o h n => b.keep c o (a.keep c o h n) n, fun c h => b.tab c (a.tab c h), fun c o h => let ⟨o', h'⟩ := a.there c o h; b.there c o' h'⟩
theorem Ext.new {H : Hp} {p : Addr} {o : HO} (h : H p = Option.none) : Ext H (upd H p o) :=
  ⟨fun b u q _ => by rw [upd_ne (ne_of_none q h)]; exact q, fun b ⟨ps, q, t⟩ => ⟨ps, by rw [upd_ne (ne_of_none q h)]; exact q, t⟩, fun b u q => ⟨u, by rw [upd_ne (ne_of_none q h)]; exact q⟩⟩
/-- a list of ours is written -/
theorem Ext.wr {H0 H : Hp} {p : Addr} {o : HO} (e : Ext H0 H) (h : H0 p = Option.none) : Ext H0 (upd H p o) :=
  ⟨fun b u q n => by rw [upd_ne (ne_of_none q h)]; exact e.keep b u q n, fun b q => by
    obtain ⟨ps, z, _⟩ := id q
    obtain ⟨ps', z', t'⟩ := e.tab b q
    exact ⟨ps', by rw [upd_ne (ne_of_none z h)]; exact z', t'⟩, fun b u q => let ⟨u', z⟩ := e.there b u q; ⟨u', by rw [upd_ne (ne_of_none q h)]; exact z⟩⟩
theorem Ext.tabbed {P : Addr} {H H' : Hp} (h0 : GxR.TabG H P) (h : GxR.Tabbed P H H') : Ext H H' :=
  ⟨fun b o q n => by
    by_cases e : b = P
    · subst e
      obtain ⟨ps, z, _⟩ := h0
      rw [q] at z
      exact absurd (Option.some.inj z) (n ps)
    · rw [h.2 b e]; exact q, fun b q => by
    by_cases e : b = P
    · rw [e]; exact h.1
    · obtain ⟨ps, z, t⟩ := q
      exact ⟨ps, by rw [h.2 b e]; exact z, t⟩, fun b o q => by
    by_cases e : b = P
    · obtain ⟨ps, z, _⟩ := h.1
      exact ⟨_, by rw [e]; exact z⟩
    · exact ⟨o, by rw [h.2 b e]; exact q⟩⟩
theorem Ext.free {H H' : Hp} (e : Ext H H') {l : Addr} (h : H' l = Option.none) : H l = Option.none := by
  cases q : H l with
  | none => rfl
  | some o =>
    obtain ⟨o', z⟩ := e.there l o q
    rw [h] at z
    cases z
theorem Ext.tup {H H' : Hp} (e : Ext H H') {a : Addr} {xs : List V} (h : H a = some (.tup xs)) : H' a = some (.tup xs) := e.keep a _ h (fun ps z => by cases z)
theorem Ext.lst {H H' : Hp} (e : Ext H H') {a : Addr} {xs : List V} (h : H a = some (.lst xs)) : H' a = some (.lst xs) := e.keep a _ h (fun ps z => by cases z)
theorem Ext.sqL {K : PySem.W.Frag} {H H' : Hp} (e : Ext H H') {a : Addr} {xs : List V} (h : SqL K H a xs) : SqL K H' a xs := by
  rcases h with (h | ⟨o, h⟩) | h
  · exact .inl (.inl (e.lst h))
  · exact .inl (.inr ⟨o, e.keep _ _ h (fun ps z => by cases z)⟩)
  · exact .inr h
mutual
theorem PatAt.ext {H H' : Hp} (e : Ext H H') : ∀ (p : Pat) (v : V), PatAt H p v → PatAt H' p v
  | .none, v, h => let ⟨a, h1, h2⟩ := h; ⟨a, h1, e.tup h2⟩
  | .empty, v, h => let ⟨a, h1, h2⟩ := h; ⟨a, h1, e.tup h2⟩
  | .sign c, v, h => let ⟨a, h1, h2⟩ := h; ⟨a, h1, e.tup h2⟩
  | .row ps, v, h => let ⟨a, b, vs, h1, h2, h3, h4⟩ := h; ⟨a, b, vs, h1, e.tup h2, e.tup h3, PatsAt.ext e ps vs h4⟩
  | .or ps, v, h => let ⟨a, b, vs, h1, h2, h3, h4⟩ := h; ⟨a, b, vs, h1, e.tup h2, e.tup h3, PatsAt.ext e ps vs h4⟩
  | .and ps, v, h => let ⟨a, b, vs, h1, h2, h3, h4⟩ := h; ⟨a, b, vs, h1, e.tup h2, e.tup h3, PatsAt.ext e ps vs h4⟩
  | .many p, v, h => let ⟨a, u, h1, h2, h3⟩ := h; ⟨a, u, h1, e.tup h2, PatAt.ext e p u h3⟩
  | .not p, v, h => let ⟨a, u, h1, h2, h3⟩ := h; ⟨a, u, h1, e.tup h2, PatAt.ext e p u h3⟩
theorem PatsAt.ext {H H' : Hp} (e : Ext H H') : ∀ (ps : List Pat) (vs : List V), PatsAt H ps vs → PatsAt H' ps vs
  | [], vs, h => h
  | p :: ps, vs, h => let ⟨v, r, h1, h2, h3⟩ := h; ⟨v, r, h1, PatAt.ext e p v h2, PatsAt.ext e ps r h3⟩
end
theorem PatsAt.len {H : Hp} : ∀ {ps : List Pat} {vs : List V}, PatsAt H ps vs → vs.length = ps.length
  | [], _, h => by rw [show _ = [] from h]; rfl
  | p :: ps, _, ⟨v, r, e, _, h⟩ => by rw [e]; show r.length + 1 = ps.length + 1; rw [h.len]
theorem PatsAt.get {H : Hp} : ∀ {ps : List Pat} {vs : List V} {i : Nat} {v : V}, PatsAt H ps vs → vs[i]? = some v → ∃ p, ps[i]? = some p ∧ PatAt H p v
  | [], _, i, v, h, e => by rw [show _ = [] from h] at e; simp at e
  | p :: ps, _, 0, v, ⟨u, r, e1, h1, _⟩, e => by rw [e1] at e; simp at e; exact ⟨p, rfl, e ▸ h1⟩
  | p :: ps, _, i + 1, v, ⟨u, r, e1, _, h2⟩, e => by
    rw [e1] at e
    obtain ⟨q, h3, h4⟩ := PatsAt.get (i := i) h2 (by simpa using e)
    exact ⟨q, by simpa using h3, h4⟩
mutual
def nullb : Pat → Bool
  | .empty => true
  | .many _ => true
  | .row ps => nullAll ps
  | .and ps => nullAll ps
  | .or ps => nullAny ps
  | .not p => !nullb p
  | _ => false
def nullAll : List Pat → Bool
  | [] => true
  | p :: ps => nullb p && nullAll ps
def nullAny : List Pat → Bool
  | [] => false
  | p :: ps => nullb p || nullAny ps
end
theorem nullAll_eq : ∀ ps : List Pat, nullAll ps = ps.all nullb
  | [] => rfl
  | p :: ps => by rw [nullAll, List.all_cons, nullAll_eq ps]
theorem nullAny_eq : ∀ ps : List Pat, nullAny ps = ps.any nullb
  | [] => rfl
  | p :: ps => by rw [nullAny, List.any_cons, nullAny_eq ps]
theorem iffT {c : Bool} {A B : Prop} (h : c = true) (a : A) : if c = true then A else B := by rw [if_pos h]; exact a
theorem iffF {c : Bool} {A B : Prop} (h : c = false) (b : B) : if c = true then A else B := by rw [if_neg (by rw [h]; exact Bool.false_ne_true)]; exact b
end Bo
set_option Elab.async false
set_option linter.all false
set_option maxRecDepth 100000
set_option maxHeartbeats 4000000
/-! readings in short: a pattern's head, its tests -/
namespace Bo
open PySem PySem.Spec PyProof.Rows L2 GE
abbrev FnP (K : PySem.W.Frag) (x : Str) (st : Stmt) (f : Addr) (fd : FuncData) : Prop := FunD K x x (defArgs st) (defBody st) (defScope st) [] [] f fd
section
variable {P : Program} {w : World} {K : PySem.W.Frag} {mg : Str → Option Value} {base : Heap}
/-- FunD.ok where the code object is known -/
theorem okC {CX : CXT} {x qual : Str} {params : Arguments} {body : List Stmt} {scope : Scope} {dvs : List V} {kws : List (Str × V)} {f : Addr} {fd : FuncData} {N ps : List Str} {k : Nat} {sp : Sp} {c : Addr} (F : FunD K x qual params body scope dvs kws f fd) (hc : fd.code = .ref c) (S : FnScope N ps scope) (len : ∀ vs H Q E, sp vs H Q E → vs.length = ps.length)
    (hbody : ∀ (A : Around) (outer : List Env) (s : Shared) (H : Hp) (vs : List V) (Q : VK) (E : XK), Room k (A.deeper (envOfC qual scope s.heap.objs.size f (.ref c))) → sp vs H Q E →
      ∃ t, PSs (cxOf CX P w K mg base N qual scope f (.ref c) A outer s H E) body t ∧ t { nx := fun _ H' => Q .non H', rt := Q } (start N vs) H) : FnOk P w K mg base CX (k + 1) f fd ps sp := by
  obtain ⟨oc, od, dV, kV, doc, pm, an, cdv, ct, osl, e, lk, hcd, _, _⟩ := F.ex
  subst e
  obtain rfl : cdv = .ref c := hc
  exact fn_of lk hcd S len fun A outer s H vs Q E hr hsp => hbody A outer s H vs Q E hr hsp
/-- FunD.ok for a def that lets nothing out -/
theorem okD {x qual : Str} {params : Arguments} {body : List Stmt} {scope : Scope} {dvs : List V} {kws : List (Str × V)} {f : Addr} {fd : FuncData} {N ps : List Str} {k : Nat} {sp : Sp} (F : FunD K x qual params body scope dvs kws f fd) (S : FnScope N ps scope) (len : ∀ vs H Q E, sp vs H Q E → vs.length = ps.length)
    (hbody : ∀ (cdv : Value) (A : Around) (outer : List Env) (s : Shared) (H : Hp) (vs : List V) (Q : VK) (E : XK), Room k (A.deeper (envOfC qual scope s.heap.objs.size f cdv)) → sp vs H Q E →
      ∃ t, PSs (cxOf CX0 P w K mg base N qual scope f cdv A outer s H E).nox body t ∧ t { nx := fun _ H' => Q .non H', rt := Q } (start N vs) H) : FnOk P w K mg base CX0 (k + 1) f fd ps sp :=
  F.ok S len fun cdv A outer s H vs Q E hr h => let ⟨t, a, b⟩ := hbody cdv A outer s H vs Q E hr h; ⟨t, a.nox, b⟩
end
def Pat.kind : Pat → Str
  | .none => "none" | .empty => "empty" | .sign _ => "sign" | .row _ => "row" | .or _ => "or" | .and _ => "and" | .many _ => "many" | .not _ => "not"
theorem PatAt.hd {H : Hp} : ∀ {p : Pat} {v : V}, PatAt H p v → ∃ a xs, v = .ref a ∧ H a = some (.tup (.str p.kind :: xs))
  | .none, _, ⟨a, e, h⟩ => ⟨a, _, e, h⟩
  | .empty, _, ⟨a, e, h⟩ => ⟨a, _, e, h⟩
  | .sign _, _, ⟨a, e, h⟩ => ⟨a, _, e, h⟩
  | .row _, _, ⟨a, b, vs, e, h, _⟩ => ⟨a, _, e, h⟩
  | .or _, _, ⟨a, b, vs, e, h, _⟩ => ⟨a, _, e, h⟩
  | .and _, _, ⟨a, b, vs, e, h, _⟩ => ⟨a, _, e, h⟩
  | .many _, _, ⟨a, u, e, h, _⟩ => ⟨a, _, e, h⟩
  | .not _, _, ⟨a, u, e, h, _⟩ => ⟨a, _, e, h⟩
section
variable {K : PySem.W.Frag} {σ : L2.St} {H : Hp} {a : Addr} {xs : List V} {v : V} {Q : VK} {D : Ends} {t u : TS}
/-- x[j], x a tuple in slot i -/
theorem r_ix {i : Nat} (j : Nat) (h0 : σ[i]? = some (some (.ref a))) (ha : H a = some (.tup xs)) (hx : xs[j]? = some v) (q : Q v H) : tOp (rIxT K) (tVar i) (tC (.int (j : Int))) σ H Q :=
  ⟨_, h0, a, xs, _, v, rfl, rfl, SqT.of ha, atI_nat hx, q⟩
theorem r_kind {i : Nat} {k z : Str} {Q : Bool → Hp → Prop} (h0 : σ[i]? = some (some (.ref a))) (ha : H a = some (.tup (.str k :: xs))) (q : Q (decide (k = z)) H) : tTest (tOp rEq (tOp (rIxT K) (tVar i) (tC (.int 0))) (tC (.str z))) σ H Q := by
  refine r_ix 0 h0 ha rfl ⟨rfl, _, rfl, ?_⟩
  have e : decide (V.str k = V.str z) = decide (k = z) := by rw [dec_str, Bool.beq_eq_decide_eq]
  rw [e]; exact q
theorem if_kT {i : Nat} {z : Str} (h0 : σ[i]? = some (some (.ref a))) (ha : H a = some (.tup (.str z :: xs))) (h : t D σ H) : tIfS (tTest (tOp rEq (tOp (rIxT K) (tVar i) (tC (.int 0))) (tC (.str z)))) t u D σ H :=
  r_kind h0 ha (iffT (decide_eq_true rfl) h)
theorem if_kF {i : Nat} {k z : Str} (h0 : σ[i]? = some (some (.ref a))) (ha : H a = some (.tup (.str k :: xs))) (n : k ≠ z) (h : u D σ H) : tIfS (tTest (tOp rEq (tOp (rIxT K) (tVar i) (tC (.int 0))) (tC (.str z)))) t u D σ H :=
  r_kind h0 ha (iffF (decide_eq_false n) h)
def tCs : List Str → TA
  | [] => tNil
  | z :: zs => tCons (tC (.str z)) (tCs zs)
theorem tCs_go : ∀ (zs : List Str) (Q : List V → Hp → Prop), Q (zs.map V.str) H → tCs zs σ H Q
  | [], Q, h => h
  | z :: zs, Q, h => tCs_go zs (fun ys H1 => Q (.str z :: ys) H1) h
theorem inV_str (k : Str) (zs : List Str) : inV (.str k) (zs.map V.str) = decide (k ∈ zs) := by
  unfold inV
  induction zs with
  | nil => rfl
  | cons z zs ih =>
    rw [List.map_cons, List.any_cons, ih]
    show (z == k || decide (k ∈ zs)) = decide (k ∈ z :: zs)
    rw [Bool.eq_iff_iff, Bool.or_eq_true, beq_iff_eq, decide_eq_true_eq, decide_eq_true_eq, List.mem_cons]
    exact ⟨fun h => h.elim (fun e => .inl e.symm) .inr, fun h => h.elim (fun e => .inl e.symm) .inr⟩
/-- x[0] in ("..", ..) -/
theorem r_in {i : Nat} {k : Str} (zs : List Str) (h0 : σ[i]? = some (some (.ref a))) (ha : H a = some (.tup (.str k :: xs))) (hz : zs.length ≤ 20) (q : ∀ p, H p = none → Q (.bl (decide (k ∈ zs))) (upd H p (.tup (zs.map V.str)))) :
    tOp (rIn K false) (tOp (rIxT K) (tVar i) (tC (.int 0))) (tTup (tCs zs)) σ H Q := by
  refine r_ix 0 h0 ha rfl (tCs_go zs _ ⟨?_, fun p np => ?_⟩)
  · rw [List.length_map]; exact Nat.le_of_lt (small1000 (by omega))
  · refine ⟨p, _, rfl, .inr (SqT.of upd_same), rfl, ?_, ?_⟩
    · rw [List.all_map, List.all_eq_true]; intro z _; rfl
    · rw [inV_str]; exact q p np
theorem if_inT {i : Nat} {k : Str} (zs : List Str) (h0 : σ[i]? = some (some (.ref a))) (ha : H a = some (.tup (.str k :: xs))) (hk : k ∈ zs) (h : ∀ p, H p = none → t D σ (upd H p (.tup (zs.map V.str)))) (hz : zs.length ≤ 20 := by decide) :
    tIfS (tTest (tOp (rIn K false) (tOp (rIxT K) (tVar i) (tC (.int 0))) (tTup (tCs zs)))) t u D σ H :=
  r_in zs h0 ha hz fun p np => ⟨_, rfl, iffT (decide_eq_true hk) (h p np)⟩
theorem if_inF {i : Nat} {k : Str} (zs : List Str) (h0 : σ[i]? = some (some (.ref a))) (ha : H a = some (.tup (.str k :: xs))) (hk : k ∉ zs) (h : ∀ p, H p = none → u D σ (upd H p (.tup (zs.map V.str)))) (hz : zs.length ≤ 20 := by decide) :
    tIfS (tTest (tOp (rIn K false) (tOp (rIxT K) (tVar i) (tC (.int 0))) (tTup (tCs zs)))) t u D σ H :=
  r_in zs h0 ha hz fun p np => ⟨_, rfl, iffF (decide_eq_false hk) (h p np)⟩
theorem t_seq {D : Ends} (h : t { D with nx := u D } σ H) : tSeq t u D σ H := h
theorem t_setC {v : V} {i : Nat} {D : Ends} (h : u D (σ.set i (some v)) H) : tSeq (tAsg (tC v) (gName i)) u D σ H := h
theorem t_set {te : TE} {i : Nat} {D : Ends} (h : te σ H fun x H1 => u D (σ.set i (some x)) H1) : tSeq (tAsg te (gName i)) u D σ H := h
/-- any, all over a tuple -/
theorem quant_tup {stopv : Bool} {T a : Addr} {xs : List V} {te : TE} {σ : L2.St} {H1 : Hp} {Q : VK} (h0 : GxR.TabG H1 T) (ha : H1 a = some (.tup xs)) (Pv : Nat → Hp → Prop) (p0 : ∀ H, Ext H1 H → Pv 0 H) (hl : ∀ i H, Pv i H → H a = some (.tup xs))
    (hs : ∀ i v H, xs[i]? = some v → Pv i H → te (σ ++ [some v]) H fun y H3 => ∃ b, y = .bl b ∧ if b = stopv then Q (.bl stopv) H3 else Pv (i + 1) H3) (hd : ∀ H, Pv xs.length H → Q (.bl (!stopv)) H) :
    GxR.TabG H1 T ∧ ∀ H2, GxR.Tabbed T H1 H2 → ∃ W : Nat → Nat → Hp → Prop, (∃ m, W 0 m H2) ∧ ∀ i m H, W i m H →
      ((Itt K a).stop i H ∧ Q (.bl (!stopv)) H) ∨ ((Itt K a).go i H ∧ ∃ Nx : Hp → Prop, (∀ H', Nx H' → ∃ m', m' < m ∧ W (i + 1) m' H') ∧ ∀ v H', (Itt K a).yld i H v H' → te (σ ++ [some v]) H' fun y H3 => ∃ b, y = .bl b ∧ if b = stopv then Q (.bl stopv) H3 else Nx H3) := by
  refine ⟨h0, fun H2 hT => ⟨fun i m H => i ≤ xs.length ∧ m = xs.length - i ∧ Pv i H, ⟨xs.length, Nat.zero_le _, rfl, p0 H2 (Ext.tabbed h0 hT)⟩, ?_⟩⟩
  rintro i m H ⟨hi, rfl, p⟩
  have q := hl i H p
  by_cases hlt : i < xs.length
  · refine .inr ⟨⟨xs, xs[i], SqT.of q, by simp [hlt]⟩, Pv (i + 1), fun H' p' => ⟨xs.length - (i + 1), by omega, hlt, rfl, p'⟩, fun v H' y => ?_⟩
    obtain ⟨e, y⟩ := y
    subst e
    exact hs i v H' (y xs (SqT.of q)) p
  · have e : i = xs.length := by omega
    subst e
    exact .inl ⟨⟨xs, SqT.of q, Nat.le_refl _⟩, hd H p⟩
end
end Bo
set_option Elab.async false
set_option linter.all false
set_option maxRecDepth 100000
/-! sets of places as numbers -/
namespace Bo
open PySem L2
theorem tb_add : ∀ (p y : Nat), y.testBit p = false → ∀ j, (y + 2 ^ p).testBit j = (y.testBit j || decide (j = p))
  | 0, y, h, j => by
    have e : y % 2 = 0 := by
      rw [Nat.testBit_zero] at h
      have := of_decide_eq_false h
      omega
    cases j with
    | zero => rw [Nat.testBit_zero, Nat.testBit_zero]; simp; omega
    | succ j =>
      rw [Nat.testBit_succ, Nat.testBit_succ]
      have : (y + 2 ^ 0) / 2 = y / 2 := by rw [Nat.pow_zero]; omega
      rw [this]; simp
  | p + 1, y, h, j => by
    rw [Nat.testBit_succ] at h
    cases j with
    | zero =>
      rw [Nat.testBit_zero, Nat.testBit_zero]
      have : (y + 2 ^ (p + 1)) % 2 = y % 2 := by rw [Nat.pow_succ]; omega
      rw [this]; simp
    | succ j =>
      rw [Nat.testBit_succ, Nat.testBit_succ]
      have : (y + 2 ^ (p + 1)) / 2 = y / 2 + 2 ^ p := by rw [Nat.pow_succ]; omega
      rw [this, tb_add p (y / 2) h j]
      simp
theorem tb_sub {x p : Nat} (h : x.testBit p = true) (j : Nat) : (x - 2 ^ p).testBit j = (x.testBit j && decide (j ≠ p)) := by
  have hx : 2 ^ p ≤ x := Nat.ge_two_pow_of_testBit h
  have e : x = (x - 2 ^ p) + 2 ^ p := by omega
  have h0 : (x - 2 ^ p).testBit p = false := by
    have := Nat.testBit_two_pow_add_eq (x - 2 ^ p) p
    rw [Nat.add_comm, ← e, h] at this
    cases hc : (x - 2 ^ p).testBit p with
    | false => rfl
    | true => rw [hc] at this; cases this
  have key := tb_add p (x - 2 ^ p) h0 j
  rw [← e] at key
  rw [key]
  by_cases ej : j = p
  · subst ej; rw [h0]; simp
  · simp [ej]
/-- x & ~(1 << p) -/
def clr (x p : Nat) : Nat := if x.testBit p then x - 2 ^ p else x
theorem tb_clr (x p j : Nat) : (clr x p).testBit j = (x.testBit j && decide (j ≠ p)) := by
  unfold clr
  split
  · rename_i h; exact tb_sub h j
  · rename_i h
    by_cases e : j = p
    · subst e; simp at h; simp [h]
    · simp [e]
theorem and_not_bit (x p : Nat) : Builtin.bitAnd (x : Int) (Builtin.bitNot (1 * 2 ^ p)) = (clr x p : Int) := by
  have h2 : (0 : Int) ≤ 2 ^ p := two_pow_nn p
  unfold Builtin.bitAnd
  have e1 : decide (0 ≤ (x : Int)) = true := decide_eq_true (Int.natCast_nonneg x)
  have e2 : decide (0 ≤ Builtin.bitNot (1 * 2 ^ p)) = false := by
    apply decide_eq_false
    unfold Builtin.bitNot
    omega
  rw [e1, e2]
  show (x : Int) - (((x : Int).toNat &&& (Builtin.bitNot (Builtin.bitNot (1 * 2 ^ p))).toNat : Nat) : Int) = _
  have e3 : (Builtin.bitNot (Builtin.bitNot (1 * 2 ^ p))).toNat = 2 ^ p := by
    unfold Builtin.bitNot
    have : (-(-(1 * 2 ^ p : Int) - 1) - 1) = ((2 ^ p : Nat) : Int) := by rw [Int.natCast_pow]; simp; omega
    rw [this]; rfl
  have e4 : x &&& 2 ^ p = (x.testBit p).toNat * 2 ^ p := Nat.eq_of_testBit_eq fun i => by
    rw [Nat.testBit_and, Nat.testBit_two_pow]
    by_cases e : p = i
    · subst e
      cases hx : x.testBit p with
      | true => simp [Nat.testBit_two_pow_self]
      | false => simp
    · cases hx : x.testBit p with
      | true => simp [e, Nat.testBit_two_pow_of_ne e]
      | false => simp [e]
  rw [e3, Int.toNat_natCast, e4]
  unfold clr
  cases h : x.testBit p with
  | true =>
    have := Nat.ge_two_pow_of_testBit h
    simp only [Bool.toNat_true, if_true, Nat.one_mul]
    omega
  | false => simp
theorem or_nat (a b : Nat) : Builtin.bitOr (a : Int) (b : Int) = ((a ||| b : Nat) : Int) := by rw [bitOr_nn (Int.natCast_nonneg _) (Int.natCast_nonneg _)]; simp
theorem xor_nat (a b : Nat) : Builtin.bitXor (a : Int) (b : Int) = ((a ^^^ b : Nat) : Int) := by rw [Bits.bitXor_pp (Int.natCast_nonneg _) (Int.natCast_nonneg _)]; simp
theorem and_nat (a b : Nat) : Builtin.bitAnd (a : Int) (b : Int) = ((a &&& b : Nat) : Int) := by
  unfold Builtin.bitAnd
  rw [decide_eq_true (Int.natCast_nonneg a), decide_eq_true (Int.natCast_nonneg b)]
  show (((a : Int).toNat &&& (b : Int).toNat : Nat) : Int) = _
  rw [Int.toNat_natCast, Int.toNat_natCast]
theorem shl_nat (a p : Nat) : (a : Int) * 2 ^ ((p : Int)).toNat = ((a * 2 ^ p : Nat) : Int) := by
  rw [Int.toNat_natCast, Int.natCast_mul, Int.natCast_pow]; rfl
theorem one_shl (p : Nat) : (1 : Int) * 2 ^ ((p : Int)).toNat = ((2 ^ p : Nat) : Int) := by
  rw [Int.toNat_natCast, Int.one_mul, Int.natCast_pow]; rfl
theorem xor_top_lt {m : Nat} (h : m ≠ 0) : m ^^^ 2 ^ m.log2 < m := by
  refine Nat.lt_of_lt_of_le (m := 2 ^ m.log2) ?_ (Nat.log2_self_le h)
  refine Nat.lt_pow_two_of_testBit _ fun i hi => ?_
  rw [Nat.testBit_xor, Nat.testBit_two_pow]
  by_cases e : m.log2 = i
  · subst e; rw [Nat.testBit_log2 h]; simp
  · have : m.testBit i = false := Nat.testBit_lt_two_pow (Nat.lt_of_lt_of_le Nat.lt_log2_self (Nat.pow_le_pow_right (by omega) (by omega)))
    rw [this]; simp [e]
theorem tb_xor_top {m : Nat} (h : m ≠ 0) (k : Nat) : (m ^^^ 2 ^ m.log2).testBit k = (m.testBit k && decide (k ≠ m.log2)) := by
  rw [Nat.testBit_xor, Nat.testBit_two_pow]
  by_cases e : m.log2 = k
  · subst e; rw [Nat.testBit_log2 h]; simp
  · have : ¬ k = m.log2 := fun z => e z.symm
    simp [e, this]
theorem bits_nat {m : Nat} (h : m ≠ 0) : ((Builtin.Int.intBits (m : Int) : Nat) : Int) - 1 = ((m.log2 : Nat) : Int) := by
  unfold Builtin.Int.intBits
  have : ((m : Int) == 0) = false := by simpa using h
  rw [this]
  simp
/-- the places where a stretch from i ends, for each i -/
def Rep (n : Nat) (R : Nat → Nat → Prop) (E : List Nat) : Prop := E.length = n + 1 ∧ ∀ i, i ≤ n → ∀ j, (E.getD i 0).testBit j = true ↔ R i j
/-- the number of the places that are led to from those of m -/
def Beh (E : List Nat) (m r : Nat) : Prop := ∀ j, r.testBit j = true ↔ ∃ k, m.testBit k = true ∧ (E.getD k 0).testBit j = true
theorem Beh.uniq {E : List Nat} {m r r' : Nat} (a : Beh E m r) (b : Beh E m r') : r = r' := Nat.eq_of_testBit_eq fun j => by rw [Bool.eq_iff_iff, a j, b j]
theorem lt_of_bits {x n : Nat} (h : ∀ j, x.testBit j = true → j < n) : x < 2 ^ n := Nat.lt_pow_two_of_testBit _ fun i hi => by
  cases e : x.testBit i with
  | false => rfl
  | true => have := h i e; omega
theorem bit_of_shift {x n : Nat} (h : x < 2 ^ (n + 1)) : (x / 2 ^ n = 1) ↔ x.testBit n = true := by
  rw [Nat.testBit_eq_decide_div_mod_eq, decide_eq_true_eq]
  have h9 : x / 2 ^ n < 2 := Nat.div_lt_of_lt_mul (by rw [Nat.pow_succ] at h; omega)
  generalize x / 2 ^ n = q at h9 ⊢
  omega
theorem star_iff {R : Nat → Nat → Prop} {i j : Nat} : Star R i j ↔ i = j ∨ ∃ k, k ≠ i ∧ R i k ∧ Star R k j := by
  constructor
  · intro h
    induction h with
    | refl => exact .inl rfl
    | @step a b c r s ih =>
      by_cases e : b = a
      · subst e; exact ih
      · exact .inr ⟨b, e, r, s⟩
  · rintro (rfl | ⟨k, _, r, s⟩)
    · exact .refl _
    · exact .step r s
theorem MRow_snoc (t : List Nat) (p : Pat) : ∀ (ps : List Pat) (i j : Nat), MRow t (ps ++ [p]) i j ↔ ∃ k, MRow t ps i k ∧ M t p k j
  | [], i, j => by
    show (∃ k, M t p i k ∧ k = j) ↔ ∃ k, i = k ∧ M t p k j
    exact ⟨fun ⟨k, h, e⟩ => ⟨i, rfl, e ▸ h⟩, fun ⟨k, e, h⟩ => ⟨j, e ▸ h, rfl⟩⟩
  | q :: ps, i, j => by
    show (∃ k, M t q i k ∧ MRow t (ps ++ [p]) k j) ↔ ∃ k, (∃ l, M t q i l ∧ MRow t ps l k) ∧ M t p k j
    constructor
    · rintro ⟨k, h, h2⟩
      obtain ⟨l, a, b⟩ := (MRow_snoc t p ps k j).mp h2
      exact ⟨l, ⟨k, h, a⟩, b⟩
    · rintro ⟨k, ⟨l, a, b⟩, c⟩
      exact ⟨l, a, (MRow_snoc t p ps l j).mpr ⟨k, b, c⟩⟩
theorem MOr_snoc (t : List Nat) (p : Pat) : ∀ (ps : List Pat) (i j : Nat), MOr t (ps ++ [p]) i j ↔ MOr t ps i j ∨ M t p i j
  | [], i, j => by show (M t p i j ∨ False) ↔ (False ∨ M t p i j); simp
  | q :: ps, i, j => by
    show (M t q i j ∨ MOr t (ps ++ [p]) i j) ↔ (M t q i j ∨ MOr t ps i j) ∨ M t p i j
    rw [MOr_snoc t p ps i j, or_assoc]
theorem MAnd_snoc (t : List Nat) (p : Pat) : ∀ (ps : List Pat) (i j : Nat), MAnd t (ps ++ [p]) i j ↔ MAnd t ps i j ∧ M t p i j
  | [], i, j => by show (M t p i j ∧ True) ↔ (True ∧ M t p i j); simp
  | q :: ps, i, j => by
    show (M t q i j ∧ MAnd t (ps ++ [p]) i j) ↔ (M t q i j ∧ MAnd t ps i j) ∧ M t p i j
    rw [MAnd_snoc t p ps i j, and_assoc]
theorem MAnd_mem {t : List Nat} {i j : Nat} : ∀ {ps : List Pat}, MAnd t ps i j ↔ ∀ p ∈ ps, M t p i j
  | [] => by show True ↔ _; simp
  | q :: ps => by
    show (M t q i j ∧ MAnd t ps i j) ↔ _
    rw [MAnd_mem (ps := ps)]; simp
theorem MOr_mem {t : List Nat} {i j : Nat} : ∀ {ps : List Pat}, MOr t ps i j ↔ ∃ p ∈ ps, M t p i j
  | [] => by show False ↔ _; simp
  | q :: ps => by
    show (M t q i j ∨ MOr t ps i j) ↔ _
    rw [MOr_mem (ps := ps)]; simp
theorem tb_between {N p : Nat} (h : p ≤ N) (j : Nat) : (2 ^ N - 2 ^ p).testBit j = (decide (p ≤ j) && decide (j < N)) := by
  have hp : 1 ≤ 2 ^ p := Nat.one_le_two_pow
  have hN : 2 ^ p ≤ 2 ^ N := Nat.pow_le_pow_right (by omega) h
  have e : 2 ^ N - 2 ^ p = 2 ^ N - ((2 ^ p - 1) + 1) := by omega
  rw [e, Nat.testBit_two_pow_sub_succ (by omega), Nat.testBit_two_pow_sub_one, Bool.and_comm]
  congr 1
  by_cases q : j < p <;> simp [q] <;> omega
end Bo
set_option Elab.async false
set_option linter.all false
set_option maxRecDepth 100000
set_option maxHeartbeats 4000000
/-! list comprehensions that put values in a row -/
namespace Bo
open PySem PySem.Spec PyProof.Rows L2 GE
abbrev nV (x : Nat) : V := V.int (x : Int)
/-- a new list at D holds the first i of some values; what was there before H0 stays -/
def Built (H0 : Hp) (D : Addr) (vals : Nat → V) (i : Nat) (H : Hp) : Prop := Ext H0 H ∧ H D = some (.lst ((List.range i).map vals))
theorem Built.zero {H0 : Hp} {D : Addr} {vals : Nat → V} (h : H0 D = none) : Built H0 D vals 0 (upd H0 D (.lst [])) := ⟨(Ext.refl _).wr h, upd_same⟩
theorem Built.next {H0 H H4 : Hp} {D : Addr} {vals : Nat → V} {i : Nat} {y : V} (h0 : H0 D = none) (b : Built H0 D vals i H) (e : Ext H H4) (ey : y = vals i) (hi : i < sizeLine) :
    ∃ acc, H4 D = some (.lst acc) ∧ acc.length < sizeLine ∧ Built H0 D vals (i + 1) (upd H4 D (.lst (acc ++ [y]))) := by
  refine ⟨_, e.lst b.2, by simpa using hi, (b.1.trans e).wr h0, ?_⟩
  rw [upd_same, ey, List.range_succ, List.map_append]
  rfl
section
variable {K : PySem.W.Frag} {g : TG} {tt : TT} {te : TE} {vs : List Nat} {σ : L2.St} {H1 : Hp} {D : Addr} {Qd : Hp → Prop}
/-- over the signs of a text with their places -/
theorem lc_ites {x : Str} (Pv : Nat → Hp → Prop) (h0 : Pv 0 (upd H1 D (.lst [])))
    (hs : ∀ i c T H, x.cps[i]? = some c → H T = none → Pv i H → g (.ref T) (wipe σ vs) (upd H T (.tup [nV i, .str ⟨#[c]⟩])) fun σ2 H2 => wipe σ2 vs = wipe σ vs ∧ tt σ2 H2 fun b H3 =>
      if b = true then te σ2 H3 fun y H4 => ∃ acc, H4 D = some (.lst acc) ∧ acc.length < sizeLine ∧ Pv (i + 1) (upd H4 D (.lst (acc ++ [y]))) else Pv (i + 1) H3) (hd : ∀ H, Pv x.cps.size H → Qd H) :
    ∃ W : Nat → Nat → Hp → Prop, (∃ m, W 0 m (upd H1 D (.lst []))) ∧ ∀ i m H, W i m H →
      ((Ites x).stop i H ∧ Qd H) ∨ ((Ites x).go i H ∧ ∃ Nx : Hp → Prop, (∀ H', Nx H' → ∃ m', m' < m ∧ W (i + 1) m' H') ∧ ∀ v H', (Ites x).yld i H v H' → g v (wipe σ vs) H' fun σ2 H2 => wipe σ2 vs = wipe σ vs ∧ tt σ2 H2 fun b H3 =>
        if b = true then te σ2 H3 fun y H4 => ∃ acc, H4 D = some (.lst acc) ∧ acc.length < sizeLine ∧ Nx (upd H4 D (.lst (acc ++ [y]))) else Nx H3) := by
  refine ⟨fun i m H => m = x.cps.size - i ∧ i ≤ x.cps.size ∧ Pv i H, ⟨x.cps.size, by simp, Nat.zero_le _, h0⟩, ?_⟩
  rintro i m H ⟨rfl, hi, p⟩
  by_cases hlt : i < x.cps.size
  · refine .inr ⟨hlt, Pv (i + 1), fun H' p' => ⟨x.cps.size - (i + 1), by omega, rfl, hlt, p'⟩, fun v H' y => ?_⟩
    obtain ⟨T, c, rfl, hT, rfl, hc⟩ := y
    exact hs i c T H hc hT p
  · have e : i = x.cps.size := by omega
    subst e
    exact .inl ⟨rfl, hd H p⟩
/-- over a list with places -/
theorem lc_ite {a : Addr} {xs : List V} (Pv : Nat → Hp → Prop) (h0 : Pv 0 (upd H1 D (.lst []))) (hl : ∀ i H, Pv i H → SqL K H a xs)
    (hs : ∀ i x T H, xs[i]? = some x → H T = none → Pv i H → g (.ref T) (wipe σ vs) (upd H T (.tup [nV i, x])) fun σ2 H2 => wipe σ2 vs = wipe σ vs ∧ tt σ2 H2 fun b H3 =>
      if b = true then te σ2 H3 fun y H4 => ∃ acc, H4 D = some (.lst acc) ∧ acc.length < sizeLine ∧ Pv (i + 1) (upd H4 D (.lst (acc ++ [y]))) else Pv (i + 1) H3) (hd : ∀ H, Pv xs.length H → Qd H) :
    ∃ W : Nat → Nat → Hp → Prop, (∃ m, W 0 m (upd H1 D (.lst []))) ∧ ∀ i m H, W i m H →
      ((Ite K a).stop i H ∧ Qd H) ∨ ((Ite K a).go i H ∧ ∃ Nx : Hp → Prop, (∀ H', Nx H' → ∃ m', m' < m ∧ W (i + 1) m' H') ∧ ∀ v H', (Ite K a).yld i H v H' → g v (wipe σ vs) H' fun σ2 H2 => wipe σ2 vs = wipe σ vs ∧ tt σ2 H2 fun b H3 =>
        if b = true then te σ2 H3 fun y H4 => ∃ acc, H4 D = some (.lst acc) ∧ acc.length < sizeLine ∧ Nx (upd H4 D (.lst (acc ++ [y]))) else Nx H3) := by
  refine ⟨fun i m H => m = xs.length - i ∧ i ≤ xs.length ∧ Pv i H, ⟨xs.length, by simp, Nat.zero_le _, h0⟩, ?_⟩
  rintro i m H ⟨rfl, hi, p⟩
  have q := hl i H p
  by_cases hlt : i < xs.length
  · refine .inr ⟨⟨xs, xs[i], q, by simp [hlt]⟩, Pv (i + 1), fun H' p' => ⟨xs.length - (i + 1), by omega, rfl, hlt, p'⟩, fun v H' y => ?_⟩
    obtain ⟨T, x, rfl, hT, rfl, hx⟩ := y
    exact hs i x T H (hx xs q) hT p
  · have e : i = xs.length := by omega
    subst e
    exact .inl ⟨⟨xs, q, Nat.le_refl _⟩, hd H p⟩
/-- over two lists of one length -/
theorem lc_itz {a b : Addr} {xs ys : List V} (hl : xs.length = ys.length) (Pv : Nat → Hp → Prop) (h0 : Pv 0 (upd H1 D (.lst []))) (hq : ∀ i H, Pv i H → SqL K H a xs ∧ SqL K H b ys)
    (hs : ∀ i x y T H, xs[i]? = some x → ys[i]? = some y → H T = none → Pv i H → g (.ref T) (wipe σ vs) (upd H T (.tup [x, y])) fun σ2 H2 => wipe σ2 vs = wipe σ vs ∧ tt σ2 H2 fun b H3 =>
      if b = true then te σ2 H3 fun y H4 => ∃ acc, H4 D = some (.lst acc) ∧ acc.length < sizeLine ∧ Pv (i + 1) (upd H4 D (.lst (acc ++ [y]))) else Pv (i + 1) H3) (hd : ∀ H, Pv xs.length H → Qd H) :
    ∃ W : Nat → Nat → Hp → Prop, (∃ m, W 0 m (upd H1 D (.lst []))) ∧ ∀ i m H, W i m H →
      ((Itz K a b).stop i H ∧ Qd H) ∨ ((Itz K a b).go i H ∧ ∃ Nx : Hp → Prop, (∀ H', Nx H' → ∃ m', m' < m ∧ W (i + 1) m' H') ∧ ∀ v H', (Itz K a b).yld i H v H' → g v (wipe σ vs) H' fun σ2 H2 => wipe σ2 vs = wipe σ vs ∧ tt σ2 H2 fun b H3 =>
        if b = true then te σ2 H3 fun y H4 => ∃ acc, H4 D = some (.lst acc) ∧ acc.length < sizeLine ∧ Nx (upd H4 D (.lst (acc ++ [y]))) else Nx H3) := by
  refine ⟨fun i m H => m = xs.length - i ∧ i ≤ xs.length ∧ Pv i H, ⟨xs.length, by simp, Nat.zero_le _, h0⟩, ?_⟩
  rintro i m H ⟨rfl, hi, p⟩
  obtain ⟨q1, q2⟩ := hq i H p
  by_cases hlt : i < xs.length
  · have hlt2 : i < ys.length := by omega
    refine .inr ⟨⟨xs, ys, xs[i], ys[i], q1, q2, by simp [hlt], by simp [hlt2]⟩, Pv (i + 1), fun H' p' => ⟨xs.length - (i + 1), by omega, rfl, hlt, p'⟩, fun v H' y => ?_⟩
    obtain ⟨T, x, y, rfl, hT, rfl, hx, hy⟩ := y
    exact hs i x y T H (hx xs q1) (hy ys q2) hT p
  · have e : i = xs.length := by omega
    subst e
    exact .inl ⟨⟨xs, ys, q1, q2, .inl (Nat.le_refl _)⟩, hd H p⟩
end
/-- a pair just made taken apart into slots i and j -/
theorem g_pair {K : PySem.W.Frag} {i j : Nat} {T : Addr} {x y : V} {σ : L2.St} {H : Hp} {Q : L2.St → Hp → Prop} (h : H T = some (.tup [x, y])) (q : Q ((σ.set i (some x)).set j (some y)) H) :
    gTup K 2 (gCons (gName i) (gCons (gName j) gNil)) (.ref T) σ H Q := ⟨T, _, rfl, SqT.of h, rfl, x, _, rfl, y, _, rfl, rfl, q⟩
end Bo
set_option Elab.async false
set_option linter.all false
set_option maxRecDepth 100000
set_option maxHeartbeats 0
namespace Bo
open PySem PySem.Spec PyProof.Rows L2
def top (i : Nat) : Stmt := PySem.Challenge.pw_bothreed_k03_texts_read.main.body.getD i (.Pass ⟨0, 0, 0, 0⟩)
abbrev sDenied : Stmt := top 9
abbrev sTogether : Stmt := top 10
abbrev sNeedLetters : Stmt := top 14
abbrev sNodes : Stmt := top 15
abbrev sIsLetter : Stmt := top 16
abbrev sPartsOf : Stmt := top 17
abbrev sRead : Stmt := top 22
abbrev sWritten : Stmt := top 23
abbrev sWords : Stmt := top 24
abbrev sCloseLevel : Stmt := top 25
abbrev sTakeWord : Stmt := top 26
abbrev sLawCellAt : Stmt := top 28
abbrev sLawLetters : Stmt := top 29
abbrev sLawSize : Stmt := top 30
abbrev sLawKind : Stmt := top 31
abbrev sLawOf : Stmt := top 32
abbrev sLawItem : Stmt := top 33
abbrev sLawHalf : Stmt := top 34
abbrev sLawEither : Stmt := top 35
abbrev sLawDue : Stmt := top 36
abbrev sLawTold : Stmt := top 37
abbrev sLawGrown : Stmt := top 38
abbrev sLawEdited : Stmt := top 39
abbrev sLawOdd : Stmt := top 40
abbrev sLaw : Stmt := top 41
abbrev sLevelInit : Stmt := inClass (top 8) 0
abbrev sLevelTakeNot : Stmt := inClass (top 8) 1
abbrev sLevelTakeAtom : Stmt := inClass (top 8) 2
abbrev sLevelTakeStar : Stmt := inClass (top 8) 3
abbrev sLevelEndHalf : Stmt := inClass (top 8) 4
abbrev sLevelEndBranch : Stmt := inClass (top 8) 5
abbrev sLevelTold : Stmt := inClass (top 8) 6
abbrev sLevelNeedItem : Stmt := inClass (top 8) 7
def dLevelInit : He.DefD := ⟨("Level", some "__init__"), "__init__", "Level.__init__", defArgs sLevelInit, defBody sLevelInit, defScope sLevelInit, [], []⟩
def dLevelTakeNot : He.DefD := ⟨("Level", some "take_not"), "take_not", "Level.take_not", defArgs sLevelTakeNot, defBody sLevelTakeNot, defScope sLevelTakeNot, [], []⟩
def dLevelTakeAtom : He.DefD := ⟨("Level", some "take_atom"), "take_atom", "Level.take_atom", defArgs sLevelTakeAtom, defBody sLevelTakeAtom, defScope sLevelTakeAtom, [], []⟩
def dLevelTakeStar : He.DefD := ⟨("Level", some "take_star"), "take_star", "Level.take_star", defArgs sLevelTakeStar, defBody sLevelTakeStar, defScope sLevelTakeStar, [], []⟩
def dLevelEndHalf : He.DefD := ⟨("Level", some "end_half"), "end_half", "Level.end_half", defArgs sLevelEndHalf, defBody sLevelEndHalf, defScope sLevelEndHalf, [], []⟩
def dLevelEndBranch : He.DefD := ⟨("Level", some "end_branch"), "end_branch", "Level.end_branch", defArgs sLevelEndBranch, defBody sLevelEndBranch, defScope sLevelEndBranch, [], []⟩
def dLevelTold : He.DefD := ⟨("Level", some "told"), "told", "Level.told", defArgs sLevelTold, defBody sLevelTold, defScope sLevelTold, [], []⟩
def dLevelNeedItem : He.DefD := ⟨("Level", some "need_item"), "need_item", "Level.need_item", defArgs sLevelNeedItem, defBody sLevelNeedItem, defScope sLevelNeedItem, [], []⟩
def dDenied : He.DefD := ⟨("denied", none), "denied", "denied", defArgs sDenied, defBody sDenied, defScope sDenied, [], []⟩
def dTogether : He.DefD := ⟨("together", none), "together", "together", defArgs sTogether, defBody sTogether, defScope sTogether, [], []⟩
def dNeedLetters : He.DefD := ⟨("need_letters", none), "need_letters", "need_letters", defArgs sNeedLetters, defBody sNeedLetters, defScope sNeedLetters, [], []⟩
def dNodes : He.DefD := ⟨("nodes", none), "nodes", "nodes", defArgs sNodes, defBody sNodes, defScope sNodes, [], []⟩
def dIsLetter : He.DefD := ⟨("is_letter", none), "is_letter", "is_letter", defArgs sIsLetter, defBody sIsLetter, defScope sIsLetter, [], []⟩
def dPartsOf : He.DefD := ⟨("parts_of", none), "parts_of", "parts_of", defArgs sPartsOf, defBody sPartsOf, defScope sPartsOf, [], []⟩
def dRead : He.DefD := ⟨("read", none), "read", "read", defArgs sRead, defBody sRead, defScope sRead, [], []⟩
def dWritten : He.DefD := ⟨("written", none), "written", "written", defArgs sWritten, defBody sWritten, defScope sWritten, [], []⟩
def dWords : He.DefD := ⟨("words", none), "words", "words", defArgs sWords, defBody sWords, defScope sWords, [], []⟩
def dCloseLevel : He.DefD := ⟨("close_level", none), "close_level", "close_level", defArgs sCloseLevel, defBody sCloseLevel, defScope sCloseLevel, [], []⟩
def dTakeWord : He.DefD := ⟨("take_word", none), "take_word", "take_word", defArgs sTakeWord, defBody sTakeWord, defScope sTakeWord, [], []⟩
def dLawCellAt : He.DefD := ⟨("_law_cell_at", none), "_law_cell_at", "_law_cell_at", defArgs sLawCellAt, defBody sLawCellAt, defScope sLawCellAt, [], []⟩
def dLawLetters : He.DefD := ⟨("_law_letters", none), "_law_letters", "_law_letters", defArgs sLawLetters, defBody sLawLetters, defScope sLawLetters, [], []⟩
def dLawSize : He.DefD := ⟨("_law_size", none), "_law_size", "_law_size", defArgs sLawSize, defBody sLawSize, defScope sLawSize, [], []⟩
def dLawKind : He.DefD := ⟨("_law_kind", none), "_law_kind", "_law_kind", defArgs sLawKind, defBody sLawKind, defScope sLawKind, [], []⟩
def dLawOf : He.DefD := ⟨("_law_of", none), "_law_of", "_law_of", defArgs sLawOf, defBody sLawOf, defScope sLawOf, [], []⟩
def dLawItem : He.DefD := ⟨("_law_item", none), "_law_item", "_law_item", defArgs sLawItem, defBody sLawItem, defScope sLawItem, [], []⟩
def dLawHalf : He.DefD := ⟨("_law_half", none), "_law_half", "_law_half", defArgs sLawHalf, defBody sLawHalf, defScope sLawHalf, [], []⟩
def dLawEither : He.DefD := ⟨("_law_either", none), "_law_either", "_law_either", defArgs sLawEither, defBody sLawEither, defScope sLawEither, [], []⟩
def dLawDue : He.DefD := ⟨("_law_due", none), "_law_due", "_law_due", defArgs sLawDue, defBody sLawDue, defScope sLawDue, [], []⟩
def dLawTold : He.DefD := ⟨("_law_told", none), "_law_told", "_law_told", defArgs sLawTold, defBody sLawTold, defScope sLawTold, [], []⟩
def dLawGrown : He.DefD := ⟨("_law_grown", none), "_law_grown", "_law_grown", defArgs sLawGrown, defBody sLawGrown, defScope sLawGrown, [], []⟩
def dLawEdited : He.DefD := ⟨("_law_edited", none), "_law_edited", "_law_edited", defArgs sLawEdited, defBody sLawEdited, defScope sLawEdited, [], []⟩
def dLawOdd : He.DefD := ⟨("_law_odd", none), "_law_odd", "_law_odd", defArgs sLawOdd, defBody sLawOdd, defScope sLawOdd, [], []⟩
def dLaw : He.DefD := ⟨("law", none), "law", "law", defArgs sLaw, defBody sLaw, defScope sLaw, [], []⟩
def fn : List He.DefD := [dDenied, dTogether, dNeedLetters, dNodes, dIsLetter, dPartsOf, dRead, dWritten, dWords, dCloseLevel, dTakeWord, dLawCellAt, dLawLetters, dLawSize, dLawKind, dLawOf, dLawItem, dLawHalf, dLawEither, dLawDue, dLawTold, dLawGrown, dLawEdited, dLawOdd, dLaw, dLevelInit, dLevelTakeNot, dLevelTakeAtom, dLevelTakeStar, dLevelEndHalf, dLevelEndBranch, dLevelTold, dLevelNeedItem]
def fa : List He.Fa := [.glo "denied", .glo "together", .glo "need_letters", .glo "nodes", .glo "is_letter", .glo "parts_of", .glo "read", .glo "written", .glo "words", .glo "close_level", .glo "take_word", .glo "_law_cell_at", .glo "_law_letters", .glo "_law_size", .glo "_law_kind", .glo "_law_of", .glo "_law_item", .glo "_law_half", .glo "_law_either", .glo "_law_due", .glo "_law_told", .glo "_law_grown", .glo "_law_edited", .glo "_law_odd", .glo "law", .glo "Level", .cls "Level", .mkr "Level", .noat "Level" "branches", .noat "Level" "halves", .noat "Level" "row", .noat "Level" "nots", .meth "Level" "__init__", .meth "Level" "take_not", .meth "Level" "take_atom", .meth "Level" "take_star", .meth "Level" "end_half", .meth "Level" "end_branch", .meth "Level" "told", .meth "Level" "need_item", .glo "NONE", .glo "EMPTY", .glo "PatternError", .glo "NoLetters", .glo "NoPattern", .glo "TooGreat", .glo "NoText", .glo "NoRoom", .exc "PatternError", .exc "NoLetters", .exc "NoPattern", .exc "TooGreat", .exc "NoText", .exc "NoRoom", .free "ValueError", .free "abs", .free "all", .free "int", .free "isinstance", .free "len", .free "range", .free "set", .free "str", .free "sum", .free "tuple", .int "MOST_LETTERS" 4, .int "MOST_NODES" 60, .int "MOST_WRITTEN" 400, .exm "PatternError" "PatternError" true, .exm "NoLetters" "PatternError" true, .exm "NoPattern" "PatternError" true, .exm "TooGreat" "PatternError" true, .exm "NoText" "PatternError" true, .exm "NoRoom" "PatternError" true]
def ts : List He.Tab := []
def tf : List He.Defn := [("need_letters", none)]
def names0 : List PySem.Str := ["denied", "together", "need_letters", "nodes", "is_letter", "parts_of", "read", "written", "words", "close_level", "take_word", "_law_cell_at", "_law_letters", "_law_size", "_law_kind", "_law_of", "_law_item", "_law_half", "_law_either", "_law_due"]
def names1 : List PySem.Str := ["_law_told", "_law_grown", "_law_edited", "_law_odd", "PatternError", "NoLetters", "NoPattern", "TooGreat", "NoText", "NoRoom", "Level", "MOST_LETTERS", "MOST_NODES", "NONE", "EMPTY", "MOST_WRITTEN"]
def names : List PySem.Str := names0 ++ names1
def cn : Nat → PySem.Str
  | 0 => "NoLetters" | 1 => "NoPattern" | 2 => "TooGreat" | 3 => "NoText" | _ => "NoRoom"
/-- isinstance may ask the instances of the class at D -/
def excB (K : PySem.W.Frag) (D : Addr) : Bool :=
  decide (PySem.W.findIn K (.ref D) "__getattribute__" = some (some (.builtin "BaseException.__getattribute__"))) && decide (PySem.W.findIn K (.ref D) "__getattr__" = some none) && decide (PySem.W.subIn K (.ref D) (.type "BaseException") = some true) && PySem.W.hasDictIn K D &&
  decide (PySem.W.findIn K (.ref D) "__class__" = some (some (.builtin "object.__class__"))) && decide (PySem.W.specialIn K (.builtin "object.__class__") "__get__" = some (some (.builtin "getset_descriptor.__get__"))) && decide (PySem.W.takesIn K (.builtin "object.__class__") = some true) && decide (PySem.W.mroIn K D (.type "object") = some true)
def exE (K : PySem.W.Frag) : Bool :=
  ((List.range 4).all fun i => excB K (He.ga K (cn i))) && ((List.range 4).all fun i => (List.range 5).all fun j => decide (PySem.W.kitOne K (.ref (He.ga K (cn i))) (.ref (He.ga K (cn j))) = some (decide (i = j)))) &&
  (List.range 4).all fun i => decide (PySem.W.kitOne K (.ref (He.ga K (cn i))) (.type "ValueError") = some true)

/-- a tuple of texts of the top -/
def tupB (K : PySem.W.Frag) (a : Addr) (zs : List PySem.Str) : Bool := match K.lookup a with
  | some o => decide (o.cls = .type "tuple") && (match o.data with
    | .seq its _ => decide (its.toList.length ≤ 100) && decide (its.toList.map (fun u => match u with | .str z _ => some z | _ => none) = zs.map some)
    | _ => false)
  | none => false
def strB (K : PySem.W.Frag) (d : Addr) (k z : PySem.Str) : Bool := match PySem.W.nsIn K d k with
  | some (some (.str y _)) => decide (y = z)
  | _ => false
def brA (K : PySem.W.Frag) (d : Addr) (k : PySem.Str) : Addr := match PySem.W.nsIn K d k with
  | some (some (.ref a)) => a
  | _ => 0
def brB (K : PySem.W.Frag) (d : Addr) (k : PySem.Str) (zs : List PySem.Str) : Bool := decide (PySem.W.nsIn K d k = some (some (.ref (brA K d k)))) && tupB K (brA K d k) zs
def exT (K : PySem.W.Frag) : List Bool := [tupB K (He.ga K "NONE") ["none"], tupB K (He.ga K "EMPTY") ["empty"]]
def ex (K : PySem.W.Frag) : Bool := (exT K).all id && exE K
abbrev R : PySem.W.OpenRow := PySem.W.OpenLaw.row PySem.Challenge.rw_bothreed_k03_texts_read
abbrev hk : PySem.W.Hook := He.hookX 4 fa fn ts tf ex
def ob (s : PySem.W.SharedT) : He.AlX := He.obsX 4 fa fn ts tf ex (HandSHeadRun.getT s)
theorem ob_eq (s : PySem.W.SharedT) : ob s = hk.obs s.abs := He.obsX_eq (HandSHeadRun.getT_eq s)
theorem runEqF (w : World) (os : PySem.OsState) : (fun w => (HandSHeadRun.endF (HandSHeadRun.stepQ (HandSHeadRun.denQ HandSHeadRun.tabQ) R.prog w) 9000 R.prog w os).map (fun s => (HandSHeadRun.looksF R.prog (PySem.W.boot_heap w.params) s.abs, HandSHeadRun.seenQ (PySem.W.view R.prog [41]) names (PySem.importedModules R.prog.main.body) (fun s => PySem.W.xlAt (PySem.W.view R.prog [41]) [] s && PySem.W.recOk R.toRowW.records s) s.abs, ob s)) = some (true, PySem.W.openGood (PySem.W.view R.prog [41]) names, hk.val w)) (w.withFollow "special-get-raises" false) := by
  kernel_rfl
theorem runEqT (w : World) (os : PySem.OsState) : (fun w => (HandSHeadRun.endF (HandSHeadRun.stepQ (HandSHeadRun.denQ HandSHeadRun.tabQ) R.prog w) 9000 R.prog w os).map (fun s => (HandSHeadRun.looksF R.prog (PySem.W.boot_heap w.params) s.abs, HandSHeadRun.seenQ (PySem.W.view R.prog [41]) names (PySem.importedModules R.prog.main.body) (fun s => PySem.W.xlAt (PySem.W.view R.prog [41]) [] s && PySem.W.recOk R.toRowW.records s) s.abs, ob s)) = some (true, PySem.W.openGood (PySem.W.view R.prog [41]) names, hk.val w)) (w.withFollow "special-get-raises" true) := by
  kernel_rfl
theorem run (w : World) : HandSHeadRun.RunEq R (PySem.W.view R.prog [41]) hk ob 9000 names w :=
  PySem.W.byRow2 "special-get-raises" (P := fun w => HandSHeadRun.RunEq R (PySem.W.view R.prog [41]) hk ob 9000 names w) (fun w os => runEqF w os) (fun w os => runEqT w os) w
end Bo
set_option Elab.async false
set_option linter.all false
set_option maxRecDepth 100000
set_option maxHeartbeats 4000000
namespace Bo
open PySem PySem.Spec PyProof.Rows L2 GE
/-- the text's codes -/
abbrev cds (z : Str) : List Nat := z.cps.toList
/-- an own error class -/
structure EX (K : PySem.W.Frag) (mg : Str → Option Value) (x : Str) (C : Addr) : Prop where
  g : mg x = some (.ref C)
  q : PySem.W.excIn K C He.veBase "ValueError.__new__" = true
  k : PySem.W.keepIn K (.ref C) = true
  s : PySem.W.subIn K (.ref C) (.type "BaseException") = some true
  t : PySem.W.typeIn K (.ref C) = some (.type "type")
def tys : List String := ["NoneType", "bool", "int", "str", "list", "tuple", "dict"]
/-- a value of a known kind -/
def Kn (K : PySem.W.Frag) (H : Hp) (v : V) (T : String) : Prop := TyX K H v (.type T) ∧ T ∈ tys
theorem kn_str {K : PySem.W.Frag} {T : String} (h : T ∈ tys) : PySem.W.kitOne K (.type T) (.type "str") = some (decide (T = "str")) := by
  simp only [tys, List.mem_cons, List.not_mem_nil, or_false] at h
  rcases h with rfl | rfl | rfl | rfl | rfl | rfl | rfl <;> exact kit_ty (by decide +kernel)
theorem kn_tup {K : PySem.W.Frag} {T : String} (h : T ∈ tys) : PySem.W.kitOne K (.type T) (.type "tuple") = some (decide (T = "tuple")) := by
  simp only [tys, List.mem_cons, List.not_mem_nil, or_false] at h
  rcases h with rfl | rfl | rfl | rfl | rfl | rfl | rfl <;> exact kit_ty (by decide +kernel)
def tagS : V → Value → Prop
  | .str _, t => t = .type "str"
  | _, t => t ≠ .type "str"
theorem tag_s {K : PySem.W.Frag} {H : Hp} {v : V} {t : Value} (h : TyX K H v t) : tagS v t := by
  cases h with
  | base b => cases b <;> first | exact rfl | exact fun e => (by injection e with e; exact absurd e (by decide)) | exact fun e => nomatch e
  | _ => exact fun e => (by injection e with e; exact absurd e (by decide))
theorem Kn.str {K : PySem.W.Frag} {H : Hp} {v : V} (h : Kn K H v "str") : ∃ z, v = .str z := by
  have q := tag_s h.1
  cases v <;> first | exact ⟨_, rfl⟩ | exact absurd rfl q
theorem Kn.ofStr (K : PySem.W.Frag) (H : Hp) (z : Str) : Kn K H (.str z) "str" := ⟨.base (.str z), by decide⟩
theorem Kn.notStr {K : PySem.W.Frag} {H : Hp} {v : V} {T : String} (h : Kn K H v T) (n : T ≠ "str") : ∀ z, v ≠ .str z := by
  rintro z rfl
  have q : Value.type T = .type "str" := tag_s h.1
  exact n (by injection q)
def goodS (z : Str) : Bool := decide (1 ≤ z.cps.size) && decide (z.cps.size ≤ 4) && (cds z).all (fun c => decide (97 ≤ c ∧ c ≤ 122)) && decide (unlike z z.cps.size = z.cps.size)
def goodV : V → Bool
  | .str z => goodS z
  | _ => false
theorem goodV_not {v : V} (h : ∀ z, v ≠ .str z) : goodV v = false := by
  cases v <;> first | rfl | exact absurd rfl (h _)
def spNL (K : PySem.W.Frag) (C T : Addr) : Sp := fun vs H Q E => ∃ (v : V) (Ty : String), vs = [v] ∧ Kn K H v Ty ∧ (∀ z, v = .str z → z.cps.size ≤ 100) ∧ GxR.TabG H T ∧ (goodV v = true → ∀ H', Ext H H' → Q .non H') ∧ (goodV v = false → ∀ H', Ext H H' → E (.ref C) none H')
theorem lt_sign (a b : Nat) : (!decide ([a] < [b])) = decide (b ≤ a) := by
  rw [Bool.eq_iff_iff, Bool.not_eq_true', decide_eq_false_iff_not, decide_eq_true_eq, List.cons_lt_cons_iff]
  constructor
  · intro h; apply Nat.not_lt.mp; exact fun e => h (.inl e)
  · rintro h (e | ⟨_, e⟩)
    · omega
    · exact absurd e (List.not_lt_nil _)
theorem get_all {p : Nat → Bool} {l : List Nat} {i : Nat} {c : Nat} (h : l[i]? = some c) : (l.take (i + 1)).all p = ((l.take i).all p && p c) := by
  rw [List.take_succ, List.all_append, h]; simp
theorem all_false {p : Nat → Bool} {l : List Nat} {i : Nat} {c : Nat} (h : l[i]? = some c) (hp : p c = false) : l.all p = false := by
  rw [List.all_eq_false]
  exact ⟨c, List.mem_of_getElem? h, by rw [hp]; exact Bool.false_ne_true⟩
section
variable {P : Program} {w : World} {K : PySem.W.Frag} {mg : Str → Option Value} {base : Heap}
/-- all over a text -/
theorem quant_str {stopv : Bool} {T : Addr} {x : Str} {te : TE} {σ : L2.St} {H1 : Hp} {Q : VK} (h0 : GxR.TabG H1 T) (Pv : Nat → Hp → Prop) (p0 : ∀ H, Ext H1 H → Pv 0 H)
    (hs : ∀ i c H, x.cps[i]? = some c → Pv i H → te (σ ++ [some (.str ⟨#[c]⟩)]) H fun y H3 => ∃ b, y = .bl b ∧ if b = stopv then Q (.bl stopv) H3 else Pv (i + 1) H3) (hd : ∀ H, Pv x.cps.size H → Q (.bl (!stopv)) H) :
    GxR.TabG H1 T ∧ ∀ H2, GxR.Tabbed T H1 H2 → ∃ W : Nat → Nat → Hp → Prop, (∃ m, W 0 m H2) ∧ ∀ i m H, W i m H →
      ((Its x).stop i H ∧ Q (.bl (!stopv)) H) ∨ ((Its x).go i H ∧ ∃ Nx : Hp → Prop, (∀ H', Nx H' → ∃ m', m' < m ∧ W (i + 1) m' H') ∧ ∀ v H', (Its x).yld i H v H' → te (σ ++ [some v]) H' fun y H3 => ∃ b, y = .bl b ∧ if b = stopv then Q (.bl stopv) H3 else Nx H3) := by
  refine ⟨h0, fun H2 hT => ⟨fun i m H => i ≤ x.cps.size ∧ m = x.cps.size - i ∧ Pv i H, ⟨x.cps.size, Nat.zero_le _, rfl, p0 H2 (Ext.tabbed h0 hT)⟩, ?_⟩⟩
  rintro i m H ⟨hi, rfl, p⟩
  by_cases hlt : i < x.cps.size
  · refine .inr ⟨hlt, Pv (i + 1), fun H' p' => ⟨x.cps.size - (i + 1), by omega, hlt, rfl, p'⟩, fun v H' y => ?_⟩
    obtain ⟨e, c, hc, y⟩ := y
    subst e
    subst y
    exact hs i c H' hc p
  · have e : i = x.cps.size := by omega
    subst e
    exact .inl ⟨Nat.le_refl _, hd H p⟩
theorem t_next {D : Ends} {σ : L2.St} {H : Hp} (h : D.nx σ H) : tNext D σ H := h
theorem if_notB {t : TE} {a b : TS} {D : Ends} {σ : L2.St} {H : Hp} (h : t σ H fun x H1 => ∃ c, x = .bl c ∧ if (!c) = true then a D σ H1 else b D σ H1) : tIfS (tNot (tB t)) a b D σ H := h
theorem qs_var {stopv : Bool} {T : Addr} {x : Str} {te : TE} {σ : L2.St} {H1 : Hp} {Q : VK} {j : Nat} (hj : σ[j]? = some (some (.str x))) (h0 : GxR.TabG H1 T) (Pv : Nat → Hp → Prop) (p0 : ∀ H, Ext H1 H → Pv 0 H)
    (hs : ∀ i c H, x.cps[i]? = some c → Pv i H → te (σ ++ [some (.str ⟨#[c]⟩)]) H fun y H3 => ∃ b, y = .bl b ∧ if b = stopv then Q (.bl stopv) H3 else Pv (i + 1) H3) (hd : ∀ H, Pv x.cps.size H → Q (.bl (!stopv)) H) : tQuant stopv T (iStr (tVar j)) te σ H1 Q :=
  ⟨_, hj, x, rfl, quant_str h0 Pv p0 hs hd⟩
theorem scNL : FnScope ["letters"] ["letters"] (defScope sNeedLetters) := ⟨rfl, rfl, rfl, by decide +kernel, rfl, by decide +kernel, by decide +kernel⟩
theorem nl_ok {f : Addr} {fd : FuncData} {c T C : Addr} {tk : Tok} (F : FnP K "need_letters" sNeedLetters f fd) (hc : fd.code = .ref c) (TB : GxR.TabB base mg c T) (X : EX K mg "NoLetters" C) (mi : mg "isinstance" = none) (ms : mg "str" = none) (ml : mg "len" = none) (ma : mg "all" = none) (mset : mg "set" = none) (mL : mg "MOST_LETTERS" = some (.int 4 tk)) :
    FnOk P w K mg base (L2N.CX P w) 3 f fd ["letters"] (spNL K C T) := by
  refine okC F hc scNL (fun vs H Q E h => ?_) (fun A outer s H vs Q E hr h => ?_)
  · obtain ⟨z, _, rfl, _⟩ := h
    rfl
  obtain ⟨v, Ty, rfl, hk, hz, hT, qg, qb⟩ := h
  refine ⟨_, pss_cons (ps_if (pt_not (pt_val (pe_callB call_isi rfl mi (by decide +kernel) (pa_cons (pv 0) (pa_cons (pe_bltn (v := .ty "str") (u := .type "str") rfl ms (by decide +kernel) rfl) pa_nil)))))
      (pss_one (L2N.ps_raise rfl (L2N.takes_of rfl rfl rfl rfl) (L2N.pmk_own PySem.F.excBase_ValueError X.q X.g X.k (raises_own X.s X.t) rfl))) pss_nil)
    (pss_cons (ps_if (pt_not (pt_chain op_le op_le pe_int (pe_callB call_len rfl ml PySem.boot_len (pa_cons (pv 0) pa_nil)) (pe_glob (v := .int 4) rfl mL ⟨_, rfl⟩)))
      (pss_one (L2N.ps_raise rfl (L2N.takes_of rfl rfl rfl rfl) (L2N.pmk_own PySem.F.excBase_ValueError X.q X.g X.k (raises_own X.s X.t) rfl))) pss_nil)
    (pss_cons (ps_if (pt_not (pt_val (pe_allE rfl hr rfl ma TB rfl (gsc_by (N := ["letters"]) (sc := defScope sNeedLetters) (by decide +kernel)) (pi_str (pv 0))
        (fun s H C code fp => pe_chain op_le_str op_le_str pe_str (pv 1) pe_str) (fun _ => rfl))))
      (pss_one (L2N.ps_raise rfl (L2N.takes_of rfl rfl rfl rfl) (L2N.pmk_own PySem.F.excBase_ValueError X.q X.g X.k (raises_own X.s X.t) rfl))) pss_nil)
    (pss_one (ps_if (pt_cmpR op_ne (pe_lenSetT rfl rfl ml rfl mset (pv 0)) (pe_callB call_len rfl ml PySem.boot_len (pa_cons (pv 0) pa_nil)) (nomark _))
      (pss_one (L2N.ps_raise rfl (L2N.takes_of rfl rfl rfl rfl) (L2N.pmk_own PySem.F.excBase_ValueError X.q X.g X.k (raises_own X.s X.t) rfl))) pss_nil)))), ?_⟩
  refine t_seq ⟨v, rfl, v, .ty "str", .type Ty, .type "str", _, rfl, .ty _, hk.1, kn_str hk.2, _, rfl, ?_⟩
  by_cases hs : Ty = "str"
  case neg => exact iffT (by rw [Bool.not_eq_true', decide_eq_false_iff_not]; exact hs) (qb (goodV_not (hk.notStr hs)) _ (Ext.refl _))
  subst hs
  obtain ⟨z, rfl⟩ := hk.str
  have hz := hz z rfl
  have qg : goodS z = true → ∀ H', Ext H H' → Q .non H' := qg
  have qb : goodS z = false → ∀ H', Ext H H' → E (.ref C) none H' := qb
  have ln : z.length ≤ sizeLine := Nat.le_trans hz (by decide)
  have hn : (cds z).length = z.cps.size := Array.length_toList
  refine iffF (by decide) ?_
  refine t_seq ⟨.str z, rfl, .str z, _, rfl, ⟨ln, rfl⟩, _, _, rfl, rfl, _, rfl, ?_⟩
  by_cases h1 : 1 ≤ z.cps.size
  · refine iffT (decide_eq_true (by show (1 : Int) ≤ ((z.cps.size : Nat) : Int); omega)) ⟨_, _, rfl, rfl, _, rfl, ?_⟩
    by_cases h4 : z.cps.size ≤ 4
    · refine iffF (by rw [Bool.not_eq_false', decide_eq_true_eq]; show ((z.cps.size : Nat) : Int) ≤ 4; omega) ?_
      dsimp only [tNext]
      refine t_seq ?_
      refine if_notB ?_
      refine qs_var rfl hT (fun i H' => Ext H H' ∧ ((cds z).take i).all (fun c => decide (97 ≤ c ∧ c ≤ 122)) = true) (fun H' e => ⟨e, rfl⟩) ?_ ?_
      · rintro i c H' hc ⟨e, hall⟩
        have hc' : (cds z)[i]? = some c := by rw [← hc]; exact Array.getElem?_toList
        refine ⟨_, rfl, _, _, rfl, rfl, _, rfl, ?_⟩
        rw [show (!decide ((⟨#[c]⟩ : Str).cps.toList < (Str.ofString "a").cps.toList)) = decide (97 ≤ c) from lt_sign c 97]
        by_cases ha : 97 ≤ c
        · refine iffT (decide_eq_true ha) ⟨_, _, rfl, rfl, _, rfl, ?_⟩
          rw [show (!decide ((Str.ofString "z").cps.toList < (⟨#[c]⟩ : Str).cps.toList)) = decide (c ≤ 122) from lt_sign 122 c]
          by_cases hz : c ≤ 122
          · rw [if_neg (by rw [decide_eq_true hz]; decide)]
            exact ⟨e, by rw [get_all hc', hall, decide_eq_true (And.intro ha hz)]; rfl⟩
          · rw [if_pos (decide_eq_false hz)]
            refine ⟨_, rfl, iffT rfl (qb ?_ _ e)⟩
            rw [goodS, all_false hc' (decide_eq_false (fun e => hz e.2))]; simp
        · refine iffF (decide_eq_false ha) ⟨_, rfl, ?_⟩
          rw [if_pos rfl]
          refine ⟨_, rfl, iffT rfl (qb ?_ _ e)⟩
          rw [goodS, all_false hc' (decide_eq_false (fun e => ha e.1))]; simp
      · rintro H' ⟨e, hall⟩
        rw [← hn, List.take_length] at hall
        refine ⟨_, rfl, iffF rfl ?_⟩
        refine ⟨.str z, rfl, z, rfl, hz, .str z, rfl, .str z, _, rfl, ⟨ln, rfl⟩, rfl, _, rfl, ?_⟩
        rw [dec_int]
        by_cases hu : unlike z z.cps.size = z.cps.size
        · refine iffF (by rw [hu]; simp; rfl) (qg ?_ _ e)
          rw [goodS, hall, decide_eq_true h1, decide_eq_true h4, decide_eq_true hu]; rfl
        · refine iffT (by rw [Bool.not_eq_true', beq_eq_false_iff_ne]; intro h; exact hu (Int.ofNat.inj h)) (qb ?_ _ e)
          rw [goodS, decide_eq_false hu]; simp
    · refine iffT (by rw [Bool.not_eq_true', decide_eq_false_iff_not]; show ¬ ((z.cps.size : Nat) : Int) ≤ 4; omega) ?_
      exact qb (by simp [goodS, h4]) _ (Ext.refl _)
  · refine iffF (decide_eq_false (by show ¬ (1 : Int) ≤ ((z.cps.size : Nat) : Int); omega)) ⟨_, rfl, iffT rfl ?_⟩
    exact qb (by simp [goodS, h1]) _ (Ext.refl _)
end
end Bo
set_option Elab.async false
set_option linter.all false
set_option maxRecDepth 100000
/-! list.extend(a tuple) -/
namespace GE
open PySem PySem.Spec PyProof.Rows L2 PySem.AutoSeq1
theorem list_extend_tuple (l : Addr) (items : Array Value) (n : Nat) (b : Addr) (items2 : Array Value) (n2 : Nat) (dd : Option Addr) (sl : Array (Option Value)) (hs0 : ¬(!items.isEmpty && Builtin.List.listTooLong (items.size + items2.size)) = true) (hs1 : items.size ≤ sizeLine) (hs2 : items.size + items2.size ≤ sizeLine + 1) :
    Meets (Builtin.«list.extend» ⟨[.ref l, .ref b], []⟩) (fun _ R s => s.heap.get? l = some { cls := .type "list", dict := none, data := .seq items n, slots := #[] } ∧ s.heap.get? b = some { cls := .type "tuple", dict := dd, data := .seq items2 n2, slots := sl } ∧ R (.ok (.ret Value.none)) { s with heap := s.heap.update l (Obj.mapSeq fun x => x ++ items2), toks := s.toks }) :=
  .of_wp fun prog w A R s h => by
    obtain ⟨hp, g, d, tk, os⟩ := s; obtain ⟨hl, hb, h⟩ := h; have f1 := idx_int; have f2 := AutoSeq1.sub_tuple_tuple; have f3 := AutoSeq1.sub_list_list; have f4 := AutoSeq1.sub_tuple_list; have f5 := AutoSeq1.sub_list_tuple;
    have hz' : (items ++ items2).size ≤ sizeLine + 1 := by rw [Array.size_append]; exact hs2
    wp_walk using (wpAny_updateSeq hl rfl (hz := hs1) (_hz' := hz')), AutoSeq1.wpAny_loadPart' hl, AutoSeq1.wpAny_loadPart' hb; exact ⟨_, rfl, h⟩
variable {X : Cx}
def rExtendTu : V → List V → Hp → VK → Prop := fun x vs H Q => ∃ l b xs zs, x = .ref l ∧ vs = [.ref b] ∧ H l = some (.lst xs) ∧ SqT X.K H b zs ∧ xs.length + zs.length ≤ sizeLine ∧ Q .non (upd H l (.lst (xs ++ zs)))
theorem mt_extendT : MtM X "list.extend" (rExtendTu (X := X)) := by
  intro pins s σ H x vs v us Q I rx rv h
  obtain ⟨l, b, xs, zs, rfl, rfl, hH, hB, hz, q⟩ := h
  cases rx
  obtain ⟨u, rfl, ru⟩ := rv.one
  cases ru
  obtain ⟨z, its, n, r, hl, e⟩ := I.lstM hH
  obtain ⟨its2, r2, ⟨⟨oc, od, odat, osl⟩, e2, ec, n2, ed⟩, _⟩ := I.tuple hB
  have ec : oc = .type "tuple" := ec
  have ed : odat = .seq its2.toArray n2 := ed
  subst ec
  subst ed
  have hl2 := r2.length
  have hsz : its.toArray.size + its2.toArray.size ≤ sizeLine := by rw [List.size_toArray, List.size_toArray]; omega
  have hlong : ¬ (!its.toArray.isEmpty && Builtin.List.listTooLong (its.toArray.size + its2.toArray.size)) = true := by
    rw [notLongL hsz, Bool.and_false]
    exact Bool.false_ne_true
  refine call_meets F.slot_list_extend ⟨_, e, rfl⟩ F.entry_list_extend (F.args_list_extend_2 _ _)
    (list_extend_tuple l its.toArray n b its2.toArray n2 od osl hlong (by rw [List.size_toArray]; omega) (by omega)) ⟨e, e2, ?_⟩
  refine ⟨.non, _, I.lset (its' := its ++ its2) hH e (by simp) (r.append r2) ?_, rfl, q⟩
  rw [List.length_append]
  omega
end GE
set_option Elab.async false
set_option linter.all false
set_option maxRecDepth 100000
/-! a list beside the empty list -/
namespace GE
open PySem PySem.Spec PyProof.Rows L2
variable {X : Cx}
def rEqNil (K : PySem.W.Frag) : R2 := fun x y H Q => ∃ a b xs, x = .ref a ∧ y = .ref b ∧ SqL K H a xs ∧ SqL K H b [] ∧ Q (.bl xs.isEmpty) H
def rNeNil (K : PySem.W.Frag) : R2 := fun x y H Q => ∃ a b xs, x = .ref a ∧ y = .ref b ∧ SqL K H a xs ∧ SqL K H b [] ∧ Q (.bl (!xs.isEmpty)) H
theorem op_eqNil (hu : X.A.units + 64 < cLine) : OpR X (compareOp .Eq) (rEqNil X.K) := by
  intro pins s σ H x y v u Q I rx ry h
  obtain ⟨a, b, xs, rfl, rfl, hs, hb, q⟩ := h
  cases (show v = Value.ref a from rx)
  cases (show u = Value.ref b from ry)
  obtain ⟨us, r1, p1, _⟩ := I.list hs
  obtain ⟨ws, r2, p2, _⟩ := I.list hb
  have e2 : ws = [] := by cases r2; rfl
  subst e2
  cases xs with
  | nil =>
    have e1 : us = [] := by cases r1; rfl
    subst e1
    refine SeqAt.RcAt.lists (e := fun _ => true) p1.isList p2.isList rfl (by omega) (fun j h1 h2 => absurd h1 (by simp)) _ _ _ _ ?_
    exact ⟨.bl true, H, I, rfl, q⟩
  | cons x xs =>
    refine SeqAt.RcAt.lists_lengths p1.isList p2.isList ?_ (by omega) _ _ _ _ ⟨.bl false, H, I, rfl, q⟩
    have := r1.length
    simp only [List.size_toArray, ← this]
    simp
theorem op_neNil (hu : X.A.units + 64 < cLine) : OpR X (compareOp .NotEq) (rNeNil X.K) := by
  intro pins s σ H x y v u Q I rx ry h
  obtain ⟨a, b, xs, rfl, rfl, hs, hb, q⟩ := h
  cases (show v = Value.ref a from rx)
  cases (show u = Value.ref b from ry)
  obtain ⟨us, r1, p1, _⟩ := I.list hs
  obtain ⟨ws, r2, p2, _⟩ := I.list hb
  have e2 : ws = [] := by cases r2; rfl
  subst e2
  cases xs with
  | nil =>
    have e1 : us = [] := by cases r1; rfl
    subst e1
    refine SeqAt.RcNeAt.lists (e := fun _ => true) p1.isList p2.isList rfl (by omega) (fun j h1 h2 => absurd h1 (by simp)) _ _ _ _ ?_
    exact ⟨.bl false, H, I, rfl, q⟩
  | cons x xs =>
    refine SeqAt.RcNeAt.lists_lengths p1.isList p2.isList ?_ (by omega) _ _ _ _ ⟨.bl true, H, I, rfl, q⟩
    have := r1.length
    simp only [List.size_toArray, ← this]
    simp
end GE
set_option Elab.async false
set_option linter.all false
set_option maxRecDepth 100000
set_option maxHeartbeats 4000000
namespace Bo
open PySem PySem.Spec PyProof.Rows L2 GE
mutual
/-- a pattern over the letters of L -/
def Pat.ok (L : Str) : Pat → Prop
  | .none => True | .empty => True
  | .sign c => c ∈ cds L
  | .row ps => 2 ≤ ps.length ∧ okL L ps
  | .or ps => 2 ≤ ps.length ∧ okL L ps
  | .and ps => 2 ≤ ps.length ∧ okL L ps
  | .many p => p.ok L | .not p => p.ok L
def okL (L : Str) : List Pat → Prop
  | [] => True
  | p :: ps => p.ok L ∧ okL L ps
end
def Pat.parts : Pat → List Pat
  | .row ps => ps | .or ps => ps | .and ps => ps
  | .many p => [p] | .not p => [p]
  | _ => []
theorem size_parts (p : Pat) : p.size = sizeL p.parts + 1 := by cases p <;> simp [Pat.size, Pat.parts, sizeL]
theorem ok_parts {L : Str} {p : Pat} (h : p.ok L) : okL L p.parts := by
  cases p with
  | none => trivial
  | empty => trivial
  | sign => trivial
  | row ps => exact h.2
  | or ps => exact h.2
  | and ps => exact h.2
  | many p => exact ⟨h, trivial⟩
  | not p => exact ⟨h, trivial⟩
theorem sizeL_append : ∀ (ps qs : List Pat), sizeL (ps ++ qs) = sizeL ps + sizeL qs
  | [], qs => by simp [sizeL]
  | p :: ps, qs => by rw [List.cons_append, sizeL, sizeL, sizeL_append ps qs]; omega
theorem okL_append {L : Str} : ∀ {ps qs : List Pat}, okL L (ps ++ qs) ↔ okL L ps ∧ okL L qs
  | [], qs => by simp [okL]
  | p :: ps, qs => by rw [List.cons_append, okL, okL, okL_append (ps := ps)]; exact ⟨fun ⟨a, b, c⟩ => ⟨⟨a, b⟩, c⟩, fun ⟨⟨a, b⟩, c⟩ => ⟨a, b, c⟩⟩
theorem len_le_sizeL : ∀ ps : List Pat, ps.length ≤ sizeL ps
  | [] => Nat.le_refl _
  | p :: ps => by have := size_pos p; have := len_le_sizeL ps; rw [List.length_cons, sizeL]; omega
/-! patterns at values, in the heap or of the top -/
mutual
def PatQ (K : PySem.W.Frag) (H : Hp) : Pat → V → Prop
  | .none => fun v => ∃ a, v = .ref a ∧ SqT K H a [.str "none"]
  | .empty => fun v => ∃ a, v = .ref a ∧ SqT K H a [.str "empty"]
  | .sign c => fun v => ∃ a, v = .ref a ∧ SqT K H a [.str "sign", .str ⟨#[c]⟩]
  | .row ps => fun v => ∃ a b vs, v = .ref a ∧ SqT K H a [.str "row", .ref b] ∧ SqT K H b vs ∧ PatsQ K H ps vs
  | .or ps => fun v => ∃ a b vs, v = .ref a ∧ SqT K H a [.str "or", .ref b] ∧ SqT K H b vs ∧ PatsQ K H ps vs
  | .and ps => fun v => ∃ a b vs, v = .ref a ∧ SqT K H a [.str "and", .ref b] ∧ SqT K H b vs ∧ PatsQ K H ps vs
  | .many p => fun v => ∃ a u, v = .ref a ∧ SqT K H a [.str "many", u] ∧ PatQ K H p u
  | .not p => fun v => ∃ a u, v = .ref a ∧ SqT K H a [.str "not", u] ∧ PatQ K H p u
def PatsQ (K : PySem.W.Frag) (H : Hp) : List Pat → List V → Prop
  | [] => fun vs => vs = []
  | p :: ps => fun vs => ∃ v r, vs = v :: r ∧ PatQ K H p v ∧ PatsQ K H ps r
end
/-- the tuples stay -/
def Tk (K : PySem.W.Frag) (H H' : Hp) : Prop := ∀ a xs, SqT K H a xs → SqT K H' a xs
theorem Tk.refl {K : PySem.W.Frag} (H : Hp) : Tk K H H := fun _ _ h => h
theorem Tk.trans {K : PySem.W.Frag} {H H1 H2 : Hp} (a : Tk K H H1) (b : Tk K H1 H2) : Tk K H H2 := fun x xs h => b x xs (a x xs h)
theorem Ext.sqT {K : PySem.W.Frag} {H H' : Hp} (e : Ext H H') : Tk K H H' := fun a xs h => by
  rcases h with (h | ⟨o, h⟩) | h
  · exact .inl (.inl (e.keep _ _ h (fun ps z => by cases z)))
  · exact .inl (.inr ⟨o, e.keep _ _ h (fun ps z => by cases z)⟩)
  · exact .inr h
mutual
theorem PatQ.ext {K : PySem.W.Frag} {H H' : Hp} (e : Tk K H H') : ∀ (p : Pat) (v : V), PatQ K H p v → PatQ K H' p v
  | .none, v, ⟨a, h1, h2⟩ => ⟨a, h1, e _ _ h2⟩
  | .empty, v, ⟨a, h1, h2⟩ => ⟨a, h1, e _ _ h2⟩
  | .sign c, v, ⟨a, h1, h2⟩ => ⟨a, h1, e _ _ h2⟩
  | .row ps, v, ⟨a, b, vs, h1, h2, h3, h4⟩ => ⟨a, b, vs, h1, e _ _ h2, e _ _ h3, PatsQ.ext e ps vs h4⟩
  | .or ps, v, ⟨a, b, vs, h1, h2, h3, h4⟩ => ⟨a, b, vs, h1, e _ _ h2, e _ _ h3, PatsQ.ext e ps vs h4⟩
  | .and ps, v, ⟨a, b, vs, h1, h2, h3, h4⟩ => ⟨a, b, vs, h1, e _ _ h2, e _ _ h3, PatsQ.ext e ps vs h4⟩
  | .many p, v, ⟨a, u, h1, h2, h3⟩ => ⟨a, u, h1, e _ _ h2, PatQ.ext e p u h3⟩
  | .not p, v, ⟨a, u, h1, h2, h3⟩ => ⟨a, u, h1, e _ _ h2, PatQ.ext e p u h3⟩
theorem PatsQ.ext {K : PySem.W.Frag} {H H' : Hp} (e : Tk K H H') : ∀ (ps : List Pat) (vs : List V), PatsQ K H ps vs → PatsQ K H' ps vs
  | [], vs, h => h
  | p :: ps, vs, ⟨v, r, h1, h2, h3⟩ => ⟨v, r, h1, PatQ.ext e p v h2, PatsQ.ext e ps r h3⟩
end
theorem PatsQ.len {K : PySem.W.Frag} {H : Hp} : ∀ {ps : List Pat} {vs : List V}, PatsQ K H ps vs → vs.length = ps.length
  | [], vs, h => by rw [show vs = [] from h]; rfl
  | p :: ps, vs, ⟨v, r, e, _, h⟩ => by rw [e, List.length_cons, List.length_cons, h.len]
theorem PatsQ.append {K : PySem.W.Frag} {H : Hp} : ∀ {ps qs : List Pat} {vs us : List V}, PatsQ K H ps vs → PatsQ K H qs us → PatsQ K H (ps ++ qs) (vs ++ us)
  | [], qs, vs, us, h, g => by rw [show vs = [] from h]; exact g
  | p :: ps, qs, vs, us, ⟨v, r, e, a, b⟩, g => by rw [e]; exact ⟨v, r ++ us, rfl, a, b.append g⟩
theorem PatsQ.cut {K : PySem.W.Frag} {H : Hp} : ∀ {ps qs : List Pat} {vs : List V}, PatsQ K H (ps ++ qs) vs → ∃ us ws, vs = us ++ ws ∧ PatsQ K H ps us ∧ PatsQ K H qs ws
  | [], qs, vs, h => ⟨[], vs, rfl, rfl, h⟩
  | p :: ps, qs, vs, ⟨v, r, e, a, b⟩ => by
    obtain ⟨us, ws, e2, c, d⟩ := PatsQ.cut (ps := ps) b
    exact ⟨v :: us, ws, by rw [e, e2]; rfl, ⟨v, us, rfl, a, c⟩, d⟩
theorem PatsQ.one {K : PySem.W.Frag} {H : Hp} {p : Pat} {v : V} (h : PatQ K H p v) : PatsQ K H [p] [v] := ⟨v, [], rfl, h, rfl⟩
theorem PatsQ.get {K : PySem.W.Frag} {H : Hp} : ∀ {ps : List Pat} {vs : List V} {i : Nat} {v : V}, PatsQ K H ps vs → vs[i]? = some v → ∃ p, ps[i]? = some p ∧ PatQ K H p v
  | [], vs, i, v, h, e => by rw [show vs = [] from h] at e; cases e
  | p :: ps, vs, 0, v, ⟨u, r, h, a, b⟩, e => by
    rw [h] at e
    cases (Option.some.inj e : u = v)
    exact ⟨p, rfl, a⟩
  | p :: ps, vs, i + 1, v, ⟨u, r, h, a, b⟩, e => by
    rw [h] at e
    exact PatsQ.get (ps := ps) b e
/-- a value by its kind and the rest -/
theorem PatQ.hd {K : PySem.W.Frag} {H : Hp} : ∀ {p : Pat} {v : V}, PatQ K H p v → ∃ a xs, v = .ref a ∧ SqT K H a (.str p.kind :: xs)
  | .none, _, ⟨a, e, h⟩ => ⟨a, _, e, h⟩
  | .empty, _, ⟨a, e, h⟩ => ⟨a, _, e, h⟩
  | .sign _, _, ⟨a, e, h⟩ => ⟨a, _, e, h⟩
  | .row _, _, ⟨a, b, vs, e, h, _⟩ => ⟨a, _, e, h⟩
  | .or _, _, ⟨a, b, vs, e, h, _⟩ => ⟨a, _, e, h⟩
  | .and _, _, ⟨a, b, vs, e, h, _⟩ => ⟨a, _, e, h⟩
  | .many _, _, ⟨a, u, e, h, _⟩ => ⟨a, _, e, h⟩
  | .not _, _, ⟨a, u, e, h, _⟩ => ⟨a, _, e, h⟩
/-! the words of a written pattern -/
inductive Tok where
  | bang | star | amp | bar | unit | null | lp | rp
  | sgn (c : Nat)
  | bad (c : Nat)
/-- the codes of a word -/
def Tok.cs : Tok → List Nat
  | .bang => [33] | .star => [42] | .amp => [38] | .bar => [124] | .unit => [40, 41] | .null => [91, 93] | .lp => [40] | .rp => [41] | .sgn c => [c] | .bad c => [c]
/-- which parts stand in brackets -/
def brk (ks : List Str) (p : Pat) : Bool := decide (p.kind ∈ ks)
def setOf : Str → List Str := fun k => if k = "row" then ["row", "and", "or"] else if k = "and" then ["and", "or"] else if k = "or" then ["or"] else if k = "many" then ["row", "and", "or", "not"] else ["row", "and", "or"]
def inB (b : Bool) (t : List Tok) : List Tok := if b = true then .lp :: (t ++ [.rp]) else t
mutual
/-- the words that write a pattern -/
def tw : Pat → List Tok
  | .none => [.null]
  | .empty => [.unit]
  | .sign c => [.sgn c]
  | .many p => inB (brk ["row", "and", "or", "not"] p) (tw p) ++ [.star]
  | .not p => .bang :: inB (brk ["row", "and", "or"] p) (tw p)
  | .row ps => twL [] ["row", "and", "or"] ps
  | .and ps => twL [.amp] ["and", "or"] ps
  | .or ps => twL [.bar] ["or"] ps
/-- parts with a mark between -/
def twL (m : List Tok) (ks : List Str) : List Pat → List Tok
  | [] => []
  | p :: ps => inB (brk ks p) (tw p) ++ twM m ks ps
/-- more parts, a mark ahead of each -/
def twM (m : List Tok) (ks : List Str) : List Pat → List Tok
  | [] => []
  | p :: ps => m ++ (inB (brk ks p) (tw p) ++ twM m ks ps)
end
/-- the text that writes a pattern -/
def shn (p : Pat) : List Nat := (tw p).flatMap Tok.cs
/-- a level of what is read -/
structure Lv where
  bs : List Pat
  hs : List Pat
  row : List (Nat × Pat)
  n : Nat
def Lv.new : Lv := ⟨[], [], [], 0⟩
def nt : Nat → Pat → Pat
  | 0, p => p
  | n + 1, p => .not (nt n p)
def tog (mk : List Pat → Pat) : List Pat → Pat
  | [p] => p
  | ps => mk ps
def Lv.ready (l : Lv) : Bool := decide (l.n = 0) && !l.row.isEmpty
def Lv.takeNot (l : Lv) : Lv := { l with n := l.n + 1 }
def Lv.takeAtom (l : Lv) (p : Pat) : Lv := { l with row := l.row ++ [(l.n, p)], n := 0 }
def Lv.halved (l : Lv) : Lv := { l with hs := l.hs ++ [tog .row (l.row.map fun q => nt q.1 q.2)], row := [] }
def Lv.branched (l : Lv) : Lv := ⟨l.bs ++ [tog .and l.halved.hs], [], [], l.n⟩
def Lv.said (l : Lv) : Pat := tog .or l.branched.bs
def Lv.starred (l : Lv) : Lv := match l.row.getLast? with
  | some (k, p) => { l with row := l.row.dropLast ++ [(k, .many p)] }
  | none => l
/-- one word, at the levels from the innermost to the outermost; none: it is refused -/
def stepT : Tok → List Lv × Lv → Option (List Lv × Lv)
  | .bang, (s, l) => some (s, l.takeNot)
  | .star, (s, l) => if l.ready = true then some (s, l.starred) else none
  | .amp, (s, l) => if l.ready = true then some (s, l.halved) else none
  | .bar, (s, l) => if l.ready = true then some (s, l.branched) else none
  | .unit, (s, l) => some (s, l.takeAtom .empty)
  | .null, (s, l) => some (s, l.takeAtom .none)
  | .sgn c, (s, l) => some (s, l.takeAtom (.sign c))
  | .bad _, _ => none
  | .lp, (s, l) => some (l :: s, .new)
  | .rp, (s, l) => match s with
    | [] => none
    | o :: s' => if l.ready = true then some (s', o.takeAtom l.said) else none
def runT : List Tok → List Lv × Lv → Option (List Lv × Lv)
  | [], st => some st
  | t :: ts, st => (stepT t st).bind (runT ts)
theorem runT_app : ∀ (a b : List Tok) (st : List Lv × Lv), runT (a ++ b) st = (runT a st).bind (runT b)
  | [], b, st => rfl
  | t :: a, b, st => by
    show (stepT t st).bind (runT (a ++ b)) = ((stepT t st).bind (runT a)).bind (runT b)
    cases stepT t st with
    | none => rfl
    | some s1 => exact runT_app a b s1
/-- how many nots stand ahead of a pattern, and what is behind them -/
def nn : Pat → Nat
  | .not p => nn p + 1
  | _ => 0
def core : Pat → Pat
  | .not p => core p
  | p => p
theorem nt_core : ∀ p : Pat, nt (nn p) (core p) = p
  | .not p => congrArg Pat.not (nt_core p)
  | .none => rfl | .empty => rfl | .sign _ => rfl | .row _ => rfl | .or _ => rfl | .and _ => rfl | .many _ => rfl
theorem nt_add : ∀ (m n : Nat) (p : Pat), nt (m + n) p = nt m (nt n p)
  | 0, n, p => by rw [Nat.zero_add]; rfl
  | m + 1, n, p => by rw [Nat.succ_add]; exact congrArg Pat.not (nt_add m n p)
/-- a whole text of words is read to the pattern -/
def Whole (p : Pat) : Prop := ∀ s, ∃ l, runT (tw p) (s, .new) = some (s, l) ∧ l.ready = true ∧ l.said = p
/-- an item -/
def Item (ks : List Str) (p : Pat) : Prop := ∀ s l, ∃ k a, runT (inB (brk ks p) (tw p)) (s, l) = some (s, { l with row := l.row ++ [(l.n + k, a)], n := 0 }) ∧ nt k a = p
theorem item_in {ks : List Str} {p : Pat} (h : Whole p) (hb : brk ks p = true) : ∀ s l, runT (inB (brk ks p) (tw p)) (s, l) = some (s, { l with row := l.row ++ [(l.n, p)], n := 0 }) := by
  intro s l
  obtain ⟨l', h1, h2, h3⟩ := h (l :: s)
  rw [hb]
  show (some (l :: s, Lv.new)).bind (runT (tw p ++ [.rp])) = _
  show runT (tw p ++ [.rp]) (l :: s, Lv.new) = _
  rw [runT_app, h1]
  show ((if l'.ready = true then some (s, l.takeAtom l'.said) else none : Option (List Lv × Lv))).bind (runT []) = _
  rw [if_pos h2, h3]
  rfl
end Bo
set_option Elab.async false
set_option linter.all false
set_option maxRecDepth 100000
set_option maxHeartbeats 4000000
namespace Bo
open PySem PySem.Spec PyProof.Rows L2 GE
def ntq (q : Nat × Pat) : Pat := nt q.1 q.2
theorem ready_of {bs hs : List Pat} {row : List (Nat × Pat)} (h : row ≠ []) : (⟨bs, hs, row, 0⟩ : Lv).ready = true := by
  cases row with
  | nil => exact absurd rfl h
  | cons x xs => rfl
theorem tog_two {mk : List Pat → Pat} {ps : List Pat} (h : 2 ≤ ps.length) : tog mk ps = mk ps := by
  match ps, h with
  | _ :: _ :: _, _ => rfl
end Bo
set_option Elab.async false
set_option linter.all false
set_option maxRecDepth 100000
set_option maxHeartbeats 4000000
namespace Bo
open PySem PySem.Spec PyProof.Rows L2 GE
def sgn (c : Nat) : Str := ⟨#[c]⟩
def txt (l : List Nat) : Str := ⟨l.toArray⟩
theorem cds_txt (l : List Nat) : cds (txt l) = l := rfl
theorem txt_cds (z : Str) : txt (cds z) = z := by cases z; rfl
theorem txt_inj {a b : List Nat} (h : txt a = txt b) : a = b := congrArg cds h
/-- the word of one sign -/
def one1 (L : Str) (c : Nat) : Tok := if c = 33 then .bang else if c = 42 then .star else if c = 38 then .amp else if c = 124 then .bar else if c = 40 then .lp else if c = 41 then .rp else if c ∈ cds L then .sgn c else .bad c
theorem one1_cs (L : Str) (c : Nat) : (one1 L c).cs = [c] := by
  unfold one1
  repeat' split
  all_goals first
    | rfl
    | (rename_i h; rw [h]; rfl)
/-- the words of a text -/
def tokz (L : Str) : List Nat → List Tok
  | [] => []
  | [c] => [one1 L c]
  | c :: d :: r => if c = 40 ∧ d = 41 then .unit :: tokz L r else if c = 91 ∧ d = 93 then .null :: tokz L r else one1 L c :: tokz L (d :: r)
theorem tokz_cs (L : Str) : ∀ z : List Nat, (tokz L z).flatMap Tok.cs = z
  | [] => rfl
  | [c] => by rw [tokz, List.flatMap_cons, one1_cs]; rfl
  | c :: d :: r => by
    rw [tokz]
    split
    · rename_i h; rw [List.flatMap_cons, tokz_cs L r, h.1, h.2]; rfl
    · split
      · rename_i h; rw [List.flatMap_cons, tokz_cs L r, h.1, h.2]; rfl
      · rw [List.flatMap_cons, one1_cs, tokz_cs L (d :: r)]; rfl
/-- the first word, by the first two signs -/
theorem tokz_cons (L : Str) (c : Nat) (r : List Nat) : ∃ t r', tokz L (c :: r) = t :: tokz L r' ∧ c :: r = t.cs ++ r' ∧ decide (txt ((c :: r).take 2) ∈ ([txt [40, 41], txt [91, 93]] : List Str)) = decide (t.cs.length = 2) := by
  have one : decide (txt ((c :: r).take 2) ∈ ([txt [40, 41], txt [91, 93]] : List Str)) = false → tokz L (c :: r) = one1 L c :: tokz L r → ∃ t r', tokz L (c :: r) = t :: tokz L r' ∧ c :: r = t.cs ++ r' ∧ decide (txt ((c :: r).take 2) ∈ ([txt [40, 41], txt [91, 93]] : List Str)) = decide (t.cs.length = 2) := fun h e =>
    ⟨one1 L c, r, e, by rw [one1_cs]; rfl, by rw [h, one1_cs]; rfl⟩
  cases r with
  | nil =>
    refine one (decide_eq_false fun h => ?_) rfl
    simp only [List.mem_cons, List.not_mem_nil, or_false] at h
    rcases h with h | h
    · have h := txt_inj h; simp at h
    · have h := txt_inj h; simp at h
  | cons d r =>
    by_cases h1 : c = 40 ∧ d = 41
    · exact ⟨.unit, r, by rw [tokz, if_pos h1], by rw [h1.1, h1.2]; rfl, by rw [h1.1, h1.2]; rfl⟩
    · by_cases h2 : c = 91 ∧ d = 93
      · exact ⟨.null, r, by rw [tokz, if_neg h1, if_pos h2], by rw [h2.1, h2.2]; rfl, by rw [h2.1, h2.2]; rfl⟩
      · refine one (decide_eq_false fun h => ?_) (by rw [tokz, if_neg h1, if_neg h2])
        simp only [List.mem_cons, List.not_mem_nil, or_false] at h
        rcases h with h | h
        · have h := txt_inj h
          simp at h
          exact h1 h
        · have h := txt_inj h
          simp at h
          exact h2 h
/-- what a word of a text is -/
def okT (L : Str) : Tok → Prop
  | .sgn c => c ∈ cds L
  | .bad c => c ∉ cds L ∧ c ≠ 33 ∧ c ≠ 42 ∧ c ≠ 38 ∧ c ≠ 124 ∧ c ≠ 40 ∧ c ≠ 41
  | _ => True
theorem one1_ok (L : Str) (c : Nat) : okT L (one1 L c) := by
  unfold one1
  repeat' split
  all_goals first
    | trivial
    | assumption
    | exact ⟨by assumption, by assumption, by assumption, by assumption, by assumption, by assumption, by assumption⟩
theorem tokz_ok (L : Str) : ∀ z : List Nat, ∀ x ∈ tokz L z, okT L x
  | [], x, hx => by cases hx
  | [c], x, hx => by rw [List.mem_singleton.mp hx]; exact one1_ok L c
  | c :: d :: r, x, hx => by
    rw [tokz] at hx
    split at hx
    · rcases List.mem_cons.mp hx with rfl | hx
      · trivial
      · exact tokz_ok L r x hx
    · split at hx
      · rcases List.mem_cons.mp hx with rfl | hx
        · trivial
        · exact tokz_ok L r x hx
      · rcases List.mem_cons.mp hx with rfl | hx
        · exact one1_ok L c
        · exact tokz_ok L (d :: r) x hx
def lenT (ts : List Tok) : Nat := (ts.flatMap Tok.cs).length
theorem lenT_app (a b : List Tok) : lenT (a ++ b) = lenT a + lenT b := by unfold lenT; rw [List.flatMap_append, List.length_append]
theorem cutS_nat {z : Str} {i j : Nat} (hi : i ≤ (cds z).length) : cutS z (Option.some (i : Int)) (Option.some (j : Int)) = txt (((cds z).drop i).take (j - i)) := by
  have hl : z.cps.toList.length = z.length := Array.length_toList
  have hi : i ≤ z.cps.toList.length := hi
  unfold cutS
  rw [HT.sIx_nat, HT.sIx_nat, show min i z.length = i by omega]
  refine congrArg txt ?_
  by_cases h : j ≤ z.length
  · rw [Nat.min_eq_left h]
  · rw [Nat.min_eq_right (by omega)]
    rw [List.take_of_length_le (by rw [List.length_drop]; omega), List.take_of_length_le (by show (List.drop i z.cps.toList).length ≤ _; rw [List.length_drop]; omega)]
def tkS (t : Tok) : Str := txt t.cs
theorem cs_len (t : Tok) : 1 ≤ t.cs.length ∧ t.cs.length ≤ 2 := by cases t <;> simp [Tok.cs]
end Bo
set_option Elab.async false
set_option linter.all false
set_option maxRecDepth 100000
set_option maxHeartbeats 4000000
namespace Bo
open PySem PySem.Spec PyProof.Rows L2 GE
/-- FunD.ok where something may be let out -/
theorem okX {P : Program} {w : World} {K : PySem.W.Frag} {mg : Str → Option Value} {base : Heap} {CX : CXT} {x qual : Str} {params : Arguments} {body : List Stmt} {scope : Scope} {dvs : List V} {kws : List (Str × V)} {f : Addr} {fd : FuncData} {N ps : List Str} {k : Nat} {sp : Sp} (F : FunD K x qual params body scope dvs kws f fd) (S : FnScope N ps scope) (len : ∀ vs H Q E, sp vs H Q E → vs.length = ps.length)
    (hbody : ∀ (cdv : Value) (A : Around) (outer : List Env) (s : Shared) (H : Hp) (vs : List V) (Q : VK) (E : XK), Room k (A.deeper (envOfC qual scope s.heap.objs.size f cdv)) → sp vs H Q E →
      ∃ t, PSs (cxOf CX P w K mg base N qual scope f cdv A outer s H E) body t ∧ t { nx := fun _ H' => Q .non H', rt := Q } (start N vs) H) : FnOk P w K mg base CX (k + 1) f fd ps sp := by
  obtain ⟨oc, od, dV, kV, doc, pm, an, cdv, ct, osl, e, lk, hcd, _, _⟩ := F.ex
  subst e
  exact fn_of lk hcd S len fun A outer s H vs Q E hr hsp => hbody _ A outer s H vs Q E hr hsp
/-- what is never come to -/
theorem pss_never {X : Cx} {body : List Stmt} : PSs X body (fun _ _ _ => False) := ⟨fun _ _ _ _ _ _ h => h.elim⟩
/-- a method of Level -/
abbrev MtP (K : PySem.W.Frag) (x q : Str) (st : Stmt) (f : Addr) (fd : FuncData) : Prop := FunD K x q (defArgs st) (defBody st) (defScope st) [] [] f fd
def spWd (L : Str) : Sp := fun vs H Q _ => ∃ (z : List Nat), vs = [.str (txt z)] ∧ z.length ≤ 400 ∧ ∀ r H', H r = none → Ext H H' → H' r = some (.lst ((tokz L z).map fun t => .str (tkS t))) → Q (.ref r) H'
theorem len_lenT : ∀ ts : List Tok, ts.length ≤ lenT ts
  | [] => Nat.le_refl _
  | x :: xs => by
    have := (cs_len x).1
    have ih := len_lenT xs
    have h9 : lenT (x :: xs) = x.cs.length + lenT xs := by show lenT ([x] ++ xs) = _; rw [lenT_app]; show ([x].flatMap Tok.cs).length + _ = _; simp
    rw [List.length_cons]; omega
section
variable {P : Program} {w : World} {K : PySem.W.Frag} {mg : Str → Option Value} {base : Heap}
theorem scWd : FnScope ["text", "found", "at", "size"] ["text"] (defScope sWords) := ⟨rfl, rfl, rfl, by decide +kernel, rfl, by decide +kernel, by decide +kernel⟩
theorem wd_ok {L : Str} {f : Addr} {fd : FuncData} (F : FnP K "words" sWords f fd) (ml : mg "len" = none) : FnOk P w K mg base CX0 1 f fd ["text"] (spWd L) := by
  refine okD F scWd (fun vs H Q E h => ?_) (fun cdv A outer s H vs Q E hr h => ?_)
  · obtain ⟨z, rfl, _⟩ := h
    rfl
  obtain ⟨z, rfl, hlen, q⟩ := h
  refine ⟨_, (pss_cons (ps_set (i := 1) scWd.nd rfl (Or.inl rfl) (pe_lst pa_nil)) (pss_cons (ps_set (i := 2) scWd.nd rfl (Or.inl rfl) pe_int) (pss_cons (ps_while PassesOwn.never (pt_cmpR op_lt (pv 2) (pe_callB call_len rfl ml PySem.boot_len (pa_cons (pv 0) pa_nil)) (nomark _))
      (pss_cons (ps_set (i := 3) scWd.nd rfl (Or.inl rfl) (pe_ifExp (pt_cmpR op_in_seq (pe_slice sl_str (pv 0) (po_some (pv 2)) (po_some (pe_op op_add (pv 2) pe_int))) (pe_tup (pa_cons pe_str (pa_cons pe_str pa_nil))) (by rfl)) pe_int pe_int)) (pss_cons (ps_expr (pe_bm PySem.F.plainAttrs_list PySem.F.slot_list_append PySem.F.type_list_append mt_append (pv 1) (pa_cons (pe_slice sl_str (pv 0) (po_some (pv 2)) (po_some (pe_op op_add (pv 2) (pv 3)))) pa_nil))) (pss_one (ps_aug (i := 2) scWd.nd rfl (Or.inl rfl) (pv 3) ip_add))))) (pss_one (ps_ret (pv 1)))))), ?_⟩
  have hlt : (txt z).length = z.length := List.size_toArray
  have hz : (txt z).length ≤ sizeLine := Nat.le_trans (by rw [hlt]; exact hlen) (by decide)
  have hall := len_lenT (tokz L z)
  have hlz : lenT (tokz L z) = z.length := congrArg List.length (tokz_cs L z)
  refine t_set ⟨Nat.zero_le _, fun l x0 => ?_⟩
  refine t_setC (t_seq ?_)
  refine ⟨fun m σ H' => ∃ (a : List Tok) (r : List Nat) (c3 : Option V), σ = [some (.str (txt z)), some (.ref l), some (nV (lenT a)), c3] ∧ Ext H H' ∧ H' l = some (.lst (a.map fun t => .str (tkS t))) ∧ a ++ tokz L r = tokz L z ∧ z = a.flatMap Tok.cs ++ r ∧ m = r.length,
    ⟨z.length, [], z, none, rfl, Ext.new x0, upd_same, rfl, rfl, rfl⟩, ?_⟩
  rintro m σ H1 ⟨a, r, c3, rfl, e, hl, har, hzr, rfl⟩
  have hla : lenT a + r.length = z.length := by
    have := congrArg List.length hzr
    rw [List.length_append] at this
    exact this.symm
  refine ⟨_, rfl, _, rfl, .str (txt z), _, rfl, ⟨hz, rfl⟩, _, _, rfl, rfl, _, rfl, ?_⟩
  cases r with
  | nil =>
    refine iffF (decide_eq_false (by rw [hlt]; have : ([] : List Nat).length = 0 := rfl; omega)) ?_
    have e9 : a = tokz L z := by rw [← har]; simp [tokz]
    rw [e9] at hl
    exact ⟨_, rfl, q l H1 x0 e hl⟩
  | cons c r =>
    obtain ⟨t, r', htk, hcr, hft⟩ := tokz_cons L c r
    have h12 := cs_len t
    have hrl : (c :: r).length = t.cs.length + r'.length := by rw [hcr, List.length_append]
    have hdrop : z.drop (lenT a) = c :: r := by
      conv => lhs; rw [hzr]
      exact List.drop_left
    have hcut : ∀ k : Nat, cutS (txt z) (some ((lenT a : Nat) : Int)) (some (((lenT a : Nat) : Int) + (k : Int))) = txt ((c :: r).take k) := fun k => by
      have h := cutS_nat (z := txt z) (i := lenT a) (j := lenT a + k) (by show lenT a ≤ z.length; omega)
      rw [Int.natCast_add] at h
      rw [h, show lenT a + k - lenT a = k by omega]
      exact congrArg (fun l => txt (l.take k)) hdrop
    refine iffT (decide_eq_true (by rw [hlt]; rw [List.length_cons] at hla; omega)) ⟨fun σ' H2 => ∃ m' < (c :: r).length, ∃ (a : List Tok) (r : List Nat) (c3 : Option V), σ' = [some (.str (txt z)), some (.ref l), some (nV (lenT a)), c3] ∧ Ext H H2 ∧ H2 l = some (.lst (a.map fun t => .str (tkS t))) ∧ a ++ tokz L r = tokz L z ∧ z = a.flatMap Tok.cs ++ r ∧ m' = r.length, fun σ' H2 ⟨m', h1, h2⟩ => ⟨m', h1, h2⟩, ?_⟩
    refine t_set ⟨_, rfl, _, rfl, _, rfl, _, rfl, _, _, rfl, rfl, _, rfl, _, rfl, hz, by show 2 ≤ sizeLine; decide, fun p np => ⟨p, _, rfl, .inr (SqT.of upd_same), rfl, by decide, _, rfl, ?_⟩⟩
    have hin : inV (V.str (cutS (txt z) (some ((lenT a : Nat) : Int)) (some (((lenT a : Nat) : Int) + 2)))) [V.str "()", V.str "[]"] = decide (t.cs.length = 2) := by
      rw [show (((lenT a : Nat) : Int) + 2) = (((lenT a : Nat) : Int) + ((2 : Nat) : Int)) from rfl, hcut 2]
      exact (inV_str _ [txt [40, 41], txt [91, 93]]).trans hft
    rw [hin]
    have e1 := e.trans (Ext.new (o := .tup [V.str "()", .str "[]"]) np)
    have hl1 := (Ext.new (o := .tup [V.str "()", .str "[]"]) np).lst hl
    refine Classical.byContradiction fun hno => ?_
    have fin : ∀ (k : Nat) (y : Str) (n : Int), k = t.cs.length → y = tkS t → n = ((lenT a : Nat) : Int) + (k : Int) → ∃ (a' : List Tok) (r2 : List Nat) (c3 : Option V), [some (V.str (txt z)), some (.ref l), some (.int n), some (nV k)] = [some (.str (txt z)), some (.ref l), some (nV (lenT a')), c3] ∧ Ext H (upd (upd H1 p (.tup [V.str "()", .str "[]"])) l (.lst ((a.map fun t => V.str (tkS t)) ++ [V.str y]))) ∧ (upd (upd H1 p (.tup [V.str "()", .str "[]"])) l (.lst ((a.map fun t => V.str (tkS t)) ++ [V.str y]))) l = some (.lst (a'.map fun t => .str (tkS t))) ∧ a' ++ tokz L r2 = tokz L z ∧ z = a'.flatMap Tok.cs ++ r2 ∧ r'.length = r2.length := fun k y n hk hy hn => by
      subst hk hy hn
      refine ⟨a ++ [t], r', some (nV t.cs.length), ?_, e1.wr x0, by rw [upd_same, List.map_append]; rfl, ?_, ?_, rfl⟩
      · rw [lenT_app, show lenT [t] = t.cs.length by show ([t].flatMap Tok.cs).length = _; simp, ← Int.natCast_add]
      · rw [List.append_assoc, ← har, htk]; rfl
      · rw [List.flatMap_append, List.append_assoc]
        conv => lhs; rw [hzr, hcr]
        simp
    have tcut : ∀ k : Nat, k = t.cs.length → cutS (txt z) (some ((lenT a : Nat) : Int)) (some (((lenT a : Nat) : Int) + ((k : Nat) : Int))) = tkS t := fun k hk => by
      rw [hcut, hk, hcr, List.take_left]; rfl
    have hlen1 : (a.map fun t => V.str (tkS t)).length < sizeLine := by
      rw [List.length_map]
      have := len_lenT a
      exact Nat.lt_of_le_of_lt (show a.length ≤ 400 by omega) (by decide)
    by_cases h2 : t.cs.length = 2
    · apply hno
      refine iffT (decide_eq_true h2) ?_
      refine t_seq ⟨_, rfl, .inl ⟨rfl, _, SqL.of hl1⟩, _, rfl, _, rfl, _, rfl, _, rfl, _, rfl, _, _, rfl, rfl, _, rfl, _, rfl, hz, l, _, _, rfl, rfl, hl1, hlen1, ?_⟩
      exact ⟨_, rfl, _, rfl, _, _, rfl, rfl, r'.length, by omega, fin 2 _ _ h2.symm (tcut 2 h2.symm) rfl⟩
    · have h1 : t.cs.length = 1 := by omega
      apply hno
      refine iffF (decide_eq_false h2) ?_
      refine t_seq ⟨_, rfl, .inl ⟨rfl, _, SqL.of hl1⟩, _, rfl, _, rfl, _, rfl, _, rfl, _, rfl, _, _, rfl, rfl, _, rfl, _, rfl, hz, l, _, _, rfl, rfl, hl1, hlen1, ?_⟩
      exact ⟨_, rfl, _, rfl, _, _, rfl, rfl, r'.length, by omega, fin 1 _ _ h1.symm (tcut 1 h1.symm) rfl⟩
end
end Bo
set_option Elab.async false
set_option linter.all false
set_option maxRecDepth 100000
set_option maxHeartbeats 4000000
namespace Bo
open PySem PySem.Spec PyProof.Rows L2 GE
/-! a level as an object -/
def lf (b h r : Addr) (n : Int) : List (Str × V) := [("branches", .ref b), ("halves", .ref h), ("row", .ref r), ("nots", .int n)]
theorem lk_b (b h r : Addr) (n : Int) : (lf b h r n).lookup ("branches" : Str) = some (.ref b) := rfl
theorem lk_h (b h r : Addr) (n : Int) : (lf b h r n).lookup ("halves" : Str) = some (.ref h) := rfl
theorem lk_r (b h r : Addr) (n : Int) : (lf b h r n).lookup ("row" : Str) = some (.ref r) := rfl
theorem lk_n (b h r : Addr) (n : Int) : (lf b h r n).lookup ("nots" : Str) = some (.int n) := rfl
theorem pf_n (b h r : Addr) (n m : Int) : putF ("nots" : Str) (.int m) (lf b h r n) = lf b h r m := rfl
theorem pf_r (b h r q : Addr) (n : Int) : putF ("row" : Str) (.ref q) (lf b h r n) = lf b h q n := rfl
theorem pf_h (b h r q : Addr) (n : Int) : putF ("halves" : Str) (.ref q) (lf b h r n) = lf b q r n := rfl
theorem lf_no (b h r : Addr) (n : Int) {m : Str} (h1 : m ≠ "branches") (h2 : m ≠ "halves") (h3 : m ≠ "row") (h4 : m ≠ "nots") : (lf b h r n).lookup m = none := by
  unfold lf
  simp only [List.lookup, beq_eq_false_iff_ne.mpr h1, beq_eq_false_iff_ne.mpr h2, beq_eq_false_iff_ne.mpr h3, beq_eq_false_iff_ne.mpr h4]
/-- where a level's object and its lists stand -/
structure La where
  o : Addr
  b : Addr
  h : Addr
  r : Addr
def La.foot (a : La) : List Addr := [a.o, a.b, a.h, a.r]
def RowQ (K : PySem.W.Frag) (H : Hp) : List (Nat × Pat) → List V → Prop
  | [] => fun vs => vs = []
  | (n, p) :: r => fun vs => ∃ t v us, vs = .ref t :: us ∧ SqT K H t [nV n, v] ∧ PatQ K H p v ∧ RowQ K H r us
theorem RowQ.ext {K : PySem.W.Frag} {H H' : Hp} (e : Tk K H H') : ∀ {row : List (Nat × Pat)} {vs : List V}, RowQ K H row vs → RowQ K H' row vs
  | [], vs, h => h
  | (n, p) :: r, vs, ⟨t, v, us, h1, h2, h3, h4⟩ => ⟨t, v, us, h1, e _ _ h2, PatQ.ext e p v h3, RowQ.ext e h4⟩
theorem RowQ.append {K : PySem.W.Frag} {H : Hp} : ∀ {r s : List (Nat × Pat)} {vs us : List V}, RowQ K H r vs → RowQ K H s us → RowQ K H (r ++ s) (vs ++ us)
  | [], s, vs, us, h, g => by rw [show vs = [] from h]; exact g
  | (n, p) :: r, s, vs, us, ⟨t, v, ws, e, a, b, c⟩, g => by rw [e]; exact ⟨t, v, ws ++ us, rfl, a, b, RowQ.append c g⟩
theorem RowQ.len {K : PySem.W.Frag} {H : Hp} : ∀ {r : List (Nat × Pat)} {vs : List V}, RowQ K H r vs → vs.length = r.length
  | [], vs, h => by rw [show vs = [] from h]; rfl
  | (n, p) :: r, vs, ⟨t, v, us, e, _, _, h⟩ => by rw [e, List.length_cons, List.length_cons, RowQ.len h]
theorem RowQ.get {K : PySem.W.Frag} {H : Hp} : ∀ {r : List (Nat × Pat)} {vs : List V} {i : Nat} {x : V}, RowQ K H r vs → vs[i]? = some x → ∃ n p t v, r[i]? = some (n, p) ∧ x = .ref t ∧ SqT K H t [nV n, v] ∧ PatQ K H p v
  | [], vs, i, x, h, e => by rw [show vs = [] from h] at e; cases e
  | (n, p) :: r, vs, 0, x, ⟨t, v, us, h, a, b, _⟩, e => by
    rw [h] at e
    cases (Option.some.inj e : V.ref t = x)
    exact ⟨n, p, t, v, rfl, rfl, a, b⟩
  | (n, p) :: r, vs, i + 1, x, ⟨t, v, us, h, a, b, c⟩, e => by
    rw [h] at e
    exact RowQ.get (r := r) c e
theorem RowQ.cut {K : PySem.W.Frag} {H : Hp} : ∀ {r s : List (Nat × Pat)} {vs : List V}, RowQ K H (r ++ s) vs → ∃ us ws, vs = us ++ ws ∧ RowQ K H r us ∧ RowQ K H s ws
  | [], s, vs, h => ⟨[], vs, rfl, rfl, h⟩
  | (n, p) :: r, s, vs, ⟨t, v, us, e, a, b, c⟩ => by
    obtain ⟨u2, ws, e2, c2, d⟩ := RowQ.cut (r := r) c
    exact ⟨.ref t :: u2, ws, by rw [e, e2]; rfl, ⟨t, v, u2, rfl, a, b, c2⟩, d⟩
structure LvAt (K : PySem.W.Frag) (C : Addr) (H : Hp) (a : La) (l : Lv) : Prop where
  ob : ∃ dx, H a.o = some (.ins C dx (lf a.b a.h a.r (l.n : Int)))
  bs : ∃ vs, H a.b = some (.lst vs) ∧ PatsQ K H l.bs vs
  hs : ∃ vs, H a.h = some (.lst vs) ∧ PatsQ K H l.hs vs
  row : ∃ vs, H a.r = some (.lst vs) ∧ RowQ K H l.row vs
  bh : a.b ≠ a.h
  br : a.b ≠ a.r
  hr : a.h ≠ a.r
/-- the sizes stay small -/
def Sm (l : Lv) : Prop := l.bs.length ≤ 1000 ∧ l.hs.length ≤ 1000 ∧ l.row.length ≤ 1000 ∧ l.n ≤ 1000 ∧ ∀ q ∈ l.row, q.1 ≤ 1000
/-- only what is at S is changed; what is at S' stood at S or is new -/
structure Upd (H H' : Hp) (S S' : List Addr) : Prop where
  fr : ∀ b o, H b = some o → b ∉ S → H' b = some o
  fs : ∀ x ∈ S', x ∈ S ∨ H x = none
  th : ∀ b o, H b = some o → ∃ o', H' b = some o'
theorem Upd.refl (H : Hp) (S : List Addr) : Upd H H S S := ⟨fun _ _ h _ => h, fun _ h => .inl h, fun _ o h => ⟨o, h⟩⟩
theorem Upd.free {H H' : Hp} {S S' : List Addr} (u : Upd H H' S S') {x : Addr} (h : H' x = none) : H x = none := by
  cases e : H x with
  | none => rfl
  | some o => obtain ⟨o', h'⟩ := u.th x o e; rw [h] at h'; cases h'
theorem Upd.trans {H H1 H2 : Hp} {S S1 S2 : List Addr} (a : Upd H H1 S S1) (b : Upd H1 H2 S1 S2) : Upd H H2 S S2 :=
  ⟨fun c o h n => b.fr c o (a.fr c o h n) fun hc => (a.fs c hc).elim n fun e => (by rw [h] at e; cases e),
    fun x hx => (b.fs x hx).elim (fun h => a.fs x h) (fun h => .inr (a.free h)),
    fun c o h => let ⟨o', h'⟩ := a.th c o h; b.th c o' h'⟩
/-- something new beside -/
theorem Upd.new {H : Hp} {S : List Addr} {p : Addr} {o : HO} (h : H p = none) : Upd H (upd H p o) S S :=
  ⟨fun b u q _ => by rw [upd_ne (ne_of_none q h)]; exact q, fun _ h => .inl h, fun b u q => ⟨u, by rw [upd_ne (ne_of_none q h)]; exact q⟩⟩
theorem Upd.wr {H : Hp} {S : List Addr} {p : Addr} {o : HO} (h : p ∈ S) (t : ∃ o, H p = some o) : Upd H (upd H p o) S S :=
  ⟨fun b u q n => by rw [upd_ne (fun e => n (by rw [e]; exact h))]; exact q, fun _ h => .inl h, fun b u q => by
    by_cases e : b = p
    · rw [e]; exact ⟨o, upd_same⟩
    · exact ⟨u, by rw [upd_ne e]; exact q⟩⟩
/-- what was there before is as it was -/
theorem Upd.ext {H0 H H' : Hp} {S S' : List Addr} (u : Upd H H' S S') (e : Ext H0 H) (n : ∀ x ∈ S, H0 x = none) : Ext H0 H' ∧ ∀ x ∈ S', H0 x = none := by
  have nn : ∀ b o, H0 b = some o → b ∉ S := fun b o h hb => by rw [n b hb] at h; cases h
  refine ⟨⟨fun b o h t => u.fr b o (e.keep b o h t) (nn b o h), fun b ht => ?_, fun b o h => ?_⟩, fun x hx => ?_⟩
  · obtain ⟨ps, z, _⟩ := id ht
    obtain ⟨ps', z', t'⟩ := e.tab b ht
    exact ⟨ps', u.fr b _ z' (nn b _ z), t'⟩
  · obtain ⟨o', h'⟩ := e.there b o h
    exact u.th b o' h'
  · rcases u.fs x hx with h | h
    · exact n x h
    · exact e.free h
/-- the tuples stay where only lists and objects are written -/
theorem Upd.tk {K : PySem.W.Frag} {H H' : Hp} {S S' : List Addr} (u : Upd H H' S S') (h : ∀ x ∈ S, (∃ xs, H x = some (.lst xs)) ∨ ∃ C dx fs, H x = some (.ins C dx fs)) : Tk K H H' := fun a xs hs => by
  have no : ∀ o, H a = some o → (∀ xs, o ≠ .lst xs) → (∀ C dx fs, o ≠ .ins C dx fs) → a ∉ S := fun o e n1 n2 ha => by
    rcases h a ha with ⟨ys, q⟩ | ⟨C, dx, fs, q⟩
    · exact n1 ys (Option.some.inj (e.symm.trans q))
    · exact n2 C dx fs (Option.some.inj (e.symm.trans q))
  rcases hs with (hs | ⟨o, hs⟩) | hs
  · exact .inl (.inl (u.fr a _ hs (no _ hs (fun _ e => by cases e) (fun _ _ _ e => by cases e))))
  · exact .inl (.inr ⟨o, u.fr a _ hs (no _ hs (fun _ e => by cases e) (fun _ _ _ e => by cases e))⟩)
  · exact .inr hs
theorem LvAt.kinds {K : PySem.W.Frag} {C : Addr} {H : Hp} {a : La} {l : Lv} (h : LvAt K C H a l) : ∀ x ∈ a.foot, (∃ xs, H x = some (.lst xs)) ∨ ∃ C dx fs, H x = some (.ins C dx fs) := by
  intro x hx
  simp only [La.foot, List.mem_cons, List.not_mem_nil, or_false] at hx
  rcases hx with rfl | rfl | rfl | rfl
  · obtain ⟨dx, e⟩ := h.ob; exact .inr ⟨_, _, _, e⟩
  · obtain ⟨vs, e, _⟩ := h.bs; exact .inl ⟨_, e⟩
  · obtain ⟨vs, e, _⟩ := h.hs; exact .inl ⟨_, e⟩
  · obtain ⟨vs, e, _⟩ := h.row; exact .inl ⟨_, e⟩
theorem LvAt.tk {K : PySem.W.Frag} {C : Addr} {H H' : Hp} {a : La} {l : Lv} {S' : List Addr} (h : LvAt K C H a l) (u : Upd H H' a.foot S') : Tk K H H' := u.tk h.kinds
theorem LvAt.keep {K : PySem.W.Frag} {C : Addr} {H H' : Hp} {a : La} {l : Lv} (h : LvAt K C H a l) (t : Tk K H H') (k : ∀ x ∈ a.foot, ∀ o, H x = some o → H' x = some o) : LvAt K C H' a l := by
  obtain ⟨⟨dx, h1⟩, ⟨v1, h2, p2⟩, ⟨v2, h3, p3⟩, ⟨v3, h4, p4⟩, a1, a2, a3⟩ := h
  exact ⟨⟨dx, k _ (by simp [La.foot]) _ h1⟩, ⟨v1, k _ (by simp [La.foot]) _ h2, PatsQ.ext t _ _ p2⟩, ⟨v2, k _ (by simp [La.foot]) _ h3, PatsQ.ext t _ _ p3⟩, ⟨v3, k _ (by simp [La.foot]) _ h4, RowQ.ext t p4⟩, a1, a2, a3⟩
/-- the class's facts -/
structure LTx (K : PySem.W.Frag) (C : Addr) : Prop where
  cl : Cls K C
  nb : NoAttr K C "branches"
  nh : NoAttr K C "halves"
  nr : NoAttr K C "row"
  nn : NoAttr K C "nots"
theorem ins_ne {H : Hp} {a b C dx : Addr} {fs : List (Str × V)} {xs : List V} (h1 : H a = some (.ins C dx fs)) (h2 : H b = some (.lst xs)) : a ≠ b := ne_of h1 h2 (by intro z; cases z)
def spDen (K : PySem.W.Frag) : Sp := fun vs H Q _ => ∃ (n : Nat) (v : V) (p : Pat), vs = [nV n, v] ∧ n ≤ 1000 ∧ PatQ K H p v ∧ ∀ v' H', (∀ S, Upd H H' S S) → PatQ K H' (nt n p) v' → Q v' H'
def mkOf (k : Str) : List Pat → Pat := if k = "row" then Pat.row else if k = "or" then Pat.or else Pat.and
def spTog (K : PySem.W.Frag) : Sp := fun vs H Q _ => ∃ (k : Str) (a : Addr) (us : List V) (ps : List Pat), vs = [.str k, .ref a] ∧ k ∈ (["row", "or", "and"] : List Str) ∧ H a = some (.lst us) ∧ PatsQ K H ps us ∧ ps.length ≤ 1001 ∧ ∀ v' H', (∀ S, Upd H H' S S) → PatQ K H' (tog (mkOf k) ps) v' → Q v' H'
theorem mk_at {K : PySem.W.Frag} {H : Hp} {k : Str} {a b : Addr} {vs : List V} {ps : List Pat} (m : k ∈ (["row", "or", "and"] : List Str)) (h1 : SqT K H a [.str k, .ref b]) (h2 : SqT K H b vs) (h3 : PatsQ K H ps vs) : PatQ K H (mkOf k ps) (.ref a) := by
  simp only [List.mem_cons, List.not_mem_nil, or_false] at m
  rcases m with rfl | rfl | rfl
  · exact ⟨a, b, vs, rfl, h1, h2, h3⟩
  · exact ⟨a, b, vs, rfl, h1, h2, h3⟩
  · exact ⟨a, b, vs, rfl, h1, h2, h3⟩
theorem upd_tk {K : PySem.W.Frag} {H H' : Hp} (h : ∀ S, Upd H H' S S) : Tk K H H' := (h []).tk (fun x hx => by cases hx)
section
variable {P : Program} {w : World} {K : PySem.W.Frag} {mg : Str → Option Value} {base : Heap}
theorem scDen : FnScope ["nots", "pattern", "_"] ["nots", "pattern"] (defScope sDenied) := ⟨rfl, rfl, rfl, by decide +kernel, rfl, by decide +kernel, by decide +kernel⟩
theorem den_ok {f : Addr} {fd : FuncData} (F : FnP K "denied" sDenied f fd) (mr : mg "range" = none) : FnOk P w K mg base CX0 1 f fd ["nots", "pattern"] (spDen K) := by
  refine okD F scDen (fun vs H Q E h => ?_) (fun cdv A outer s H vs Q E hr h => ?_)
  · obtain ⟨n, v, p, rfl, _⟩ := h
    rfl
  obtain ⟨n, v, p, rfl, hn, hp, q⟩ := h
  refine ⟨_, (pss_cons (ps_for PassesOwn.never rfl (pi_range1 rfl mr (pa_cons (pv 0) pa_nil)) (pg_name (i := 2) scDen.nd rfl (Or.inl rfl)) (pss_one (ps_set (i := 1) scDen.nd rfl (Or.inl rfl) (pe_tup (pa_cons pe_str (pa_cons (pv 1) pa_nil)))))) (pss_one (ps_ret (pv 1)))), ?_⟩
  refine t_seq ⟨_, rfl, _, rfl, by show -(2 ^ 62) ≤ ((n : Nat) : Int); omega, by show ((n : Nat) : Int) < 2 ^ 62; omega, ?_⟩
  refine for_range (fun i σ' H' => ∃ (u : V) (c : Option V), σ' = [some (nV n), some u, c] ∧ (∀ S, Upd H H' S S) ∧ PatQ K H' (nt i p) u) ?_ ?_ ?_
  · exact ⟨v, none, rfl, fun S => Upd.refl H S, hp⟩
  · rintro i σ' H' hi ⟨u, c, rfl, e, hu⟩
    refine ⟨_, rfl, by show 2 ≤ sizeLine; decide, fun t x => ⟨.ref t, _, rfl, fun S => (e S).trans (Upd.new x), t, u, rfl, SqT.of upd_same, PatQ.ext (upd_tk fun S => Upd.new x) _ _ hu⟩⟩
  · rintro σ' H' ⟨u, c, rfl, e, hu⟩
    have : ((n : Int)).toNat = n := Int.toNat_natCast n
    rw [this] at hu
    exact ⟨_, rfl, q u H' e hu⟩
theorem scTog : FnScope ["kind", "parts"] ["kind", "parts"] (defScope sTogether) := ⟨rfl, rfl, rfl, by decide +kernel, rfl, by decide +kernel, by decide +kernel⟩
theorem tog_ok {f : Addr} {fd : FuncData} (F : FnP K "together" sTogether f fd) (ml : mg "len" = none) (mt : mg "tuple" = none) : FnOk P w K mg base CX0 1 f fd ["kind", "parts"] (spTog K) := by
  refine okD F scTog (fun vs H Q E h => ?_) (fun cdv A outer s H vs Q E hr h => ?_)
  · obtain ⟨k, a, us, ps, rfl, _⟩ := h
    rfl
  obtain ⟨k, a, us, ps, rfl, hm, ha, hps, hsz, q⟩ := h
  refine ⟨_, (pss_cons (ps_if (pt_cmpR op_eq (pe_callB call_len rfl ml PySem.boot_len (pa_cons (pv 1) pa_nil)) pe_int (nomark _)) (pss_one (ps_ret (pe_ix ix_list (pv 1) pe_int (fun _ _ => rfl)))) pss_nil) (pss_one (ps_ret (pe_tup (pa_cons (pv 0) (pa_cons (pe_tupleOf rfl mt (pv 1)) pa_nil)))))), ?_⟩
  refine t_seq ⟨_, rfl, .ref a, _, rfl, .inl ⟨_, SqL.of ha, rfl⟩, rfl, _, rfl, ?_⟩
  rw [dec_int]
  have hlen := hps.len
  by_cases h1 : us.length = 1
  · rw [show (((us.length : Nat) : Int) == 1) = true by rw [h1]; rfl]
    obtain ⟨y, rfl⟩ : ∃ y, us = [y] := List.length_eq_one_iff.mp h1
    obtain ⟨p, rfl⟩ : ∃ p, ps = [p] := List.length_eq_one_iff.mp (by rw [← hlen]; exact h1)
    obtain ⟨y', r', e9, hy, _⟩ := hps
    have : y = y' := (List.cons.inj e9).1
    subst this
    exact iffT rfl ⟨_, rfl, a, _, 0, y, rfl, rfl, SqL.of ha, atI_nat (j := 0) rfl, q y H (fun S => Upd.refl H S) hy⟩
  · rw [show (((us.length : Nat) : Int) == 1) = false from beq_eq_false_iff_ne.mpr (by omega)]
    refine iffF rfl ?_
    dsimp only [tNext]
    refine ⟨_, rfl, _, rfl, .inl ⟨a, us, rfl, SqL.of ha, fun p2 x2 => ⟨by show 2 ≤ sizeLine; decide, fun p3 x3 => ?_⟩⟩⟩
    have e : ∀ S, Upd H (upd (upd H p2 (.tup us)) p3 (.tup [.str k, .ref p2])) S S := fun S => (Upd.new x2).trans (Upd.new x3)
    refine q _ _ e ?_
    have ht : tog (mkOf k) ps = mkOf k ps := by
      match ps, hlen with
      | [], _ => rfl
      | [p], h9 => exact absurd (h9.trans rfl) h1
      | _ :: _ :: _, _ => rfl
    rw [ht]
    exact mk_at hm (SqT.of upd_same) (SqT.of (by rw [upd_ne (ne_of_none (show upd H p2 (.tup us) p2 = some _ from upd_same) x3)]; exact upd_same)) (PatsQ.ext (upd_tk e) _ _ hps)
end
end Bo
set_option Elab.async false
set_option linter.all false
set_option maxRecDepth 100000
set_option maxHeartbeats 4000000
namespace Bo
open PySem PySem.Spec PyProof.Rows L2 GE
theorem t_seq' {t u : TS} {D : Ends} {σ : L2.St} {H : Hp} (h : t { D with nx := u D } σ H) : tSeq t u D σ H := h
theorem Upd.wrN {H H' : Hp} {D : Addr} {o : HO} (u : ∀ S, Upd H H' S S) (hD : H D = none) : ∀ S, Upd H (upd H' D o) S S := fun S =>
  ⟨fun b q h n => by rw [upd_ne (ne_of_none h hD)]; exact (u S).fr b q h n, fun _ h => .inl h, fun b q h => by rw [upd_ne (ne_of_none h hD)]; exact (u S).th b q h⟩
theorem g_pairT {K : PySem.W.Frag} {i j : Nat} {T : Addr} {x y : V} {σ : L2.St} {H : Hp} {Q : L2.St → Hp → Prop} (h : SqT K H T [x, y]) (q : Q ((σ.set i (some x)).set j (some y)) H) :
    gTup K 2 (gCons (gName i) (gCons (gName j) gNil)) (.ref T) σ H Q := ⟨T, _, rfl, h, rfl, x, _, rfl, y, _, rfl, rfl, q⟩
def spInit (K : PySem.W.Frag) (C : Addr) : Sp := fun vs H Q _ => ∃ (p dx : Addr), vs = [.ref p] ∧ H p = some (.ins C dx []) ∧ ∀ a H', a.o = p → LvAt K C H' a .new → Upd H H' [p] a.foot → Q .non H'
def spTN (K : PySem.W.Frag) (C : Addr) : Sp := fun vs H Q _ => ∃ (a : La) (l : Lv), vs = [.ref a.o] ∧ LvAt K C H a l ∧ Sm l ∧ ∀ H', LvAt K C H' a l.takeNot → Upd H H' a.foot a.foot → Q .non H'
def spTA (K : PySem.W.Frag) (C : Addr) : Sp := fun vs H Q _ => ∃ (a : La) (l : Lv) (v : V) (p : Pat), vs = [.ref a.o, v] ∧ LvAt K C H a l ∧ Sm l ∧ PatQ K H p v ∧ ∀ H', LvAt K C H' a (l.takeAtom p) → Upd H H' a.foot a.foot → Q .non H'
def spNI (K : PySem.W.Frag) (C CX : Addr) : Sp := fun vs H Q E => ∃ (a : La) (l : Lv), vs = [.ref a.o] ∧ LvAt K C H a l ∧ (l.ready = true → Q .non H) ∧ (l.ready = false → E (.ref CX) none H)
def spTS (K : PySem.W.Frag) (C CX : Addr) : Sp := fun vs H Q E => ∃ (a : La) (l : Lv), vs = [.ref a.o] ∧ LvAt K C H a l ∧ Sm l ∧ (l.ready = true → ∀ H', LvAt K C H' a l.starred → Upd H H' a.foot a.foot → Q .non H') ∧ (l.ready = false → E (.ref CX) none H)
def spEH (K : PySem.W.Frag) (C CX : Addr) (op : Lv → Lv) : Sp := fun vs H Q E => ∃ (a : La) (l : Lv), vs = [.ref a.o] ∧ LvAt K C H a l ∧ Sm l ∧ (l.ready = true → ∀ a' H', a'.o = a.o → LvAt K C H' a' (op l) → Upd H H' a.foot a'.foot → Q .non H') ∧ (l.ready = false → E (.ref CX) none H)
def spTo (K : PySem.W.Frag) (C CX : Addr) : Sp := fun vs H Q E => ∃ (a : La) (l : Lv), vs = [.ref a.o] ∧ LvAt K C H a l ∧ Sm l ∧ (l.ready = true → ∀ v H' S', Upd H H' a.foot S' → PatQ K H' l.said v → Q v H') ∧ (l.ready = false → E (.ref CX) none H)
section
variable {P : Program} {w : World} {K : PySem.W.Frag} {mg : Str → Option Value} {base : Heap} {C CX : Addr}
theorem scInit : FnScope ["self"] ["self"] (defScope sLevelInit) := ⟨rfl, rfl, rfl, by decide +kernel, rfl, by decide +kernel, by decide +kernel⟩
theorem init_ok {f : Addr} {fd : FuncData} (F : MtP K "__init__" "Level.__init__" sLevelInit f fd) (T : LTx K C) : FnOk P w K mg base CX0 1 f fd ["self"] (spInit K C) := by
  refine okD F scInit (fun vs H Q E h => ?_) (fun cdv A outer s H vs Q E hr h => ?_)
  · obtain ⟨p, dx, rfl, _⟩ := h
    rfl
  obtain ⟨p, dx, rfl, hp, q⟩ := h
  refine ⟨_, (pss_cons (ps_fld (pv 0) (pe_lst pa_nil) rfl) (pss_cons (ps_fld (pv 0) (pe_lst pa_nil) rfl) (pss_cons (ps_fld (pv 0) (pe_lst pa_nil) rfl) (pss_one (ps_fld (pv 0) pe_int rfl))))), ?_⟩
  refine ⟨Nat.zero_le _, fun b xb => ⟨_, rfl, p, C, dx, _, rfl, (by rw [upd_ne (ne_of_none hp xb)]; exact hp), T.cl, T.nb, (by show 0 < 1000; decide), ?_⟩⟩
  have pb := ne_of_none hp xb
  refine ⟨Nat.zero_le _, fun h xh => ?_⟩
  have ph : p ≠ h := fun e => by rw [e, upd_same] at xh; cases xh
  have bh : b ≠ h := fun e => by rw [← e, upd_ne pb.symm, upd_same] at xh; cases xh
  refine ⟨_, rfl, p, C, dx, _, rfl, (by rw [upd_ne ph]; exact upd_same), T.cl, T.nh, (by show 1 < 1000; decide), ?_⟩
  refine ⟨Nat.zero_le _, fun r xr => ?_⟩
  have pr : p ≠ r := fun e => by rw [e, upd_same] at xr; cases xr
  have hr_ : h ≠ r := fun e => by rw [← e, upd_ne ph.symm, upd_same] at xr; cases xr
  have br : b ≠ r := fun e => by rw [← e, upd_ne pb.symm, upd_ne bh, upd_ne pb.symm, upd_same] at xr; cases xr
  refine ⟨_, rfl, p, C, dx, _, rfl, (by rw [upd_ne pr]; exact upd_same), T.cl, T.nr, (by show 2 < 1000; decide), ?_⟩
  refine ⟨_, rfl, p, C, dx, _, rfl, upd_same, T.cl, T.nn, (by show 3 < 1000; decide), ?_⟩
  have xb0 := xb
  have xh0 : H h = none := by rw [upd_ne ph.symm, upd_ne bh.symm] at xh; exact xh
  have xr0 : H r = none := by rw [upd_ne pr.symm, upd_ne hr_.symm, upd_ne pr.symm, upd_ne br.symm] at xr; exact xr
  refine q ⟨p, b, h, r⟩ _ rfl ⟨⟨dx, ?_⟩, ⟨[], ?_, rfl⟩, ⟨[], ?_, rfl⟩, ⟨[], ?_, rfl⟩, bh, br, hr_⟩ ⟨fun x o hx hn => ?_, fun x hx => ?_, fun x o hx => ?_⟩
  · show upd _ p _ p = _
    rw [upd_same]; rfl
  · show upd _ p _ b = _
    rw [upd_ne pb.symm, upd_ne pb.symm, upd_ne br, upd_ne pb.symm, upd_ne bh, upd_ne pb.symm, upd_same]
  · show upd _ p _ h = _
    rw [upd_ne ph.symm, upd_ne ph.symm, upd_ne hr_, upd_ne ph.symm, upd_same]
  · show upd _ p _ r = _
    rw [upd_ne pr.symm, upd_ne pr.symm, upd_same]
  · have hn : x ≠ p := fun e => hn (by rw [e]; exact List.mem_singleton.mpr rfl)
    rw [upd_ne hn, upd_ne hn, upd_ne (ne_of_none hx xr0), upd_ne hn, upd_ne (ne_of_none hx xh0), upd_ne hn, upd_ne (ne_of_none hx xb0)]
    exact hx
  · simp only [La.foot, List.mem_cons, List.not_mem_nil, or_false] at hx
    rcases hx with rfl | rfl | rfl | rfl
    · exact .inl (List.mem_singleton.mpr rfl)
    · exact .inr xb0
    · exact .inr xh0
    · exact .inr xr0
  · by_cases e : x = p
    · subst e; exact ⟨_, upd_same⟩
    · exact ⟨o, by rw [upd_ne e, upd_ne e, upd_ne (ne_of_none hx xr0), upd_ne e, upd_ne (ne_of_none hx xh0), upd_ne e, upd_ne (ne_of_none hx xb0)]; exact hx⟩
theorem scTN : FnScope ["self"] ["self"] (defScope sLevelTakeNot) := ⟨rfl, rfl, rfl, by decide +kernel, rfl, by decide +kernel, by decide +kernel⟩
theorem memo {a : La} : a.o ∈ a.foot := by simp [La.foot]
theorem memb {a : La} : a.b ∈ a.foot := by simp [La.foot]
theorem memh {a : La} : a.h ∈ a.foot := by simp [La.foot]
theorem memr {a : La} : a.r ∈ a.foot := by simp [La.foot]
theorem tn_ok {f : Addr} {fd : FuncData} (F : MtP K "take_not" "Level.take_not" sLevelTakeNot f fd) (T : LTx K C) : FnOk P w K mg base CX0 1 f fd ["self"] (spTN K C) := by
  refine okD F scTN (fun vs H Q E h => ?_) (fun cdv A outer s H vs Q E hr h => ?_)
  · obtain ⟨a, l, rfl, _⟩ := h
    rfl
  obtain ⟨a, l, rfl, hl, hs, q⟩ := h
  obtain ⟨⟨dx, h1⟩, ⟨v1, h2, p2⟩, ⟨v2, h3, p3⟩, ⟨v3, h4, p4⟩, a1, a2, a3⟩ := id hl
  refine ⟨_, (pss_one (ps_fldaug (pv 0) pe_int in_add)), ?_⟩
  refine ⟨_, rfl, a.o, C, _, _, _, rfl, h1, T.cl, T.nn, lk_n _ _ _ _, _, _, rfl, rfl, _, _, h1, (by show 4 < 1000; decide), ?_⟩
  have u : Upd H (upd H a.o (.ins C dx (lf a.b a.h a.r ((l.n : Int) + 1)))) a.foot a.foot := Upd.wr memo ⟨_, h1⟩
  have t := hl.tk u
  refine q _ ⟨⟨dx, upd_same⟩, ⟨v1, ?_, PatsQ.ext t _ _ p2⟩, ⟨v2, ?_, PatsQ.ext t _ _ p3⟩, ⟨v3, ?_, RowQ.ext t p4⟩, a1, a2, a3⟩ u
  · rw [upd_ne (ins_ne h1 h2).symm]; exact h2
  · rw [upd_ne (ins_ne h1 h3).symm]; exact h3
  · rw [upd_ne (ins_ne h1 h4).symm]; exact h4
theorem scTA : FnScope ["self", "atom"] ["self", "atom"] (defScope sLevelTakeAtom) := ⟨rfl, rfl, rfl, by decide +kernel, rfl, by decide +kernel, by decide +kernel⟩
theorem ta_ok {f : Addr} {fd : FuncData} (F : MtP K "take_atom" "Level.take_atom" sLevelTakeAtom f fd) (T : LTx K C) : FnOk P w K mg base CX0 1 f fd ["self", "atom"] (spTA K C) := by
  refine okD F scTA (fun vs H Q E h => ?_) (fun cdv A outer s H vs Q E hr h => ?_)
  · obtain ⟨a, l, v, p, rfl, _⟩ := h
    rfl
  obtain ⟨a, l, v, p, rfl, hl, hs, hp, q⟩ := h
  obtain ⟨⟨dx, h1⟩, ⟨v1, h2, p2⟩, ⟨v2, h3, p3⟩, ⟨v3, h4, p4⟩, a1, a2, a3⟩ := id hl
  refine ⟨_, (pss_cons (ps_expr (pe_bm PySem.F.plainAttrs_list PySem.F.slot_list_append PySem.F.type_list_append mt_append (pe_fld (pv 0) rfl) (pa_cons (pe_tup (pa_cons (pe_fld (pv 0) rfl) (pa_cons (pv 1) pa_nil))) pa_nil))) (pss_one (ps_fld (pv 0) pe_int rfl))), ?_⟩
  refine t_seq ⟨_, rfl, a.o, C, dx, _, _, rfl, h1, T.cl, T.nr, lk_r _ _ _ _, .inl ⟨rfl, _, SqL.of h4⟩, _, rfl, a.o, C, dx, _, _, rfl, h1, T.cl, T.nn, lk_n _ _ _ _, _, rfl, by show 2 ≤ sizeLine; decide, fun t x => ?_⟩
  have e1 : ∀ {b o}, H b = some o → upd H t (.tup [nV l.n, v]) b = some o := fun h => by rw [upd_ne (ne_of_none h x)]; exact h
  have hlen : v3.length < sizeLine := Nat.lt_of_le_of_lt (show v3.length ≤ 1000 by rw [p4.len]; exact hs.2.2.1) (by decide)
  refine ⟨a.r, _, _, rfl, rfl, e1 h4, hlen, ?_⟩
  dsimp only
  have or_ := ins_ne h1 h4
  refine ⟨_, rfl, a.o, C, dx, _, rfl, (by rw [upd_ne or_]; exact e1 h1), T.cl, T.nn, (by show 4 < 1000; decide), ?_⟩
  have u : Upd H (upd (upd (upd H t (.tup [nV l.n, v])) a.r (.lst (v3 ++ [.ref t]))) a.o (.ins C dx (lf a.b a.h a.r 0))) a.foot a.foot :=
    (Upd.new x).trans ((Upd.wr memr ⟨_, e1 h4⟩).trans (Upd.wr memo ⟨_, (by rw [upd_ne or_]; exact e1 h1)⟩))
  have tk := hl.tk u
  have tr : t ≠ a.r := (ne_of_none h4 x).symm
  have to_ : t ≠ a.o := (ne_of_none h1 x).symm
  refine q _ ⟨⟨dx, upd_same⟩, ⟨v1, ?_, PatsQ.ext tk _ _ p2⟩, ⟨v2, ?_, PatsQ.ext tk _ _ p3⟩, ⟨v3 ++ [.ref t], ?_, RowQ.append (RowQ.ext tk p4) ⟨t, v, [], rfl, SqT.of ?_, PatQ.ext tk _ _ hp, rfl⟩⟩, a1, a2, a3⟩ u
  · rw [upd_ne (ins_ne h1 h2).symm, upd_ne a2]; exact e1 h2
  · rw [upd_ne (ins_ne h1 h3).symm, upd_ne a3]; exact e1 h3
  · rw [upd_ne or_.symm]; exact upd_same
  · rw [upd_ne to_, upd_ne tr]; exact upd_same
theorem scNI : FnScope ["self"] ["self"] (defScope sLevelNeedItem) := ⟨rfl, rfl, rfl, by decide +kernel, rfl, by decide +kernel, by decide +kernel⟩
theorem ni_ok {f : Addr} {fd : FuncData} (F : MtP K "need_item" "Level.need_item" sLevelNeedItem f fd) (T : LTx K C) (X : EX K mg "NoText" CX) : FnOk P w K mg base (L2N.CX P w) 1 f fd ["self"] (spNI K C CX) := by
  refine okX F scNI (fun vs H Q E h => ?_) (fun cdv A outer s H vs Q E hr h => ?_)
  · obtain ⟨a, l, rfl, _⟩ := h
    rfl
  obtain ⟨a, l, rfl, hl, qg, qb⟩ := h
  obtain ⟨⟨dx, h1⟩, ⟨v1, h2, p2⟩, ⟨v2, h3, p3⟩, ⟨v3, h4, p4⟩, a1, a2, a3⟩ := id hl
  refine ⟨_, (pss_one (ps_if (PW.pt (pw_or (pt_cmpR op_gt (pe_fld (pv 0) rfl) pe_int (nomark _)) (pw_or1 (pt_not (pt_truth (pe_fld (pv 0) rfl) (by intro _; rfl))))))
    (pss_one (L2N.ps_raise rfl (L2N.takes_of rfl rfl rfl rfl) (L2N.pmk_own PySem.F.excBase_ValueError X.q X.g X.k (raises_own X.s X.t) rfl))) pss_nil)), ?_⟩
  refine ⟨_, rfl, a.o, C, dx, _, _, rfl, h1, T.cl, T.nn, lk_n _ _ _ _, _, _, rfl, rfl, _, rfl, ?_⟩
  by_cases hn : l.n = 0
  · refine iffF (decide_eq_false (by rw [hn]; decide)) ?_
    refine ⟨_, rfl, a.o, C, dx, _, _, rfl, h1, T.cl, T.nr, lk_r _ _ _ _, _, .inl ⟨_, SqL.of h4, rfl⟩, ?_⟩
    have hlen := p4.len
    cases hrow : l.row with
    | nil =>
      rw [hrow] at hlen
      have : v3 = [] := List.length_eq_zero_iff.mp hlen
      subst this
      exact iffT (by decide) (qb (by simp [Lv.ready, hrow]))
    | cons x xs =>
      rw [hrow] at hlen
      refine iffF ?_ (qg (by simp [Lv.ready, hn, hrow]))
      cases v3 with
      | nil => cases hlen
      | cons y ys => simp
  · refine iffT (decide_eq_true (by omega)) (qb ?_)
    simp [Lv.ready, hn]
theorem ready_cut {l : Lv} (h : l.ready = true) : ∃ r k p, l.row = r ++ [(k, p)] ∧ l.n = 0 := by
  unfold Lv.ready at h
  rw [Bool.and_eq_true, decide_eq_true_eq] at h
  rcases List.eq_nil_or_concat l.row with e | ⟨r, x, e⟩
  · rw [e] at h; exact absurd h.2 (by decide)
  · exact ⟨r, x.1, x.2, by rw [e, List.concat_eq_append], h.1⟩
theorem scTS : FnScope ["self", "nots", "atom"] ["self"] (defScope sLevelTakeStar) := ⟨rfl, rfl, rfl, by decide +kernel, rfl, by decide +kernel, by decide +kernel⟩
theorem ts_ok {f g : Addr} {fd gd : FuncData} (F : MtP K "take_star" "Level.take_star" sLevelTakeStar f fd) (T : LTx K C) (G : FnOk P w K mg base (L2N.CX P w) 1 g gd ["self"] (spNI K C CX)) (b : Binds K gd ["self"] []) (m : Meth K C "need_item" g) :
    FnOk P w K mg base (L2N.CX P w) 2 f fd ["self"] (spTS K C CX) := by
  refine okX F scTS (fun vs H Q E h => ?_) (fun cdv A outer s H vs Q E hr h => ?_)
  · obtain ⟨a, l, rfl, _⟩ := h
    rfl
  obtain ⟨a, l, rfl, hl, hs, qg, qb⟩ := h
  obtain ⟨⟨dx, h1⟩, ⟨v1, h2, p2⟩, ⟨v2, h3, p3⟩, ⟨v3, h4, p4⟩, a1, a2, a3⟩ := id hl
  refine ⟨_, (pss_cons (ps_expr (pe_meth0 (pv 0) T.cl m G hr b .nil (L2N.passes_call (L2N.takes_of rfl rfl rfl rfl) (fun _ _ _ _ h => h)))) (pss_cons (ps_asg (pe_bm0 PySem.F.plainAttrs_list PySem.F.slot_list_pop PySem.F.type_list_pop mt_pop (pe_fld (pv 0) rfl)) (pg_tup (by rfl) (pgs_cons (pg_name (i := 1) scTS.nd rfl (Or.inl rfl)) (pgs_cons (pg_name (i := 2) scTS.nd rfl (Or.inl rfl)) pgs_nil)))) (pss_one (ps_expr (pe_bm PySem.F.plainAttrs_list PySem.F.slot_list_append PySem.F.type_list_append mt_append (pe_fld (pv 0) rfl) (pa_cons (pe_tup (pa_cons (pv 1) (pa_cons (pe_tup (pa_cons pe_str (pa_cons (pv 2) pa_nil))) pa_nil))) pa_nil)))))), ?_⟩
  refine t_seq ⟨_, rfl, a.o, dx, _, rfl, h1, lf_no _ _ _ _ (by decide +kernel) (by decide +kernel) (by decide +kernel) (by decide +kernel), a, l, rfl, hl, fun rd => ?_, fun rd => qb rd⟩
  dsimp only
  obtain ⟨r0, k, p, hrow, hn⟩ := ready_cut rd
  rw [hrow] at p4
  obtain ⟨us, ws, rfl, q4, t, v, us', e9, hs4, hp4, hn4⟩ := RowQ.cut p4
  rw [show us' = [] from hn4] at e9
  subst e9
  have or_ := ins_ne h1 h4
  refine t_seq ⟨_, rfl, a.o, C, dx, _, _, rfl, h1, T.cl, T.nr, lk_r _ _ _ _, .inl ⟨rfl, _, SqL.of h4⟩, a.r, _, .ref t, rfl, rfl, h4, by simp, ?_⟩
  rw [List.dropLast_concat]
  have u1 : Upd H (upd H a.r (.lst us)) a.foot a.foot := Upd.wr memr ⟨_, h4⟩
  have tk1 := hl.tk u1
  refine g_pairT (tk1 _ _ hs4) ?_
  have h1' : upd H a.r (.lst us) a.o = some (.ins C dx (lf a.b a.h a.r (l.n : Int))) := by rw [upd_ne or_]; exact h1
  refine ⟨_, rfl, a.o, C, dx, _, _, rfl, h1', T.cl, T.nr, lk_r _ _ _ _, .inl ⟨rfl, _, SqL.of upd_same⟩, _, rfl, _, rfl, by show 2 ≤ sizeLine; decide, fun t2 x2 => ⟨by show 2 ≤ sizeLine; decide, fun t3 x3 => ?_⟩⟩
  have g2 : ∀ {b o}, upd H a.r (.lst us) b = some o → upd (upd (upd H a.r (.lst us)) t2 (.tup [.str "many", v])) t3 (.tup [nV k, .ref t2]) b = some o := fun {b o} h => by
    have e := (show upd (upd H a.r (.lst us)) t2 (.tup [.str "many", v]) b = some o by rw [upd_ne (ne_of_none h x2)]; exact h)
    rw [upd_ne (ne_of_none e x3)]; exact e
  have hr2 := g2 (b := a.r) upd_same
  have hlen : us.length < sizeLine := Nat.lt_of_le_of_lt (show us.length ≤ 1000 by
    have := hs.2.2.1
    rw [hrow, List.length_append] at this
    rw [q4.len]; omega) (by decide)
  refine ⟨a.r, _, _, rfl, rfl, hr2, hlen, ?_⟩
  have u : Upd H (upd (upd (upd (upd H a.r (.lst us)) t2 (.tup [.str "many", v])) t3 (.tup [nV k, .ref t2])) a.r (.lst (us ++ [.ref t3]))) a.foot a.foot := u1.trans ((Upd.new x2).trans ((Upd.new x3).trans (Upd.wr memr ⟨_, hr2⟩)))
  have tk := hl.tk u
  have t2r : t2 ≠ a.r := (ne_of_none (show upd H a.r (.lst us) a.r = some _ from upd_same) x2).symm
  have t2e : upd (upd H a.r (.lst us)) t2 (.tup [.str "many", v]) t2 = some (.tup [.str "many", v]) := upd_same
  have t3r : t3 ≠ a.r := (ne_of_none (show upd (upd H a.r (.lst us)) t2 (.tup [.str "many", v]) a.r = some (.lst us) by rw [upd_ne t2r.symm]; exact upd_same) x3).symm
  have hst : l.starred = { l with row := r0 ++ [(k, .many p)] } := by
    unfold Lv.starred
    rw [hrow]
    simp
  refine qg rd _ ?_ u
  rw [hst]
  refine ⟨⟨dx, ?_⟩, ⟨v1, ?_, PatsQ.ext tk _ _ p2⟩, ⟨v2, ?_, PatsQ.ext tk _ _ p3⟩, ⟨us ++ [.ref t3], upd_same, RowQ.append (RowQ.ext tk q4) ⟨t3, .ref t2, [], rfl, SqT.of ?_, ⟨t2, v, rfl, SqT.of ?_, PatQ.ext tk _ _ hp4⟩, rfl⟩⟩, a1, a2, a3⟩
  · rw [upd_ne or_]; exact g2 h1'
  · rw [upd_ne a2]; exact g2 (by rw [upd_ne a2]; exact h2)
  · rw [upd_ne a3]; exact g2 (by rw [upd_ne a3]; exact h3)
  · rw [upd_ne t3r]; exact upd_same
  · rw [upd_ne t2r, upd_ne (ne_of_none t2e x3)]; exact t2e
end
end Bo
set_option Elab.async false
set_option linter.all false
set_option maxRecDepth 100000
set_option maxHeartbeats 4000000
namespace Bo
open PySem PySem.Spec PyProof.Rows L2 GE
theorem map_take {α β : Type} (f : α → β) : ∀ (i : Nat) (xs : List α) (x : α), xs[i]? = some x → (xs.take (i + 1)).map f = (xs.take i).map f ++ [f x] := fun i xs x h => by
  rw [List.take_succ, h, List.map_append]; rfl
theorem updA {H H' : Hp} (u : ∀ S, Upd H H' S S) {b : Addr} {o : HO} (h : H b = some o) : H' b = some o := (u []).fr b o h (by simp)
section
variable {P : Program} {w : World} {K : PySem.W.Frag} {mg : Str → Option Value} {base : Heap} {C CX : Addr}
theorem scEH : FnScope ["self", "nots", "atom"] ["self"] (defScope sLevelEndHalf) := ⟨rfl, rfl, rfl, by decide +kernel, rfl, by decide +kernel, by decide +kernel⟩
theorem eh_ok {f g g2 g3 : Addr} {fd gd d2 d3 : FuncData} (F : MtP K "end_half" "Level.end_half" sLevelEndHalf f fd) (T : LTx K C) (G : FnOk P w K mg base (L2N.CX P w) 1 g gd ["self"] (spNI K C CX)) (b : Binds K gd ["self"] []) (m : Meth K C "need_item" g)
    (G2 : FnOk P w K mg base CX0 1 g2 d2 ["nots", "pattern"] (spDen K)) (b2 : Binds K d2 ["nots", "pattern"] []) (k2 : PySem.W.keepIn K (.ref g2) = true) (m2 : mg "denied" = some (.ref g2))
    (G3 : FnOk P w K mg base CX0 1 g3 d3 ["kind", "parts"] (spTog K)) (b3 : Binds K d3 ["kind", "parts"] []) (k3 : PySem.W.keepIn K (.ref g3) = true) (m3 : mg "together" = some (.ref g3)) :
    FnOk P w K mg base (L2N.CX P w) 2 f fd ["self"] (spEH K C CX Lv.halved) := by
  refine okX F scEH (fun vs H Q E h => ?_) (fun cdv A outer s H vs Q E hr h => ?_)
  · obtain ⟨a, l, rfl, _⟩ := h
    rfl
  obtain ⟨a, l, rfl, hl, hs, qg, qb⟩ := h
  obtain ⟨⟨dx, h1⟩, ⟨v1, h2, p2⟩, ⟨v2, h3, p3⟩, ⟨v3, h4, p4⟩, a1, a2, a3⟩ := id hl
  refine ⟨_, (pss_cons (ps_expr (pe_meth0 (pv 0) T.cl m G hr b .nil (L2N.passes_call (L2N.takes_of rfl rfl rfl rfl) (fun _ _ _ _ h => h)))) (pss_cons (ps_expr (pe_bm PySem.F.plainAttrs_list PySem.F.slot_list_append PySem.F.type_list_append mt_append (pe_fld (pv 0) rfl) (pa_cons (pe_call G3 hr rfl m3 k3 b3 .nil pass0 (pa_cons pe_str (pa_cons (pe_lc (own := [("nots", 1), ("atom", 2)]) (g := gTup K 2 (gCons (gName 1) (gCons (gName 2) gNil))) (tt := tYes) rfl scEH.nd (pi_list (pe_fld (pv 0) rfl))
      (blkOk_by (N := ["self", "nots", "atom"]) (sc := defScope sLevelEndHalf) (by decide +kernel))
      (fun _ _ _ _ _ => pg_tup rfl (pgs_cons (pg_name (i := 1) scEH.nd rfl (Or.inl rfl) (Or.inr rfl)) (pgs_cons (pg_name (i := 2) scEH.nd rfl (Or.inl rfl) (Or.inr rfl)) pgs_nil))) (fun _ _ _ _ _ => pts_nil)
      (fun _ _ _ _ _ => pe_call G2 hr rfl m2 k2 b2 .nil pass0 (pa_cons (pv 1) (pa_cons (pv 2) pa_nil)))) pa_nil))) pa_nil))) (pss_one (ps_fld (pv 0) (pe_lst pa_nil) rfl)))), ?_⟩
  refine t_seq ⟨_, rfl, a.o, dx, _, rfl, h1, lf_no _ _ _ _ (by decide +kernel) (by decide +kernel) (by decide +kernel) (by decide +kernel), a, l, rfl, hl, fun rd => ?_, fun rd => qb rd⟩
  dsimp only
  have l3 := p4.len
  refine t_seq ⟨_, rfl, a.o, C, dx, _, _, rfl, h1, T.cl, T.nh, lk_h _ _ _ _, .inl ⟨rfl, _, SqL.of h3⟩, _, rfl, a.o, C, dx, _, _, rfl, h1, T.cl, T.nr, lk_r _ _ _ _, a.r, rfl, ⟨_, SqL.of h4⟩, fun D hD => ?_⟩
  refine lc_list (K := K) (a := a.r) (xs := v3) (fun i H' => (∀ S, Upd H H' S S) ∧ ∃ ws, H' D = some (.lst ws) ∧ PatsQ K H' ((l.row.take i).map ntq) ws ∧ i ≤ v3.length) ⟨fun S => Upd.new hD, [], upd_same, rfl, Nat.zero_le _⟩ (fun i H' _ b => SqL.of (updA b.1 h4)) ?_ ?_
  · rintro i x H' hx ⟨u, ws, hw, pw, hi⟩
    obtain ⟨n, p, t, v, hg, rfl, hst, hp⟩ := p4.get hx
    have tk := upd_tk (K := K) u
    have hlt : i < v3.length := (List.getElem?_eq_some_iff.mp hx).1
    have hn : n ≤ 1000 ∨ True := .inr trivial
    refine g_pairT (tk _ _ hst) ⟨rfl, ?_⟩
    refine ⟨_, rfl, _, rfl, n, v, p, rfl, ?_, PatQ.ext tk _ _ hp, fun v' H2 u2 hp2 => ?_⟩
    · exact hs.2.2.2.2 _ (List.mem_of_getElem? hg)
    · have hw2 := updA u2 hw
      have hwl := pw.len
      rw [List.length_map, List.length_take] at hwl
      have h9 := hs.2.2.1
      refine ⟨ws, hw2, Nat.lt_of_le_of_lt (show ws.length ≤ 1000 by omega) (by decide), Upd.wrN (fun S => (u S).trans (u2 S)) hD, ws ++ [v'], upd_same, ?_, hlt⟩
      rw [map_take ntq i l.row (n, p) hg]
      have tk2 : Tk K H2 (upd H2 D (.lst (ws ++ [v']))) := (Upd.wr (List.mem_singleton.mpr rfl) ⟨_, hw2⟩ : Upd H2 _ [D] [D]).tk (fun x hx => by rw [List.mem_singleton.mp hx]; exact .inl ⟨_, hw2⟩)
      exact (PatsQ.ext ((upd_tk u2).trans tk2) _ _ pw).append (PatsQ.one (PatQ.ext tk2 _ _ hp2))
  · rintro H1 ⟨u, ws, hw, pw, _⟩
    rw [l3, List.take_length] at pw
    refine ⟨"row", D, ws, l.row.map ntq, rfl, by decide, hw, pw, by rw [List.length_map]; have := hs.2.2.1; omega, fun v' H2 u2 hp2 => ?_⟩
    have u12 : ∀ S, Upd H H2 S S := fun S => (u S).trans (u2 S)
    have h3' := updA u12 h3
    have h1' := updA u12 h1
    have hlen : v2.length < sizeLine := Nat.lt_of_le_of_lt (show v2.length ≤ 1000 by rw [p3.len]; exact hs.2.1) (by decide)
    refine ⟨a.h, _, _, rfl, rfl, h3', hlen, ?_⟩
    dsimp only
    refine ⟨Nat.zero_le _, fun r2 x2 => ?_⟩
    have oh := ins_ne h1 h3
    have hr2 : r2 ≠ a.h := fun e => by rw [e, upd_same] at x2; cases x2
    have x2' : H2 r2 = none := by rw [upd_ne hr2] at x2; exact x2
    have x20 : H r2 = none := (u12 []).free x2'
    have or2 : a.o ≠ r2 := ne_of_none h1 x20
    have h1'' : upd (upd H2 a.h (.lst (v2 ++ [v']))) r2 (.lst []) a.o = some (.ins C dx (lf a.b a.h a.r (l.n : Int))) := by rw [upd_ne or2, upd_ne oh]; exact h1'
    refine ⟨_, rfl, a.o, C, dx, _, rfl, h1'', T.cl, T.nr, (by show 4 < 1000; decide), ?_⟩
    have uu : Upd H (upd (upd (upd H2 a.h (.lst (v2 ++ [v']))) r2 (.lst [])) a.o (.ins C dx (lf a.b a.h r2 (l.n : Int)))) a.foot a.foot :=
      (u12 _).trans ((Upd.wr memh ⟨_, h3'⟩).trans ((Upd.new x2).trans (Upd.wr memo ⟨_, h1''⟩)))
    have tk := hl.tk uu
    have ub : Upd H2 (upd (upd (upd H2 a.h (.lst (v2 ++ [v']))) r2 (.lst [])) a.o (.ins C dx (lf a.b a.h r2 (l.n : Int)))) a.foot a.foot := (Upd.wr memh ⟨_, h3'⟩).trans ((Upd.new x2).trans (Upd.wr memo ⟨_, h1''⟩))
    have tk2 : Tk K H2 _ := ub.tk (fun x hx => by
      simp only [La.foot, List.mem_cons, List.not_mem_nil, or_false] at hx
      rcases hx with rfl | rfl | rfl | rfl
      · exact .inr ⟨_, _, _, h1'⟩
      · exact .inl ⟨_, updA u12 h2⟩
      · exact .inl ⟨_, h3'⟩
      · exact .inl ⟨_, updA u12 h4⟩)
    have br2 : a.b ≠ r2 := ne_of_none h2 x20
    refine qg rd ⟨a.o, a.b, a.h, r2⟩ _ rfl ⟨⟨dx, upd_same⟩, ⟨v1, ?_, PatsQ.ext tk _ _ p2⟩, ⟨v2 ++ [v'], ?_, (PatsQ.ext tk _ _ p3).append (PatsQ.one (PatQ.ext tk2 _ _ hp2))⟩, ⟨[], ?_, rfl⟩, a1, br2, hr2.symm⟩ ⟨uu.fr, fun x hx => ?_, uu.th⟩
    · show upd _ a.o _ a.b = _
      rw [upd_ne (ins_ne h1 h2).symm, upd_ne br2, upd_ne a1]; exact updA u12 h2
    · show upd _ a.o _ a.h = _
      rw [upd_ne oh.symm, upd_ne hr2.symm]; exact upd_same
    · show upd _ a.o _ r2 = _
      rw [upd_ne or2.symm]; exact upd_same
    · simp only [La.foot, List.mem_cons, List.not_mem_nil, or_false] at hx
      rcases hx with rfl | rfl | rfl | rfl
      · exact .inl memo
      · exact .inl memb
      · exact .inl memh
      · exact .inr x20
theorem scEB : FnScope ["self"] ["self"] (defScope sLevelEndBranch) := ⟨rfl, rfl, rfl, by decide +kernel, rfl, by decide +kernel, by decide +kernel⟩
theorem eb_ok {f g g3 : Addr} {fd gd d3 : FuncData} (F : MtP K "end_branch" "Level.end_branch" sLevelEndBranch f fd) (T : LTx K C) (G : FnOk P w K mg base (L2N.CX P w) 2 g gd ["self"] (spEH K C CX Lv.halved)) (b : Binds K gd ["self"] []) (m : Meth K C "end_half" g)
    (G3 : FnOk P w K mg base CX0 1 g3 d3 ["kind", "parts"] (spTog K)) (b3 : Binds K d3 ["kind", "parts"] []) (k3 : PySem.W.keepIn K (.ref g3) = true) (m3 : mg "together" = some (.ref g3)) :
    FnOk P w K mg base (L2N.CX P w) 3 f fd ["self"] (spEH K C CX Lv.branched) := by
  refine okX F scEB (fun vs H Q E h => ?_) (fun cdv A outer s H vs Q E hr h => ?_)
  · obtain ⟨a, l, rfl, _⟩ := h
    rfl
  obtain ⟨a0, l, rfl, hl0, hs, qg, qb⟩ := h
  obtain ⟨⟨dx0, h10⟩, _⟩ := id hl0
  refine ⟨_, (pss_cons (ps_expr (pe_meth0 (pv 0) T.cl m G hr b .nil (L2N.passes_call (L2N.takes_of rfl rfl rfl rfl) (fun _ _ _ _ h => h)))) (pss_cons (ps_expr (pe_bm PySem.F.plainAttrs_list PySem.F.slot_list_append PySem.F.type_list_append mt_append (pe_fld (pv 0) rfl) (pa_cons (pe_call G3 (hr.mono (by omega)) rfl m3 k3 b3 .nil pass0 (pa_cons pe_str (pa_cons (pe_fld (pv 0) rfl) pa_nil))) pa_nil))) (pss_one (ps_fld (pv 0) (pe_lst pa_nil) rfl)))), ?_⟩
  refine t_seq ⟨_, rfl, a0.o, dx0, _, rfl, h10, lf_no _ _ _ _ (by decide +kernel) (by decide +kernel) (by decide +kernel) (by decide +kernel), a0, l, rfl, hl0, hs, fun rd a H0 ea hl u0 => ?_, fun rd => qb rd⟩
  dsimp only
  obtain ⟨⟨dx, h1⟩, ⟨v1, h2, p2⟩, ⟨v2, h3, p3⟩, ⟨v3, h4, p4⟩, a1, a2, a3⟩ := id hl
  have n1 : l.halved.bs.length ≤ 1000 := hs.1
  have n2 : l.halved.hs.length ≤ 1001 := by show (l.hs ++ [_]).length ≤ 1001; rw [List.length_append]; have := hs.2.1; show _ + 1 ≤ _; omega
  rw [← ea]
  refine t_seq ⟨_, rfl, a.o, C, dx, _, _, rfl, h1, T.cl, T.nb, lk_b _ _ _ _, .inl ⟨rfl, _, SqL.of h2⟩, _, rfl, a.o, C, dx, _, _, rfl, h1, T.cl, T.nh, lk_h _ _ _ _, "and", a.h, v2, l.halved.hs, rfl, by decide, h3, p3, n2, fun v' H2 u2 hp2 => ?_⟩
  have h1' := updA u2 h1
  have h2' := updA u2 h2
  have hlen : v1.length < sizeLine := Nat.lt_of_le_of_lt (show v1.length ≤ 1000 by rw [p2.len]; exact n1) (by decide)
  refine ⟨a.b, _, _, rfl, rfl, h2', hlen, ?_⟩
  dsimp only
  refine ⟨Nat.zero_le _, fun r2 x2 => ?_⟩
  have ob := ins_ne h1 h2
  have br2 : r2 ≠ a.b := fun e => by rw [e, upd_same] at x2; cases x2
  have x2' : H2 r2 = none := by rw [upd_ne br2] at x2; exact x2
  have x20 : H0 r2 = none := (u2 []).free x2'
  have or2 : a.o ≠ r2 := ne_of_none h1 x20
  have h1'' : upd (upd H2 a.b (.lst (v1 ++ [v']))) r2 (.lst []) a.o = some (.ins C dx (lf a.b a.h a.r (l.halved.n : Int))) := by rw [upd_ne or2, upd_ne ob]; exact h1'
  refine ⟨_, rfl, a.o, C, dx, _, rfl, h1'', T.cl, T.nh, (by show 4 < 1000; decide), ?_⟩
  have ub : Upd H2 (upd (upd (upd H2 a.b (.lst (v1 ++ [v']))) r2 (.lst [])) a.o (.ins C dx (lf a.b r2 a.r (l.halved.n : Int)))) a.foot a.foot := (Upd.wr memb ⟨_, h2'⟩).trans ((Upd.new x2).trans (Upd.wr memo ⟨_, h1''⟩))
  have uu := (u2 a.foot).trans ub
  have tk := hl.tk uu
  have tk2 : Tk K H2 _ := ub.tk (fun x hx => by
    simp only [La.foot, List.mem_cons, List.not_mem_nil, or_false] at hx
    rcases hx with rfl | rfl | rfl | rfl
    · exact .inr ⟨_, _, _, h1'⟩
    · exact .inl ⟨_, h2'⟩
    · exact .inl ⟨_, updA u2 h3⟩
    · exact .inl ⟨_, updA u2 h4⟩)
  have rr2 : r2 ≠ a.r := (ne_of_none h4 x20).symm
  have u3 : Upd H0 _ a.foot (La.foot ⟨a.o, a.b, r2, a.r⟩) := ⟨uu.fr, fun x hx => by
    simp only [La.foot, List.mem_cons, List.not_mem_nil, or_false] at hx
    rcases hx with rfl | rfl | rfl | rfl
    · exact .inl memo
    · exact .inl memb
    · exact .inr x20
    · exact .inl memr, uu.th⟩
  refine qg rd ⟨a.o, a.b, r2, a.r⟩ _ ea ⟨⟨dx, upd_same⟩, ⟨v1 ++ [v'], ?_, (PatsQ.ext tk _ _ p2).append (PatsQ.one (PatQ.ext tk2 _ _ hp2))⟩, ⟨[], ?_, rfl⟩, ⟨v3, ?_, RowQ.ext tk p4⟩, br2.symm, a2, rr2⟩ (u0.trans u3)
  · show upd _ a.o _ a.b = _
    rw [upd_ne ob.symm, upd_ne br2.symm]; exact upd_same
  · show upd _ a.o _ r2 = _
    rw [upd_ne or2.symm]; exact upd_same
  · show upd _ a.o _ a.r = _
    rw [upd_ne (ins_ne h1 h4).symm, upd_ne rr2.symm, upd_ne a2.symm]; exact updA u2 h4
theorem scTd : FnScope ["self"] ["self"] (defScope sLevelTold) := ⟨rfl, rfl, rfl, by decide +kernel, rfl, by decide +kernel, by decide +kernel⟩
theorem td_ok {f g g3 : Addr} {fd gd d3 : FuncData} (F : MtP K "told" "Level.told" sLevelTold f fd) (T : LTx K C) (G : FnOk P w K mg base (L2N.CX P w) 3 g gd ["self"] (spEH K C CX Lv.branched)) (b : Binds K gd ["self"] []) (m : Meth K C "end_branch" g)
    (G3 : FnOk P w K mg base CX0 1 g3 d3 ["kind", "parts"] (spTog K)) (b3 : Binds K d3 ["kind", "parts"] []) (k3 : PySem.W.keepIn K (.ref g3) = true) (m3 : mg "together" = some (.ref g3)) :
    FnOk P w K mg base (L2N.CX P w) 4 f fd ["self"] (spTo K C CX) := by
  refine okX F scTd (fun vs H Q E h => ?_) (fun cdv A outer s H vs Q E hr h => ?_)
  · obtain ⟨a, l, rfl, _⟩ := h
    rfl
  obtain ⟨a0, l, rfl, hl0, hs, qg, qb⟩ := h
  obtain ⟨⟨dx0, h10⟩, _⟩ := id hl0
  refine ⟨_, (pss_cons (ps_expr (pe_meth0 (pv 0) T.cl m G hr b .nil (L2N.passes_call (L2N.takes_of rfl rfl rfl rfl) (fun _ _ _ _ h => h)))) (pss_one (ps_ret (pe_call G3 (hr.mono (by omega)) rfl m3 k3 b3 .nil pass0 (pa_cons pe_str (pa_cons (pe_fld (pv 0) rfl) pa_nil)))))), ?_⟩
  refine t_seq ⟨_, rfl, a0.o, dx0, _, rfl, h10, lf_no _ _ _ _ (by decide +kernel) (by decide +kernel) (by decide +kernel) (by decide +kernel), a0, l, rfl, hl0, hs, fun rd a H0 ea hl u0 => ?_, fun rd => qb rd⟩
  dsimp only
  obtain ⟨⟨dx, h1⟩, ⟨v1, h2, p2⟩, _⟩ := id hl
  have n1 : l.branched.bs.length ≤ 1001 := by show (l.bs ++ [_]).length ≤ 1001; rw [List.length_append]; have := hs.1; show _ + 1 ≤ _; omega
  rw [← ea]
  exact ⟨_, rfl, a.o, C, dx, _, _, rfl, h1, T.cl, T.nb, lk_b _ _ _ _, "or", a.b, v1, l.branched.bs, rfl, by decide, h2, p2, n1, fun v' H2 u2 hp2 => qg rd v' H2 _ (u0.trans (u2 _)) hp2⟩
end
end Bo
set_option Elab.async false
set_option linter.all false
set_option maxRecDepth 100000
set_option maxHeartbeats 4000000
namespace Bo
open PySem PySem.Spec PyProof.Rows L2 GE
theorem tyx_ext {K : PySem.W.Frag} {H H' : Hp} {v : V} {t : Value} (e : Ext H H') (h : TyX K H v t) : TyX K H' v t := by
  cases h with
  | base b =>
    cases b with
    | non => exact .base .non
    | bl x => exact .base (.bl x)
    | int i => exact .base (.int i)
    | str x => exact .base (.str x)
    | flt x => exact .base (.flt x)
    | lst k => exact .base (.lst (e.keep _ _ k (fun ps z => by cases z)))
    | frz k => exact .base (.frz (e.keep _ _ k (fun ps z => by cases z)))
    | tup k => exact .base (.tup (e.keep _ _ k (fun ps z => by cases z)))
    | dK k => exact .base (.dK (e.keep _ _ k (fun ps z => by cases z)))
    | dT k => exact .base (.dT (e.keep _ _ k (fun ps z => by cases z)))
    | ins k a b c d f => exact .base (.ins (e.keep _ _ k (fun ps z => by cases z)) a b c d f)
  | byt b => exact .byt b
  | set k => exact .set (e.keep _ _ k (fun ps z => by cases z))
  | kList k c => exact .kList k c
  | kTuple k c => exact .kTuple k c
  | kDict k c => exact .kDict k c
  | fTuple k => exact .fTuple (e.keep _ _ k (fun ps z => by cases z))
  | fDict k => exact .fDict (e.keep _ _ k (fun ps z => by cases z))
theorem kn_ext {K : PySem.W.Frag} {H H' : Hp} {v : V} {T : String} (e : Ext H H') (h : Kn K H v T) : Kn K H' v T := ⟨tyx_ext e h.1, h.2⟩
theorem kn_tupA {K : PySem.W.Frag} {H : Hp} {a : Addr} {xs : List V} (h : H a = some (.tup xs)) : Kn K H (.ref a) "tuple" := ⟨.base (.tup h), by decide⟩
theorem kn_lstA {K : PySem.W.Frag} {H : Hp} {a : Addr} {xs : List V} (h : H a = some (.lst xs)) : Kn K H (.ref a) "list" := ⟨.base (.lst h), by decide⟩
theorem kn_dicA {K : PySem.W.Frag} {H : Hp} {a : Addr} {xs : List (Key × V)} (h : H a = some (.dK xs)) : Kn K H (.ref a) "dict" := ⟨.base (.dK h), by decide⟩
def letB (L : Str) : V → Bool
  | .str z => match cds z with
    | [c] => decide (c ∈ cds L)
    | _ => false
  | _ => false
theorem letB_not {L : Str} {v : V} (h : ∀ z, v ≠ .str z) : letB L v = false := by
  cases v <;> first | rfl | exact absurd rfl (h _)
def spIL (K : PySem.W.Frag) : Sp := fun vs H Q _ => ∃ (L : Str) (v : V) (T : String), vs = [.str L, v] ∧ Kn K H v T ∧ (∀ z, v = .str z → z.cps.size ≤ 500) ∧ Q (.bl (letB L v)) H
section
variable {P : Program} {w : World} {K : PySem.W.Frag} {mg : Str → Option Value} {base : Heap}
theorem scIL : FnScope ["letters", "thing"] ["letters", "thing"] (defScope sIsLetter) := ⟨rfl, rfl, rfl, by decide +kernel, rfl, by decide +kernel, by decide +kernel⟩
theorem il_ok {f : Addr} {fd : FuncData} (F : FnP K "is_letter" sIsLetter f fd) (mi : mg "isinstance" = none) (ms : mg "str" = none) (ml : mg "len" = none) : FnOk P w K mg base CX0 1 f fd ["letters", "thing"] (spIL K) := by
  refine okD F scIL (fun vs H Q E h => ?_) (fun cdv A outer s H vs Q E hr h => ?_)
  · obtain ⟨L, c, T, rfl, _⟩ := h
    rfl
  obtain ⟨L, v, T, rfl, hk, hz, q⟩ := h
  refine ⟨_, pss_one (ps_ret (pe_and (pe_callB call_isi rfl mi (by decide +kernel) (pa_cons (pv 1) (pa_cons (pe_bltn (v := .ty "str") (u := .type "str") rfl ms (by decide +kernel) rfl) pa_nil)))
    (pe_and (pe_cmpR op_eq (pe_callB call_len rfl ml PySem.boot_len (pa_cons (pv 1) pa_nil)) pe_int (nomark _)) (pe_one (pe_cmpR op_in_sign (pv 1) (pv 0) (by rfl)))))), ?_⟩
  refine ⟨_, rfl, v, .ty "str", .type T, .type "str", _, rfl, .ty _, hk.1, kn_str hk.2, _, rfl, ?_⟩
  by_cases hs : T = "str"
  · subst hs
    obtain ⟨z, rfl⟩ := hk.str
    refine iffT (by decide) ?_
    refine ⟨_, rfl, .str z, z.length, rfl, ⟨Nat.le_trans (hz z rfl) (by decide), rfl⟩, rfl, _, rfl, ?_⟩
    have hl : (cds z).length = z.length := Array.length_toList
    rw [dec_int]
    by_cases h1 : z.length = 1
    · rw [show (((z.length : Nat) : Int) == 1) = true by rw [h1]; rfl]
      refine iffT rfl ?_
      obtain ⟨c, hc⟩ : ∃ c, cds z = [c] := List.length_eq_one_iff.mp (by omega)
      obtain ⟨⟨cs⟩⟩ := z
      have hc : cs = [c] := hc
      subst hc
      exact ⟨_, rfl, _, rfl, c, L, rfl, rfl, q⟩
    · rw [show (((z.length : Nat) : Int) == 1) = false from beq_eq_false_iff_ne.mpr (by omega)]
      refine iffF rfl ?_
      have e : letB L (.str z) = false := by
        show (match cds z with | [c] => decide (c ∈ cds L) | _ => false) = false
        split
        · rename_i c hc
          rw [hc] at hl
          exact absurd hl.symm h1
        · rfl
      rw [e] at q
      exact q
  · rw [show decide (T = "str") = false from decide_eq_false hs]
    refine iffF rfl ?_
    rw [letB_not (hk.notStr hs)] at q
    exact q
end
/-! what the top holds -/
theorem vals_str : ∀ {us : List Value} {zs : List Str}, us.map (fun u => match u with | .str z _ => some z | _ => none) = zs.map some → Vals (zs.map V.str) us
  | [], [], _ => .nil
  | [], _ :: _, h => by cases h
  | _ :: _, [], h => by cases h
  | u :: us, z :: zs, h => by
    rw [List.map_cons, List.map_cons] at h
    injection h with h1 h2
    refine .cons ?_ (vals_str h2)
    split at h1
    · rename_i y t
      cases h1
      exact ⟨t, rfl⟩
    · cases h1
theorem tup_ok {K : PySem.W.Frag} {a : Addr} {zs : List Str} (h : tupB K a zs = true) (H : Hp) : SqT K H a (zs.map V.str) := by
  unfold tupB at h
  cases e : K.lookup a with
  | none => rw [e] at h; cases h
  | some o =>
    rw [e] at h
    obtain ⟨h1, h2⟩ := He.ba h
    cases e2 : o.data with
    | seq its n =>
      rw [e2] at h2
      obtain ⟨h3, h4⟩ := He.ba h2
      have h3 : its.toList.length ≤ 100 := of_decide_eq_true h3
      refine .inr ⟨o, its, n, e, of_decide_eq_true h1, e2, ?_, vals_str (of_decide_eq_true h4)⟩
      rw [Array.length_toList] at h3
      exact Nat.le_trans h3 (by decide)
    | _ => rw [e2] at h2; cases h2
theorem str_ok' {K : PySem.W.Frag} {d : Addr} {k z : Str} (h : strB K d k z = true) : ∃ t, PySem.W.nsIn K d k = some (some (.str z t)) := by
  unfold strB at h
  split at h
  · rename_i y t e
    have : y = z := of_decide_eq_true h
    exact ⟨t, by rw [e, this]⟩
  · cases h
theorem br_ok {K : PySem.W.Frag} {d : Addr} {k : Str} {zs : List Str} (h : brB K d k zs = true) : PySem.W.nsIn K d k = some (some (.ref (brA K d k))) ∧ ∀ H, SqT K H (brA K d k) (zs.map V.str) := by
  unfold brB at h
  obtain ⟨h1, h2⟩ := He.ba h
  exact ⟨of_decide_eq_true h1, tup_ok h2⟩
section
variable {K : PySem.W.Frag} {σ : L2.St} {H : Hp} {a : Addr} {xs : List V} {v : V} {Q : VK} {D : Ends} {t u : TS}
theorem r_ixQ {i : Nat} (j : Nat) (h0 : σ[i]? = some (some (.ref a))) (ha : SqT K H a xs) (hx : xs[j]? = some v) (q : Q v H) : tOp (rIxT K) (tVar i) (tC (.int (j : Int))) σ H Q :=
  ⟨_, h0, a, xs, _, v, rfl, rfl, ha, atI_nat hx, q⟩
theorem r_inQ {i : Nat} {k : Str} (zs : List Str) (h0 : σ[i]? = some (some (.ref a))) (ha : SqT K H a (.str k :: xs)) (hz : zs.length ≤ 20) (q : ∀ p, H p = none → Q (.bl (decide (k ∈ zs))) (upd H p (.tup (zs.map V.str)))) :
    tOp (rIn K false) (tOp (rIxT K) (tVar i) (tC (.int 0))) (tTup (tCs zs)) σ H Q := by
  refine r_ixQ 0 h0 ha rfl (tCs_go zs _ ⟨?_, fun p np => ?_⟩)
  · rw [List.length_map]; exact Nat.le_of_lt (small1000 (by omega))
  · refine ⟨p, _, rfl, .inr (SqT.of upd_same), rfl, ?_, ?_⟩
    · rw [List.all_map, List.all_eq_true]; intro z _; rfl
    · rw [inV_str]; exact q p np
theorem if_inTQ {i : Nat} {k : Str} (zs : List Str) (h0 : σ[i]? = some (some (.ref a))) (ha : SqT K H a (.str k :: xs)) (hk : k ∈ zs) (h : ∀ p, H p = none → t D σ (upd H p (.tup (zs.map V.str)))) (hz : zs.length ≤ 20 := by decide) :
    tIfS (tTest (tOp (rIn K false) (tOp (rIxT K) (tVar i) (tC (.int 0))) (tTup (tCs zs)))) t u D σ H :=
  r_inQ zs h0 ha hz fun p np => ⟨_, rfl, iffT (decide_eq_true hk) (h p np)⟩
theorem if_inFQ {i : Nat} {k : Str} (zs : List Str) (h0 : σ[i]? = some (some (.ref a))) (ha : SqT K H a (.str k :: xs)) (hk : k ∉ zs) (h : ∀ p, H p = none → u D σ (upd H p (.tup (zs.map V.str)))) (hz : zs.length ≤ 20 := by decide) :
    tIfS (tTest (tOp (rIn K false) (tOp (rIxT K) (tVar i) (tC (.int 0))) (tTup (tCs zs)))) t u D σ H :=
  r_inQ zs h0 ha hz fun p np => ⟨_, rfl, iffF (decide_eq_false hk) (h p np)⟩
end
theorem tk_new {K : PySem.W.Frag} {H : Hp} {p : Addr} {o : HO} (h : H p = none) : Tk K H (upd H p o) := (Ext.new h).sqT
def PartsQ (K : PySem.W.Frag) (H : Hp) (v : V) (us : List V) : Prop :=
  (∃ a b k, v = .ref a ∧ k ∈ (["row", "or", "and"] : List Str) ∧ SqT K H a [.str k, .ref b] ∧ SqT K H b us) ∨ (∃ a k u, v = .ref a ∧ k ∈ (["many", "not"] : List Str) ∧ SqT K H a [.str k, u] ∧ us = [u]) ∨
    ∃ a k xs, v = .ref a ∧ SqT K H a (.str k :: xs) ∧ k ∉ (["row", "or", "and"] : List Str) ∧ k ∉ (["many", "not"] : List Str) ∧ us = []
theorem pat_partsQ {K : PySem.W.Frag} {H : Hp} {p : Pat} {v : V} (h : PatQ K H p v) : ∃ us, PartsQ K H v us ∧ PatsQ K H p.parts us := by
  cases p with
  | none => obtain ⟨a, e, h⟩ := h; exact ⟨[], .inr (.inr ⟨a, _, _, e, h, by decide, by decide, rfl⟩), rfl⟩
  | empty => obtain ⟨a, e, h⟩ := h; exact ⟨[], .inr (.inr ⟨a, _, _, e, h, by decide, by decide, rfl⟩), rfl⟩
  | sign c => obtain ⟨a, e, h⟩ := h; exact ⟨[], .inr (.inr ⟨a, _, _, e, h, by decide, by decide, rfl⟩), rfl⟩
  | row ps => obtain ⟨a, b, vs, e, h, hb, hp⟩ := h; exact ⟨vs, .inl ⟨a, b, _, e, by decide, h, hb⟩, hp⟩
  | or ps => obtain ⟨a, b, vs, e, h, hb, hp⟩ := h; exact ⟨vs, .inl ⟨a, b, _, e, by decide, h, hb⟩, hp⟩
  | and ps => obtain ⟨a, b, vs, e, h, hb, hp⟩ := h; exact ⟨vs, .inl ⟨a, b, _, e, by decide, h, hb⟩, hp⟩
  | many p => obtain ⟨a, u, e, h, hp⟩ := h; exact ⟨[u], .inr (.inl ⟨a, _, u, e, by decide, h, rfl⟩), u, [], rfl, hp, rfl⟩
  | not p => obtain ⟨a, u, e, h, hp⟩ := h; exact ⟨[u], .inr (.inl ⟨a, _, u, e, by decide, h, rfl⟩), u, [], rfl, hp, rfl⟩
theorem partsQ_ext {K : PySem.W.Frag} {H H' : Hp} {v : V} {us : List V} (e : Tk K H H') (h : PartsQ K H v us) : PartsQ K H' v us := by
  rcases h with ⟨a, b, k, e1, m, h1, h2⟩ | ⟨a, k, u, e1, m, h1, e2⟩ | ⟨a, k, xs, e1, h1, n1, n2, e2⟩
  · exact .inl ⟨a, b, k, e1, m, e _ _ h1, e _ _ h2⟩
  · exact .inr (.inl ⟨a, k, u, e1, m, e _ _ h1, e2⟩)
  · exact .inr (.inr ⟨a, k, xs, e1, e _ _ h1, n1, n2, e2⟩)
def spPO (K : PySem.W.Frag) : Sp := fun vs H Q _ => ∃ (v : V) (us : List V), vs = [v] ∧ PartsQ K H v us ∧ ∀ b H', Ext H H' → SqT K H' b us → Q (.ref b) H'
def spNo (K : PySem.W.Frag) : Sp := fun vs H Q _ => ∃ (v : V) (p : Pat), vs = [v] ∧ PatQ K H p v ∧ p.size ≤ 2000 ∧ ∀ H', Ext H H' → Q (nV p.size) H'
section
variable {P : Program} {w : World} {K : PySem.W.Frag} {mg : Str → Option Value} {base : Heap}
theorem scPO : FnScope ["pattern"] ["pattern"] (defScope sPartsOf) := ⟨rfl, rfl, rfl, by decide +kernel, rfl, by decide +kernel, by decide +kernel⟩
theorem scNo : FnScope ["pattern", "count", "waiting"] ["pattern"] (defScope sNodes) := ⟨rfl, rfl, rfl, by decide +kernel, rfl, by decide +kernel, by decide +kernel⟩
theorem po_ok {f : Addr} {fd : FuncData} (F : FnP K "parts_of" sPartsOf f fd) : FnOk P w K mg base CX0 1 f fd ["pattern"] (spPO K) := by
  refine okD F scPO (fun vs H Q E h => ?_) (fun cdv A outer s H vs Q E hr h => ?_)
  · obtain ⟨v, us, rfl, _⟩ := h
    rfl
  obtain ⟨v, us, rfl, hp, q⟩ := h
  refine ⟨_, pss_cons (ps_if (pt_cmpR op_in_seq (pe_ix ix_tup (pv 0) pe_int (fun _ _ => rfl)) (pe_tup (pa_cons pe_str (pa_cons pe_str (pa_cons pe_str pa_nil)))) (by rfl))
      (pss_one (ps_ret (pe_ix ix_tup (pv 0) pe_int (fun _ _ => rfl)))) pss_nil)
    (pss_cons (ps_if (pt_cmpR op_in_seq (pe_ix ix_tup (pv 0) pe_int (fun _ _ => rfl)) (pe_tup (pa_cons pe_str (pa_cons pe_str pa_nil))) (by rfl))
      (pss_one (ps_ret (pe_tup (pa_cons (pe_ix ix_tup (pv 0) pe_int (fun _ _ => rfl)) pa_nil)))) pss_nil)
    (pss_one (ps_ret (pe_tup pa_nil)))), ?_⟩
  rcases hp with ⟨a, b, k, rfl, n1, ha, hb⟩ | ⟨a, k, u, rfl, n2, ha, rfl⟩ | ⟨a, k, xs, rfl, ha, n1, n2, rfl⟩
  · refine t_seq (if_inTQ ["row", "or", "and"] rfl ha n1 fun p1 np => ?_)
    refine r_ixQ 1 rfl (tk_new np _ _ ha) rfl ?_
    exact q b _ (Ext.new np) (tk_new np _ _ hb)
  · have n1 : k ∉ (["row", "or", "and"] : List Str) := by
      simp only [List.mem_cons, List.not_mem_nil, or_false] at n2
      rcases n2 with rfl | rfl <;> decide
    refine t_seq (if_inFQ ["row", "or", "and"] rfl ha n1 fun p1 np => t_seq (if_inTQ ["many", "not"] rfl (tk_new np _ _ ha) n2 fun p2 np2 => ?_))
    have e2 := (Ext.new (o := .tup ((["row", "or", "and"] : List Str).map V.str)) np).trans (Ext.new (o := .tup ((["many", "not"] : List Str).map V.str)) np2)
    exact r_ixQ 1 rfl (e2.sqT _ _ ha) rfl ⟨by show 1 ≤ sizeLine; decide, fun p3 np3 => q p3 _ (e2.trans (Ext.new np3)) (SqT.of upd_same)⟩
  · refine t_seq (if_inFQ ["row", "or", "and"] rfl ha n1 fun p1 np => t_seq (if_inFQ ["many", "not"] rfl (tk_new np _ _ ha) n2 fun p2 np2 => ?_))
    exact ⟨Nat.zero_le _, fun p3 np3 => q p3 _ ((Ext.new np).trans ((Ext.new np2).trans (Ext.new np3))) (SqT.of upd_same)⟩
theorem r_pop {σ : L2.St} {H : Hp} {l : Addr} {us : List V} {y : V} {i : Nat} {Q : VK} (h0 : σ[i]? = some (some (.ref l))) (hl : H l = some (.lst (us ++ [y]))) (q : Q y (upd H l (.lst us))) : tBM0 K "list" rPop (tVar i) σ H Q :=
  ⟨_, h0, .inl ⟨rfl, _, SqL.of hl⟩, l, _, y, rfl, rfl, hl, by simp, by rw [List.dropLast_concat]; exact q⟩
theorem cut_lastQ {H : Hp} {ps : List Pat} {p : Pat} {vs : List V} (h : PatsQ K H (ps ++ [p]) vs) : ∃ us y, vs = us ++ [y] ∧ PatsQ K H ps us ∧ PatQ K H p y := by
  obtain ⟨us, ws, rfl, a, b⟩ := PatsQ.cut h
  obtain ⟨y, r, rfl, hy, hr⟩ := b
  rw [show r = [] from hr]
  exact ⟨us, y, rfl, a, hy⟩
theorem sizeL_one (p : Pat) : sizeL [p] = p.size := by simp [sizeL]
theorem no_ok {f k : Addr} {fd kd : FuncData} (F : FnP K "nodes" sNodes f fd)
    (J : FnOk P w K mg base CX0 1 k kd ["pattern"] (spPO K)) (bJ : Binds K kd ["pattern"] []) (kJ : PySem.W.keepIn K (.ref k) = true) (mJ : mg "parts_of" = some (.ref k)) : FnOk P w K mg base CX0 2 f fd ["pattern"] (spNo K) := by
  refine okD F scNo (fun vs H Q E h => ?_) (fun cdv A outer s H vs Q E hr h => ?_)
  · obtain ⟨v, p, rfl, _⟩ := h
    rfl
  obtain ⟨v, p, rfl, hp, hsz, q⟩ := h
  refine ⟨_, pss_cons (ps_set (i := 1) scNo.nd rfl (Or.inl rfl) pe_int)
    (pss_cons (ps_set (i := 2) scNo.nd rfl (Or.inl rfl) (pe_lst (pa_cons (pv 0) pa_nil)))
    (pss_cons (ps_while PassesOwn.never (pt_truth (pv 2) (by intro _; rfl))
      (pss_cons (ps_aug (i := 1) scNo.nd rfl (Or.inl rfl) pe_int ip_add)
      (pss_one (ps_expr (pe_bm PySem.F.plainAttrs_list PySem.F.slot_list_extend PySem.F.type_list_extend mt_extendT (pv 2) (pa_cons (pe_call J (hr.mono (by omega)) rfl mJ kJ bJ .nil pass0 (pa_cons (pe_bm0 PySem.F.plainAttrs_list PySem.F.slot_list_pop PySem.F.type_list_pop mt_pop (pv 2)) pa_nil)) pa_nil))))))
    (pss_one (ps_ret (pv 1))))), ?_⟩
  refine t_setC (t_set ⟨_, rfl, by show 1 ≤ sizeLine; decide, fun l hl => ?_⟩)
  refine ⟨fun m σ H' => ∃ (vs : List V) (ps : List Pat) (n : Nat), σ = [some v, some (nV n), some (.ref l)] ∧ Ext H H' ∧ H' l = some (.lst vs) ∧ PatsQ K H ps vs ∧ sizeL ps = m ∧ n + m = p.size, ⟨p.size, [v], [p], 0, rfl, Ext.new hl, upd_same, ⟨v, [], rfl, hp, rfl⟩, sizeL_one p, by omega⟩, ?_⟩
  rintro m σ H' ⟨vs, ps, n, rfl, e, hl', hps, rfl, hm⟩
  refine ⟨_, rfl, _, .inl ⟨_, SqL.of hl', rfl⟩, ?_⟩
  rcases List.eq_nil_or_concat ps with rfl | ⟨ps, r, rfl⟩
  · rw [show vs = [] from hps]
    have e9 : n = p.size := hm
    exact iffF rfl ⟨_, rfl, e9 ▸ q _ e⟩
  · rw [List.concat_eq_append] at hps hm ⊢
    obtain ⟨us, y, rfl, hus, hy⟩ := cut_lastQ hps
    have hm' := hm
    rw [sizeL_append, sizeL_one] at hm'
    refine iffT (by simp) ⟨fun σ' H2 => ∃ m' < sizeL (ps ++ [r]), ∃ (vs : List V) (ps : List Pat) (n : Nat), σ' = [some v, some (nV n), some (.ref l)] ∧ Ext H H2 ∧ H2 l = some (.lst vs) ∧ PatsQ K H ps vs ∧ sizeL ps = m' ∧ n + m' = p.size, fun σ' H2 ⟨m', h1, h2⟩ => ⟨m', h1, h2⟩, ?_⟩
    refine t_seq ⟨_, rfl, _, _, rfl, rfl, ?_⟩
    have e1 : Ext H (upd H' l (.lst us)) := e.wr hl
    refine ⟨_, rfl, .inl ⟨rfl, _, SqL.of hl'⟩, r_pop rfl hl' ?_⟩
    obtain ⟨zs, hpz, hz⟩ := pat_partsQ hy
    refine ⟨y, zs, rfl, partsQ_ext e1.sqT hpz, fun b H3 e3 hb => ?_⟩
    have l3 : H3 l = some (.lst us) := e3.lst upd_same
    have hlen : us.length + zs.length ≤ 2000 := by
      have a1 := hus.len
      have a2 := hz.len
      have a3 := len_le_sizeL ps
      have a4 := len_le_sizeL r.parts
      have a5 := size_parts r
      omega
    refine ⟨l, b, us, zs, rfl, rfl, l3, hb, Nat.le_trans hlen (by decide), ?_⟩
    refine ⟨sizeL (ps ++ r.parts), ?_, us ++ zs, ps ++ r.parts, n + 1, rfl, (e1.trans e3).wr hl, upd_same, hus.append hz, rfl, ?_⟩
    · rw [sizeL_append, sizeL_append, sizeL_one, size_parts r]; omega
    · rw [sizeL_append]; have := size_parts r; omega
end
end Bo
set_option Elab.async false
set_option linter.all false
set_option maxRecDepth 100000
set_option maxHeartbeats 4000000
namespace Bo
open PySem PySem.Spec PyProof.Rows L2 GE
/-! the levels in a list -/
def LvsAt (K : PySem.W.Frag) (C : Addr) (H : Hp) : List La → List Lv → Prop
  | [], [] => True
  | a :: as, l :: ls => LvAt K C H a l ∧ LvsAt K C H as ls
  | _, _ => False
theorem lvs_snoc {K : PySem.W.Frag} {C : Addr} {H : Hp} : ∀ {as : List La} {st : List Lv} {l : Lv}, LvsAt K C H as (st ++ [l]) → ∃ as0 a, as = as0 ++ [a] ∧ LvsAt K C H as0 st ∧ LvAt K C H a l
  | [], [], l, h => h.elim
  | [], s :: st, l, h => h.elim
  | [a], [], l, h => ⟨[], a, rfl, trivial, h.1⟩
  | a :: b :: as, [], l, h => h.2.elim
  | a :: as, s :: st, l, h => by
    obtain ⟨as0, a1, rfl, h1, h2⟩ := lvs_snoc (as := as) (st := st) h.2
    exact ⟨a :: as0, a1, rfl, ⟨h.1, h1⟩, h2⟩
theorem snoc_lvs {K : PySem.W.Frag} {C : Addr} {H : Hp} : ∀ {as : List La} {st : List Lv} {a : La} {l : Lv}, LvsAt K C H as st → LvAt K C H a l → LvsAt K C H (as ++ [a]) (st ++ [l])
  | [], [], a, l, h, g => ⟨g, trivial⟩
  | [], _ :: _, a, l, h, g => h.elim
  | _ :: _, [], a, l, h, g => h.elim
  | b :: as, s :: st, a, l, h, g => ⟨h.1, snoc_lvs h.2 g⟩
theorem lvs_keep {K : PySem.W.Frag} {C : Addr} {H H' : Hp} (t : Tk K H H') : ∀ {as : List La} {st : List Lv}, LvsAt K C H as st → (∀ x ∈ as.flatMap La.foot, ∀ o, H x = some o → H' x = some o) → LvsAt K C H' as st
  | [], [], h, k => trivial
  | [], _ :: _, h, k => h.elim
  | _ :: _, [], h, k => h.elim
  | a :: as, s :: st, h, k => ⟨h.1.keep t (fun x hx => k x (by rw [List.flatMap_cons]; exact List.mem_append_left _ hx)), lvs_keep t h.2 (fun x hx => k x (by rw [List.flatMap_cons]; exact List.mem_append_right _ hx))⟩
theorem lvs_len {K : PySem.W.Frag} {C : Addr} {H : Hp} : ∀ {as : List La} {st : List Lv}, LvsAt K C H as st → as.length = st.length
  | [], [], _ => rfl
  | [], _ :: _, h => h.elim
  | _ :: _, [], h => h.elim
  | a :: as, s :: st, h => congrArg (· + 1) (lvs_len h.2)
theorem lvs_there {K : PySem.W.Frag} {C : Addr} {H : Hp} : ∀ {as : List La} {st : List Lv}, LvsAt K C H as st → ∀ x ∈ as.flatMap La.foot, ∃ o, H x = some o
  | [], [], h, x, hx => by cases hx
  | [], _ :: _, h, _, _ => h.elim
  | _ :: _, [], h, _, _ => h.elim
  | a :: as, s :: st, h, x, hx => by
    rw [List.flatMap_cons] at hx
    rcases List.mem_append.mp hx with hx | hx
    · rcases h.1.kinds x hx with ⟨xs, e⟩ | ⟨_, _, _, e⟩ <;> exact ⟨_, e⟩
    · exact lvs_there h.2 x hx
theorem LvAt.foot_nd {K : PySem.W.Frag} {C : Addr} {H : Hp} {a : La} {l : Lv} (h : LvAt K C H a l) : a.foot.Nodup := by
  obtain ⟨⟨dx, h1⟩, ⟨v1, h2, p2⟩, ⟨v2, h3, p3⟩, ⟨v3, h4, p4⟩, a1, a2, a3⟩ := h
  simp [La.foot, ins_ne h1 h2, ins_ne h1 h3, ins_ne h1 h4, a1, a2, a3]
/-- the levels' list at ls, all made since H0 -/
structure StI (K : PySem.W.Frag) (C : Addr) (r : Addr) (ws : List V) (H0 H : Hp) (ls : Addr) (st : List Lv) (as : List La) : Prop where
  l : H ls = some (.lst (as.map fun a => .ref a.o))
  at_ : LvsAt K C H as st
  nd : (as.flatMap La.foot).Nodup
  nl : ls ∉ as.flatMap La.foot
  e : Ext H0 H
  n : ∀ x ∈ as.flatMap La.foot, H0 x = none
  nls : H0 ls = none
  kr : H r = some (.lst ws)
  kn : r ∉ as.flatMap La.foot
  kl : r ≠ ls
theorem flat_snoc (as : List La) (a : La) : (as ++ [a]).flatMap La.foot = as.flatMap La.foot ++ a.foot := by rw [List.flatMap_append, List.flatMap_cons, List.flatMap_nil, List.append_nil]
/-- the innermost level is changed -/
theorem StI.top {K : PySem.W.Frag} {C r : Addr} {ws : List V} {H0 H H' : Hp} {ls : Addr} {st : List Lv} {as : List La} {a a' : La} {l l' : Lv} (h : StI K C r ws H0 H ls (st ++ [l]) (as ++ [a])) (hl : LvAt K C H a l) (hs : LvsAt K C H as st) (h' : LvAt K C H' a' l') (ea : a'.o = a.o) (u : Upd H H' a.foot a'.foot) :
    StI K C r ws H0 H' ls (st ++ [l']) (as ++ [a']) := by
  obtain ⟨h1, h2, h3, h4, h5, h6, h7, h8, h9, h10⟩ := h
  rw [flat_snoc] at h3 h4 h6 h9
  have hd := List.nodup_append.mp h3
  have there := lvs_there hs
  have no : ∀ x ∈ as.flatMap La.foot, x ∉ a.foot := fun x hx hx2 => hd.2.2 x hx x hx2 rfl
  obtain ⟨e', n'⟩ := u.ext h5 (fun x hx => h6 x (List.mem_append_right _ hx))
  have lsn : ls ∉ a.foot := fun hx => h4 (List.mem_append_right _ hx)
  refine ⟨?_, snoc_lvs (lvs_keep (hl.tk u) hs fun x hx o e => u.fr x o e (no x hx)) h', ?_, ?_, e', ?_, h7, u.fr r _ h8 (fun hx => h9 (List.mem_append_right _ hx)), ?_, h10⟩
  · rw [u.fr ls _ h1 lsn, List.map_append, List.map_append, List.map_cons, List.map_cons, List.map_nil, ea]
  · rw [flat_snoc]
    refine List.nodup_append.mpr ⟨hd.1, h'.foot_nd, fun x hx y hy e => ?_⟩
    subst e
    rcases u.fs x hy with h | h
    · exact no x hx h
    · obtain ⟨o, q⟩ := there x hx; rw [h] at q; cases q
  · rw [flat_snoc]
    intro hx
    rcases List.mem_append.mp hx with hx | hx
    · exact h4 (List.mem_append_left _ hx)
    · rcases u.fs ls hx with h | h
      · exact lsn h
      · rw [h] at h1; cases h1
  · rw [flat_snoc]
    intro x hx
    rcases List.mem_append.mp hx with hx | hx
    · exact h6 x (List.mem_append_left _ hx)
    · exact n' x hx
  · rw [flat_snoc]
    intro hx
    rcases List.mem_append.mp hx with hx | hx
    · exact h9 (List.mem_append_left _ hx)
    · rcases u.fs r hx with h | h
      · exact h9 (List.mem_append_right _ h)
      · rw [h] at h8; cases h8
/-- a word within one level -/
def opT : Tok → Lv → Option Lv
  | .bang, l => some l.takeNot
  | .star, l => if l.ready = true then some l.starred else none
  | .amp, l => if l.ready = true then some l.halved else none
  | .bar, l => if l.ready = true then some l.branched else none
  | .unit, l => some (l.takeAtom .empty)
  | .null, l => some (l.takeAtom .none)
  | .sgn c, l => some (l.takeAtom (.sign c))
  | .lp, _ => none
  | .rp, _ => none
  | .bad _, _ => none
theorem step_op {t : Tok} (h1 : t ≠ .lp) (h2 : t ≠ .rp) (s : List Lv) (l : Lv) : stepT t (s, l) = (opT t l).map fun l' => (s, l') := by
  cases t <;> first
    | exact absurd rfl h1
    | exact absurd rfl h2
    | rfl
    | (simp only [stepT, opT]; split <;> rfl)
def spTW (K : PySem.W.Frag) (C CX : Addr) : Sp := fun vs H Q E => ∃ (L : Str) (a : La) (l : Lv) (t : Tok), vs = [.str L, .ref a.o, .str (tkS t)] ∧ goodS L = true ∧ okT L t ∧ t ≠ .lp ∧ t ≠ .rp ∧ LvAt K C H a l ∧ Sm l ∧
  (∀ l', opT t l = some l' → ∀ a' H', a'.o = a.o → LvAt K C H' a' l' → Upd H H' a.foot a'.foot → Q .non H') ∧ (opT t l = none → E (.ref CX) none H)
theorem str_ne {a b : Str} (h : a ≠ b) : decide (V.str a = V.str b) = false := decide_eq_false fun e => h (V.str.inj e)
section
variable {P : Program} {w : World} {K : PySem.W.Frag} {mg : Str → Option Value} {base : Heap} {C CX : Addr}
theorem scTW : FnScope ["letters", "level", "word"] ["letters", "level", "word"] (defScope sTakeWord) := ⟨rfl, rfl, rfl, by decide +kernel, rfl, by decide +kernel, by decide +kernel⟩
theorem tw_ok' {f g1 g2 g3 g4 g5 g6 : Addr} {fd d1 d2 d3 d4 d5 d6 : FuncData} {aE aN : Addr} (F : FnP K "take_word" sTakeWord f fd) (T : LTx K C) (X : EX K mg "NoText" CX)
    (G1 : FnOk P w K mg base CX0 1 g1 d1 ["self"] (spTN K C)) (b1 : Binds K d1 ["self"] []) (m1 : Meth K C "take_not" g1)
    (G2 : FnOk P w K mg base CX0 1 g2 d2 ["self", "atom"] (spTA K C)) (b2 : Binds K d2 ["self", "atom"] []) (m2 : Meth K C "take_atom" g2)
    (G3 : FnOk P w K mg base (L2N.CX P w) 2 g3 d3 ["self"] (spTS K C CX)) (b3 : Binds K d3 ["self"] []) (m3 : Meth K C "take_star" g3)
    (G4 : FnOk P w K mg base (L2N.CX P w) 2 g4 d4 ["self"] (spEH K C CX Lv.halved)) (b4 : Binds K d4 ["self"] []) (m4 : Meth K C "end_half" g4)
    (G5 : FnOk P w K mg base (L2N.CX P w) 3 g5 d5 ["self"] (spEH K C CX Lv.branched)) (b5 : Binds K d5 ["self"] []) (m5 : Meth K C "end_branch" g5)
    (G6 : FnOk P w K mg base CX0 1 g6 d6 ["letters", "thing"] (spIL K)) (b6 : Binds K d6 ["letters", "thing"] []) (k6 : PySem.W.keepIn K (.ref g6) = true) (m6 : mg "is_letter" = some (.ref g6))
    (mE : mg "EMPTY" = some (.ref aE)) (mN : mg "NONE" = some (.ref aN)) (hE : ∀ H, SqT K H aE [.str "empty"]) (hN : ∀ H, SqT K H aN [.str "none"]) :
    FnOk P w K mg base (L2N.CX P w) 4 f fd ["letters", "level", "word"] (spTW K C CX) := by
  refine okX F scTW (fun vs H Q E h => ?_) (fun cdv A outer s H vs Q E hr h => ?_)
  · obtain ⟨L, a, l, t, rfl, _⟩ := h
    rfl
  obtain ⟨L, a, l, t, rfl, hL, ho, n1, n2, hl, hs, qg, qb⟩ := h
  obtain ⟨⟨dx, h1⟩, _⟩ := id hl
  refine ⟨_, (pss_one (ps_if (pt_cmpR op_eq (pv 2) pe_str (nomark _)) (pss_one (ps_expr (pe_meth0 (pv 1) T.cl m1 G1 (hr.mono (by omega)) b1 .nil pass0)))
    (pss_one (ps_if (pt_cmpR op_eq (pv 2) pe_str (nomark _)) (pss_one (ps_expr (pe_meth0 (pv 1) T.cl m3 G3 (hr.mono (by omega)) b3 .nil (L2N.passes_call (L2N.takes_of rfl rfl rfl rfl) (fun _ _ _ _ h => h)))))
    (pss_one (ps_if (pt_cmpR op_eq (pv 2) pe_str (nomark _)) (pss_one (ps_expr (pe_meth0 (pv 1) T.cl m4 G4 (hr.mono (by omega)) b4 .nil (L2N.passes_call (L2N.takes_of rfl rfl rfl rfl) (fun _ _ _ _ h => h)))))
    (pss_one (ps_if (pt_cmpR op_eq (pv 2) pe_str (nomark _)) (pss_one (ps_expr (pe_meth0 (pv 1) T.cl m5 G5 hr b5 .nil (L2N.passes_call (L2N.takes_of rfl rfl rfl rfl) (fun _ _ _ _ h => h)))))
    (pss_one (ps_if (pt_cmpR op_eq (pv 2) pe_str (nomark _)) (pss_one (ps_expr (pe_meth (pv 1) T.cl m2 G2 (hr.mono (by omega)) b2 .nil pass0 (pa_cons (pe_glob (v := .ref aE) rfl mE rfl) pa_nil))))
    (pss_one (ps_if (pt_cmpR op_eq (pv 2) pe_str (nomark _)) (pss_one (ps_expr (pe_meth (pv 1) T.cl m2 G2 (hr.mono (by omega)) b2 .nil pass0 (pa_cons (pe_glob (v := .ref aN) rfl mN rfl) pa_nil))))
    (pss_one (ps_if (pt_val (pe_call G6 (hr.mono (by omega)) rfl m6 k6 b6 .nil pass0 (pa_cons (pv 0) (pa_cons (pv 2) pa_nil)))) (pss_one (ps_expr (pe_meth (pv 1) T.cl m2 G2 (hr.mono (by omega)) b2 .nil pass0 (pa_cons (pe_tup (pa_cons pe_str (pa_cons (pv 2) pa_nil))) pa_nil))))
      (pss_one (L2N.ps_raise rfl (L2N.takes_of rfl rfl rfl rfl) (L2N.pmk_own PySem.F.excBase_ValueError X.q X.g X.k (raises_own X.s X.t) rfl))))))))))))))))), ?_⟩
  have tst : ∀ {x : Str} {t1 u1 : TS} {D : Ends}, (tkS t = x → t1 D [some (.str L), some (.ref a.o), some (.str (tkS t))] H) → (tkS t ≠ x → u1 D [some (.str L), some (.ref a.o), some (.str (tkS t))] H) →
      tIfS (tTest (tOp rEq (tVar 2) (tC (.str x)))) t1 u1 D [some (.str L), some (.ref a.o), some (.str (tkS t))] H := fun {x t1 u1 D} y n => by
    refine ⟨_, rfl, rfl, _, rfl, ?_⟩
    by_cases e : tkS t = x
    · exact iffT (decide_eq_true (congrArg V.str e)) (y e)
    · exact iffF (str_ne e) (n e)
  have nol : ∀ {m : Str}, m ≠ "branches" → m ≠ "halves" → m ≠ "row" → m ≠ "nots" → (lf a.b a.h a.r (l.n : Int)).lookup m = none := fun a b c d => lf_no _ _ _ _ a b c d
  have az : ∀ c, t = .sgn c → 97 ≤ c ∧ c ≤ 122 := fun c e => by
    rw [e] at ho
    unfold goodS at hL
    simp only [Bool.and_eq_true] at hL
    exact of_decide_eq_true (List.all_eq_true.mp hL.1.2 c ho)
  have inj : ∀ {x : Tok}, tkS t = tkS x → (∀ c, x ≠ .sgn c ∧ x ≠ .bad c) → t = x := fun {x} e nx => by
    have e := txt_inj e
    cases t <;> cases x <;> first
      | rfl
      | exact absurd e (by decide)
      | exact absurd rfl (nx _).1
      | exact absurd rfl (nx _).2
      | (simp [Tok.cs] at e; done)
      | (rename_i c _; have h1 := az c rfl; simp [Tok.cs] at e; rw [e] at h1; exact absurd h1 (by decide))
      | (rename_i c _; simp [Tok.cs] at e; exact absurd e (by have := ho; unfold okT at this; first | exact this.2.1 | exact this.2.2.1 | exact this.2.2.2.1 | exact this.2.2.2.2.1 | exact this.2.2.2.2.2.1 | exact this.2.2.2.2.2.2))
  refine tst (x := "!") (fun e => ?_) (fun e1 => ?_)
  · have e := inj (x := .bang) e (by simp)
    subst e
    exact ⟨_, rfl, a.o, dx, _, rfl, h1, nol (by decide +kernel) (by decide +kernel) (by decide +kernel) (by decide +kernel), a, l, rfl, hl, hs, fun H' hl' u => qg _ rfl a H' rfl hl' u⟩
  refine tst (x := "*") (fun e => ?_) (fun e2 => ?_)
  · have e := inj (x := .star) e (by simp)
    subst e
    exact ⟨_, rfl, a.o, dx, _, rfl, h1, nol (by decide +kernel) (by decide +kernel) (by decide +kernel) (by decide +kernel), a, l, rfl, hl, hs, fun rd H' hl' u => qg _ (if_pos rd) a H' rfl hl' u, fun rd => qb (if_neg (by rw [rd]; decide))⟩
  refine tst (x := "&") (fun e => ?_) (fun e3 => ?_)
  · have e := inj (x := .amp) e (by simp)
    subst e
    exact ⟨_, rfl, a.o, dx, _, rfl, h1, nol (by decide +kernel) (by decide +kernel) (by decide +kernel) (by decide +kernel), a, l, rfl, hl, hs, fun rd a' H' ea hl' u => qg _ (if_pos rd) a' H' ea hl' u, fun rd => qb (if_neg (by rw [rd]; decide))⟩
  refine tst (x := "|") (fun e => ?_) (fun e4 => ?_)
  · have e := inj (x := .bar) e (by simp)
    subst e
    exact ⟨_, rfl, a.o, dx, _, rfl, h1, nol (by decide +kernel) (by decide +kernel) (by decide +kernel) (by decide +kernel), a, l, rfl, hl, hs, fun rd a' H' ea hl' u => qg _ (if_pos rd) a' H' ea hl' u, fun rd => qb (if_neg (by rw [rd]; decide))⟩
  refine tst (x := "()") (fun e => ?_) (fun e5 => ?_)
  · have e := inj (x := .unit) e (by simp)
    subst e
    exact ⟨_, rfl, a.o, dx, _, rfl, h1, nol (by decide +kernel) (by decide +kernel) (by decide +kernel) (by decide +kernel), a, l, _, .empty, rfl, hl, hs, ⟨aE, rfl, hE H⟩, fun H' hl' u => qg _ rfl a H' rfl hl' u⟩
  refine tst (x := "[]") (fun e => ?_) (fun e6 => ?_)
  · have e := inj (x := .null) e (by simp)
    subst e
    exact ⟨_, rfl, a.o, dx, _, rfl, h1, nol (by decide +kernel) (by decide +kernel) (by decide +kernel) (by decide +kernel), a, l, _, .none, rfl, hl, hs, ⟨aN, rfl, hN H⟩, fun H' hl' u => qg _ rfl a H' rfl hl' u⟩
  have two : (∃ c, t = .sgn c) ∨ ∃ c, t = .bad c := by
    cases t with
    | sgn c => exact .inl ⟨c, rfl⟩
    | bad c => exact .inr ⟨c, rfl⟩
    | bang => exact absurd rfl e1
    | star => exact absurd rfl e2
    | amp => exact absurd rfl e3
    | bar => exact absurd rfl e4
    | unit => exact absurd rfl e5
    | null => exact absurd rfl e6
    | lp => exact absurd rfl n1
    | rp => exact absurd rfl n2
  rcases two with ⟨c, rfl⟩ | ⟨c, rfl⟩
  case inr =>
    have hb : c ∉ cds L := ho.1
    exact ⟨_, rfl, _, rfl, L, .str (tkS (.bad c)), "str", rfl, Kn.ofStr _ _ _, (fun z e => by cases e; exact (show 1 ≤ 500 by decide)), _, rfl, iffF (decide_eq_false hb) (qb rfl)⟩
  have ho : c ∈ cds L := ho
  refine ⟨_, rfl, _, rfl, L, .str (tkS (.sgn c)), "str", rfl, Kn.ofStr _ _ _, (fun z e => by cases e; exact (show 1 ≤ 500 by decide)), _, rfl, iffT (decide_eq_true ho) ?_⟩
  refine ⟨_, rfl, a.o, dx, _, rfl, h1, nol (by decide +kernel) (by decide +kernel) (by decide +kernel) (by decide +kernel), _, rfl, by show 2 ≤ sizeLine; decide, fun q x => ?_⟩
  have u0 : Upd H (upd H q (.tup [.str "sign", .str (tkS (.sgn c))])) a.foot a.foot := Upd.new x
  have hl1 : LvAt K C (upd H q (.tup [.str "sign", .str (tkS (.sgn c))])) a l := hl.keep (hl.tk u0) (fun y hy o e => by rw [upd_ne (ne_of_none e x)]; exact e)
  exact ⟨a, l, .ref q, .sign c, rfl, hl1, hs, ⟨q, rfl, SqT.of upd_same⟩, fun H' hl' u => qg _ rfl a H' rfl hl' (u0.trans u)⟩
end
end Bo
set_option Elab.async false
set_option linter.all false
set_option maxRecDepth 100000
set_option maxHeartbeats 4000000
namespace Bo
open PySem PySem.Spec PyProof.Rows L2 GE
def Smk (m : Nat) (l : Lv) : Prop := l.bs.length ≤ m ∧ l.hs.length ≤ m ∧ l.row.length ≤ m ∧ l.n ≤ m ∧ ∀ q ∈ l.row, q.1 ≤ m
theorem smk_le {m n : Nat} {l : Lv} (h : Smk m l) (e : m ≤ n) : Smk n l := ⟨Nat.le_trans h.1 e, Nat.le_trans h.2.1 e, Nat.le_trans h.2.2.1 e, Nat.le_trans h.2.2.2.1 e, fun q hq => Nat.le_trans (h.2.2.2.2 q hq) e⟩
theorem smk_atom {m : Nat} {l : Lv} (h : Smk m l) (p : Pat) : Smk (m + 1) (l.takeAtom p) := by
  obtain ⟨h1, h2, h3, h4, h5⟩ := h
  refine ⟨Nat.le_succ_of_le h1, Nat.le_succ_of_le h2, ?_, Nat.zero_le _, fun q hq => ?_⟩
  · show (l.row ++ [(l.n, p)]).length ≤ m + 1
    rw [List.length_append]; show l.row.length + 1 ≤ m + 1; omega
  · rcases List.mem_append.mp hq with hq | hq
    · exact Nat.le_succ_of_le (h5 q hq)
    · rw [List.mem_singleton.mp hq]; exact Nat.le_succ_of_le h4
theorem smk_new (m : Nat) : Smk m .new := ⟨Nat.zero_le _, Nat.zero_le _, Nat.zero_le _, Nat.zero_le _, fun q hq => by cases hq⟩
theorem smk_step {m : Nat} {t : Tok} {s s' : List Lv} {l l' : Lv} (h : ∀ x ∈ l :: s, Smk m x) (e : stepT t (s, l) = some (s', l')) : ∀ x ∈ l' :: s', Smk (m + 1) x := by
  have hl := h l List.mem_cons_self
  have up : ∀ x ∈ s, Smk (m + 1) x := fun x hx => smk_le (h x (List.mem_cons_of_mem _ hx)) (Nat.le_succ m)
  have one : ∀ l2, Smk (m + 1) l2 → some (s, l2) = some (s', l') → ∀ x ∈ l' :: s', Smk (m + 1) x := fun l2 h2 e => by
    cases e
    intro x hx
    rcases List.mem_cons.mp hx with rfl | hx
    · exact h2
    · exact up x hx
  obtain ⟨h1, h2, h3, h4, h5⟩ := id hl
  cases t with
  | bang => exact one l.takeNot ⟨Nat.le_succ_of_le h1, Nat.le_succ_of_le h2, Nat.le_succ_of_le h3, Nat.succ_le_succ h4, fun q hq => Nat.le_succ_of_le (h5 q hq)⟩ e
  | unit => exact one _ (smk_atom hl _) e
  | null => exact one _ (smk_atom hl _) e
  | sgn c => exact one _ (smk_atom hl _) e
  | star =>
    simp only [stepT] at e
    split at e
    · rename_i rd
      obtain ⟨r0, k, p, hrow, hn⟩ := ready_cut rd
      refine one _ ?_ e
      have hst : l.starred = { l with row := r0 ++ [(k, .many p)] } := by
        unfold Lv.starred
        rw [hrow]
        simp
      rw [hst]
      rw [hrow] at h3 h5
      rw [List.length_append] at h3
      refine ⟨Nat.le_succ_of_le h1, Nat.le_succ_of_le h2, ?_, Nat.le_succ_of_le h4, fun q hq => ?_⟩
      · show (r0 ++ [(k, Pat.many p)]).length ≤ m + 1
        rw [List.length_append]; exact Nat.le_succ_of_le h3
      · rcases List.mem_append.mp hq with hq | hq
        · exact Nat.le_succ_of_le (h5 q (List.mem_append_left _ hq))
        · rw [List.mem_singleton.mp hq]; exact Nat.le_succ_of_le (h5 (k, p) (List.mem_append_right _ (List.mem_singleton.mpr rfl)))
    · cases e
  | amp =>
    simp only [stepT] at e
    split at e
    · refine one l.halved ⟨Nat.le_succ_of_le h1, ?_, Nat.zero_le _, Nat.le_succ_of_le h4, fun q hq => by cases hq⟩ e
      show (l.hs ++ [_]).length ≤ m + 1
      rw [List.length_append]; show l.hs.length + 1 ≤ m + 1; omega
    · cases e
  | bar =>
    simp only [stepT] at e
    split at e
    · refine one l.branched ⟨?_, Nat.zero_le _, Nat.zero_le _, Nat.le_succ_of_le h4, fun q hq => by cases hq⟩ e
      show (l.bs ++ [_]).length ≤ m + 1
      rw [List.length_append]; show l.bs.length + 1 ≤ m + 1; omega
    · cases e
  | bad c => cases e
  | lp =>
    cases e
    intro x hx
    rcases List.mem_cons.mp hx with rfl | hx
    · exact smk_new _
    · exact smk_le (h x hx) (Nat.le_succ m)
  | rp =>
    cases s with
    | nil => cases e
    | cons o s1 =>
      simp only [stepT] at e
      split at e
      · cases e
        intro x hx
        rcases List.mem_cons.mp hx with rfl | hx
        · exact smk_atom (h o (by simp)) _
        · exact smk_le (h x (by simp [hx])) (Nat.le_succ m)
      · cases e
theorem smk_sm {m : Nat} {l : Lv} (h : Smk m l) (e : m ≤ 1000) : Sm l := smk_le h e
/-- the innermost level is taken off the list, and then only it is written -/
theorem StI.drop {K : PySem.W.Frag} {C r : Addr} {ws : List V} {H0 H H2 : Hp} {ls : Addr} {st : List Lv} {as : List La} {a : La} {l : Lv} {S' : List Addr} (h : StI K C r ws H0 H ls (st ++ [l]) (as ++ [a])) (hl : LvAt K C H a l) (hs : LvsAt K C H as st) (u : Upd (upd H ls (.lst (as.map fun a => .ref a.o))) H2 a.foot S') :
    StI K C r ws H0 H2 ls st as := by
  obtain ⟨h1, h2, h3, h4, h5, h6, h7, h8, h9, h10⟩ := h
  rw [flat_snoc] at h3 h4 h6 h9
  have hd := List.nodup_append.mp h3
  have no : ∀ x ∈ as.flatMap La.foot, x ∉ a.foot := fun x hx hx2 => hd.2.2 x hx x hx2 rfl
  have lsn : ls ∉ a.foot := fun hx => h4 (List.mem_append_right _ hx)
  have lsn2 : ls ∉ as.flatMap La.foot := fun hx => h4 (List.mem_append_left _ hx)
  have u1 : Upd H (upd H ls (.lst (as.map fun a => .ref a.o))) [ls] [ls] := Upd.wr (List.mem_singleton.mpr rfl) ⟨_, h1⟩
  have t1 : Tk K H (upd H ls (.lst (as.map fun a => .ref a.o))) := u1.tk (fun x hx => by rw [List.mem_singleton.mp hx]; exact .inl ⟨_, h1⟩)
  have k1 : ∀ x, x ≠ ls → ∀ o, H x = some o → upd H ls (.lst (as.map fun a => .ref a.o)) x = some o := fun x n o e => by rw [upd_ne n]; exact e
  have hl1 : LvAt K C (upd H ls (.lst (as.map fun a => .ref a.o))) a l := hl.keep t1 (fun x hx o e => k1 x (fun e2 => lsn (e2 ▸ hx)) o e)
  have e1 : Ext H0 (upd H ls (.lst (as.map fun a => .ref a.o))) := h5.wr h7
  obtain ⟨e2, _⟩ := u.ext e1 (fun x hx => h6 x (List.mem_append_right _ hx))
  refine ⟨u.fr ls _ upd_same lsn, lvs_keep (t1.trans (hl1.tk u)) hs (fun x hx o e => u.fr x o (k1 x (fun e2 => lsn2 (e2 ▸ hx)) o e) (no x hx)), hd.1, lsn2, e2, fun x hx => h6 x (List.mem_append_left _ hx), h7, u.fr r _ (k1 r h10 _ h8) (fun hx => h9 (List.mem_append_right _ hx)), fun hx => h9 (List.mem_append_left _ hx), h10⟩
/-- a new level -/
theorem StI.push {K : PySem.W.Frag} {C r : Addr} {ws : List V} {H0 H H2 : Hp} {ls : Addr} {st : List Lv} {as : List La} {a : La} {l : Lv} (h : StI K C r ws H0 H ls st as) (k : ∀ b o, H b = some o → H2 b = some o) (hn : ∀ x ∈ a.foot, H x = none) (ha : LvAt K C H2 a l) (et : Ext H H2) :
    StI K C r ws H0 (upd H2 ls (.lst ((as.map fun a => .ref a.o) ++ [.ref a.o]))) ls (st ++ [l]) (as ++ [a]) := by
  obtain ⟨h1, h2, h3, h4, h5, h6, h7, h8, h9, h10⟩ := h
  have there := lvs_there h2
  have fr2 : ∀ x ∈ as.flatMap La.foot, x ∉ a.foot := fun x hx hx2 => by
    obtain ⟨o, q⟩ := there x hx
    rw [hn x hx2] at q; cases q
  have lsa : ls ∉ a.foot := fun hx => by rw [hn ls hx] at h1; cases h1
  have h12 := k _ _ h1
  have u1 : Upd H2 (upd H2 ls (.lst ((as.map fun a => .ref a.o) ++ [.ref a.o]))) [ls] [ls] := Upd.wr (List.mem_singleton.mpr rfl) ⟨_, h12⟩
  have t1 : Tk K H2 (upd H2 ls (.lst ((as.map fun a => .ref a.o) ++ [.ref a.o]))) := u1.tk (fun x hx => by rw [List.mem_singleton.mp hx]; exact .inl ⟨_, h12⟩)
  have k1 : ∀ x, x ≠ ls → ∀ o, H2 x = some o → upd H2 ls (.lst ((as.map fun a => .ref a.o) ++ [.ref a.o])) x = some o := fun x n o e => by rw [upd_ne n]; exact e
  refine ⟨?_, snoc_lvs (lvs_keep (et.sqT.trans t1) h2 fun x hx o e => k1 x (fun e2 => h4 (e2 ▸ hx)) o (k x o e)) (ha.keep t1 fun x hx o e => k1 x (fun e2 => lsa (e2 ▸ hx)) o e), ?_, ?_, (h5.trans et).wr h7, ?_, h7, k1 r h10 _ (k _ _ h8), ?_, h10⟩
  · rw [upd_same, List.map_append]; rfl
  · rw [flat_snoc]
    exact List.nodup_append.mpr ⟨h3, ha.foot_nd, fun x hx y hy e => fr2 x hx (e ▸ hy)⟩
  · rw [flat_snoc]
    intro hx
    rcases List.mem_append.mp hx with hx | hx
    · exact h4 hx
    · exact lsa hx
  · rw [flat_snoc]
    intro x hx
    rcases List.mem_append.mp hx with hx | hx
    · exact h6 x hx
    · exact h5.free (hn x hx)
  · rw [flat_snoc]
    intro hx
    rcases List.mem_append.mp hx with hx | hx
    · exact h9 hx
    · rw [hn r hx] at h8; cases h8
/-- what making a level leaves -/
theorem made {K : PySem.W.Frag} {C x dx : Addr} {H H2 : Hp} {a : La} (nx : H x = none) (nd : H dx = none) (ea : a.o = x) (u : Upd (upd (upd H dx (.own x)) x (.ins C dx [])) H2 [x] a.foot) : (∀ b o, H b = some o → H2 b = some o) ∧ (∀ y ∈ a.foot, H y = none) ∧ Ext H H2 := by
  have k : ∀ b o, H b = some o → H2 b = some o := fun b o e => u.fr b o (by rw [upd_ne (ne_of_none e nx), upd_ne (ne_of_none e nd)]; exact e) (by rw [List.mem_singleton]; exact ne_of_none e nx)
  refine ⟨k, fun y hy => ?_, ⟨fun b o e _ => k b o e, fun b ⟨ps, z, t⟩ => ⟨ps, k b _ z, t⟩, fun b o e => ⟨o, k b o e⟩⟩⟩
  rcases u.fs y hy with h | h
  · rw [List.mem_singleton.mp h]; exact nx
  · cases e : H y with
    | none => rfl
    | some o =>
      have := k y o e
      rw [upd_ne (ne_of_none e nx), upd_ne (ne_of_none e nd), e] at h
      cases h
def spCl (K : PySem.W.Frag) (C CX : Addr) : Sp := fun vs H Q E => ∃ (r : Addr) (ws : List V) (H0 : Hp) (ls : Addr) (as : List La) (s : List Lv) (l : Lv), vs = [.ref ls] ∧ StI K C r ws H0 H ls (s.reverse ++ [l]) as ∧ (∀ x ∈ l :: s, Sm x) ∧ s.length ≤ 1000 ∧
  (∀ s' l', stepT .rp (s, l) = some (s', l') → ∀ as' H', StI K C r ws H0 H' ls (s'.reverse ++ [l']) as' → Q .non H') ∧ (stepT .rp (s, l) = none → ∀ H', Ext H0 H' → E (.ref CX) none H')
section
variable {P : Program} {w : World} {K : PySem.W.Frag} {mg : Str → Option Value} {base : Heap} {C CX : Addr}
theorem scCl : FnScope ["levels", "inner"] ["levels"] (defScope sCloseLevel) := ⟨rfl, rfl, rfl, by decide +kernel, rfl, by decide +kernel, by decide +kernel⟩
theorem cl_ok {f g2 g4 : Addr} {fd d2 d4 : FuncData} (F : FnP K "close_level" sCloseLevel f fd) (T : LTx K C) (X : EX K mg "NoText" CX)
    (G2 : FnOk P w K mg base CX0 1 g2 d2 ["self", "atom"] (spTA K C)) (b2 : Binds K d2 ["self", "atom"] []) (m2 : Meth K C "take_atom" g2)
    (G4 : FnOk P w K mg base (L2N.CX P w) 4 g4 d4 ["self"] (spTo K C CX)) (b4 : Binds K d4 ["self"] []) (m4 : Meth K C "told" g4) (ml : mg "len" = none) :
    FnOk P w K mg base (L2N.CX P w) 5 f fd ["levels"] (spCl K C CX) := by
  refine okX F scCl (fun vs H Q E h => ?_) (fun cdv A outer s H vs Q E hr h => ?_)
  · obtain ⟨r, ws, H0, ls, as, s, l, rfl, _⟩ := h
    rfl
  obtain ⟨r, ws, H0, ls, as, s, l, rfl, hI, hsm, hsl, qg, qb⟩ := h
  refine ⟨_, (pss_cons (ps_if (pt_cmpR op_eq (pe_callB call_len rfl ml PySem.boot_len (pa_cons (pv 0) pa_nil)) pe_int (nomark _)) (pss_one (L2N.ps_raise rfl (L2N.takes_of rfl rfl rfl rfl) (L2N.pmk_own PySem.F.excBase_ValueError X.q X.g X.k (raises_own X.s X.t) rfl))) pss_nil) (pss_cons (ps_set (i := 1) scCl.nd rfl (Or.inl rfl) (pe_bm0 PySem.F.plainAttrs_list PySem.F.slot_list_pop PySem.F.type_list_pop mt_pop (pv 0))) (pss_one (ps_expr (pe_meth (pe_ix ix_list (pv 0) (pe_un un_neg pe_int) (fun _ _ => rfl)) T.cl m2 G2 (hr.mono (by omega)) b2 .nil pass0 (pa_cons (pe_meth0 (pv 1) T.cl m4 G4 hr b4 .nil (L2N.passes_call (L2N.takes_of rfl rfl rfl rfl) (fun _ _ _ _ h => h))) pa_nil)))))), ?_⟩
  obtain ⟨as0, a, rfl, hs0, hla⟩ := lvs_snoc hI.at_
  have hl0 := hI.l
  have hlen0 := lvs_len hs0
  rw [List.length_reverse] at hlen0
  refine t_seq ⟨_, rfl, .ref ls, _, rfl, .inl ⟨_, SqL.of hl0, rfl⟩, rfl, _, rfl, ?_⟩
  rw [dec_int, List.length_map, List.length_append]
  cases s with
  | nil =>
    refine iffT ?_ (qb rfl H hI.e)
    rw [hlen0]; rfl
  | cons o s1 =>
    refine iffF ?_ ?_
    · rw [hlen0, beq_eq_false_iff_ne]; show ¬ (((s1.length + 1 + 1 : Nat) : Int) = 1); omega
    dsimp only [tNext]
    rw [List.map_append] at hl0
    refine t_set (r_pop rfl hl0 ?_)
    have hs0' : LvsAt K C H as0 (s1.reverse ++ [o]) := by rw [← List.reverse_cons]; exact hs0
    obtain ⟨as1, b, rfl, hs1, hlb⟩ := lvs_snoc hs0'
    have nd := hI.nd
    have nl := hI.nl
    rw [flat_snoc] at nd nl
    have hd := List.nodup_append.mp nd
    have lsa : ls ∉ a.foot := fun hx => nl (List.mem_append_right _ hx)
    have lsb : ls ∉ b.foot := fun hx => nl (List.mem_append_left _ (by rw [flat_snoc]; exact List.mem_append_right _ hx))
    have u1 : Upd H (upd H ls (.lst ((as1 ++ [b]).map fun a => .ref a.o))) [ls] [ls] := Upd.wr (List.mem_singleton.mpr rfl) ⟨_, hI.l⟩
    have t1 : Tk K H (upd H ls (.lst ((as1 ++ [b]).map fun a => .ref a.o))) := u1.tk (fun x hx => by rw [List.mem_singleton.mp hx]; exact .inl ⟨_, hI.l⟩)
    have k1 : ∀ x, x ≠ ls → ∀ o, H x = some o → upd H ls (.lst ((as1 ++ [b]).map fun a => .ref a.o)) x = some o := fun x n o e => by rw [upd_ne n]; exact e
    have hla1 : LvAt K C (upd H ls (.lst ((as1 ++ [b]).map fun a => .ref a.o))) a l := hla.keep t1 (fun x hx o e => k1 x (fun e2 => lsa (e2 ▸ hx)) o e)
    have hlb1 : LvAt K C (upd H ls (.lst ((as1 ++ [b]).map fun a => .ref a.o))) b o := hlb.keep t1 (fun x hx o e => k1 x (fun e2 => lsb (e2 ▸ hx)) o e)
    obtain ⟨⟨dxa, ha1⟩, _⟩ := id hla1
    obtain ⟨⟨dxb, hb1⟩, _⟩ := id hlb1
    have hI' : StI K C r ws H0 H ls ((s1.reverse ++ [o]) ++ [l]) ((as1 ++ [b]) ++ [a]) := by rw [← List.reverse_cons]; exact hI
    refine ⟨_, rfl, _, rfl, ls, _, _, .ref b.o, rfl, rfl, SqL.of upd_same, by rw [List.map_append]; exact atI_last _ _, b.o, dxb, _, rfl, hb1, lf_no _ _ _ _ (by decide +kernel) (by decide +kernel) (by decide +kernel) (by decide +kernel),
      _, rfl, a.o, dxa, _, rfl, ha1, lf_no _ _ _ _ (by decide +kernel) (by decide +kernel) (by decide +kernel) (by decide +kernel), a, l, rfl, hla1, hsm l List.mem_cons_self, fun rd v H2 S' u hp => ?_, fun rd => ?_⟩
    · have hI2 := hI'.drop hla hs0' u
      have nab : ∀ x ∈ b.foot, x ∉ a.foot := fun x hx hx2 => hd.2.2 x (by rw [flat_snoc]; exact List.mem_append_right _ hx) x hx2 rfl
      have hlb2 : LvAt K C H2 b o := hlb1.keep (hla1.tk u) (fun x hx o e => u.fr x o e (nab x hx))
      obtain ⟨as2, b2', e2, hs2, hlb2'⟩ := lvs_snoc hI2.at_
      refine ⟨b, o, v, l.said, rfl, hlb2, hsm o (by simp), hp, fun H3 hl3 u3 => ?_⟩
      have e3 := List.append_inj' e2 rfl
      obtain ⟨rfl, e4⟩ := e3
      refine qg s1 (o.takeAtom l.said) ?_ (as1 ++ [b]) H3 (hI2.top hlb2 hs2 hl3 rfl u3)
      show (if l.ready = true then some (s1, o.takeAtom l.said) else none) = _
      rw [if_pos rd]
    · refine qb ?_ _ (hI.e.wr hI.nls)
      show (if l.ready = true then some (s1, o.takeAtom l.said) else none) = none
      rw [if_neg (by rw [rd]; decide)]
end
end Bo
set_option Elab.async false
set_option linter.all false
set_option maxRecDepth 100000
set_option maxHeartbeats 4000000
namespace Bo
open PySem PySem.Spec PyProof.Rows L2 GE
theorem runT_snoc {ts : List Tok} {i : Nat} {t : Tok} {st : List Lv × Lv} {s : List Lv} {l : Lv} (h : ts[i]? = some t) (e : runT (ts.take i) st = some (s, l)) : runT (ts.take (i + 1)) st = stepT t (s, l) := by
  rw [List.take_succ, h, runT_app, e]
  show (stepT t (s, l)).bind (runT []) = _
  cases stepT t (s, l) <;> rfl
theorem runT_none {ts : List Tok} {i : Nat} {st : List Lv × Lv} (e : runT (ts.take i) st = none) : runT ts st = none := by
  rw [← List.take_append_drop i ts, runT_app, e]; rfl
theorem step_len {t : Tok} {s s' : List Lv} {l l' : Lv} (h : stepT t (s, l) = some (s', l')) : s'.length ≤ s.length + 1 := by
  cases t <;> simp only [stepT] at h
  case rp =>
    cases s with
    | nil => cases h
    | cons o s1 =>
      simp only at h
      split at h
      · cases h; simp; omega
      · cases h
  case lp => cases h; simp
  case bad => cases h
  all_goals first
    | (cases h; exact Nat.le_succ _)
    | (split at h
       · cases h; exact Nat.le_succ _
       · cases h)
/-- the words are read to a pattern -/
def Reads1 (ts : List Tok) (p : Pat) : Prop := ∃ l, runT ts ([], .new) = some ([], l) ∧ l.ready = true ∧ l.said = p
def spWr (K : PySem.W.Frag) (CX : Addr) : Sp := fun vs H Q E => ∃ (L : Str) (z : List Nat), vs = [.str L, .str (txt z)] ∧ goodS L = true ∧ z.length ≤ 400 ∧
  (∀ p, Reads1 (tokz L z) p → ∀ v H', Ext H H' → PatQ K H' p v → Q v H') ∧ ((∀ p, ¬ Reads1 (tokz L z) p) → ∀ H', Ext H H' → E (.ref CX) none H')
section
variable {P : Program} {w : World} {K : PySem.W.Frag} {mg : Str → Option Value} {base : Heap} {C CX : Addr}
theorem scWr : FnScope ["letters", "text", "levels", "word"] ["letters", "text"] (defScope sWritten) := ⟨rfl, rfl, rfl, by decide +kernel, rfl, by decide +kernel, by decide +kernel⟩
theorem wr_ok {f g0 g1 g2 g3 g4 : Addr} {fd d0 d1 d2 d3 d4 : FuncData} (F : FnP K "written" sWritten f fd) (T : LTx K C) (X : EX K mg "NoText" CX) (M : Mk K C g0) (mC : mg "Level" = some (.ref C))
    (G0 : FnOk P w K mg base CX0 1 g0 d0 ["self"] (spInit K C)) (b0 : Binds K d0 ["self"] [])
    (G1 : ∀ L, FnOk P w K mg base CX0 1 g1 d1 ["text"] (spWd L)) (b1 : Binds K d1 ["text"] []) (k1 : PySem.W.keepIn K (.ref g1) = true) (m1 : mg "words" = some (.ref g1))
    (G2 : FnOk P w K mg base (L2N.CX P w) 5 g2 d2 ["levels"] (spCl K C CX)) (b2 : Binds K d2 ["levels"] []) (k2 : PySem.W.keepIn K (.ref g2) = true) (m2 : mg "close_level" = some (.ref g2))
    (G3 : FnOk P w K mg base (L2N.CX P w) 4 g3 d3 ["letters", "level", "word"] (spTW K C CX)) (b3 : Binds K d3 ["letters", "level", "word"] []) (k3 : PySem.W.keepIn K (.ref g3) = true) (m3 : mg "take_word" = some (.ref g3))
    (G4 : FnOk P w K mg base (L2N.CX P w) 4 g4 d4 ["self"] (spTo K C CX)) (b4 : Binds K d4 ["self"] []) (m4 : Meth K C "told" g4) (ml : mg "len" = none) :
    FnOk P w K mg base (L2N.CX P w) 6 f fd ["letters", "text"] (spWr K CX) := by
  refine okX F scWr (fun vs H Q E h => ?_) (fun cdv A outer s H vs Q E hr h => ?_)
  · obtain ⟨L, z, rfl, _⟩ := h
    rfl
  obtain ⟨L, z, rfl, hL, hlz, qg, qb⟩ := h
  refine ⟨_, (pss_cons (ps_set (i := 2) scWr.nd rfl (Or.inl rfl) (pe_lst (pa_cons (pe_make0 M G0 (hr.mono (by omega)) rfl mC b0 .nil pass0) pa_nil))) (pss_cons (ps_for (passes_of rfl) rfl (pi_list (pe_call (G1 L) (hr.mono (by omega)) rfl m1 k1 b1 .nil pass0 (pa_cons (pv 1) pa_nil))) (pg_name (i := 3) scWr.nd rfl (Or.inl rfl))
      (pss_one (ps_if (pt_cmpR op_eq (pv 3) pe_str (nomark _)) (pss_one (ps_expr (pe_bm PySem.F.plainAttrs_list PySem.F.slot_list_append PySem.F.type_list_append mt_append (pv 2) (pa_cons (pe_make0 M G0 (hr.mono (by omega)) rfl mC b0 .nil pass0) pa_nil))))
        (pss_one (ps_if (pt_cmpR op_eq (pv 3) pe_str (nomark _)) (pss_one (ps_expr (pe_call G2 hr rfl m2 k2 b2 .nil (L2N.passes_call (L2N.takes_of rfl rfl rfl rfl) (fun _ _ _ _ h => h)) (pa_cons (pv 2) pa_nil))))
          (pss_one (ps_expr (pe_call G3 (hr.mono (by omega)) rfl m3 k3 b3 .nil (L2N.passes_call (L2N.takes_of rfl rfl rfl rfl) (fun _ _ _ _ h => h)) (pa_cons (pv 0) (pa_cons (pe_ix ix_list (pv 2) (pe_un un_neg pe_int) (fun _ _ => rfl)) (pa_cons (pv 3) pa_nil))))))))))) (pss_cons (ps_if (pt_cmpR op_gt (pe_callB call_len rfl ml PySem.boot_len (pa_cons (pv 2) pa_nil)) pe_int (nomark _)) (pss_one (L2N.ps_raise rfl (L2N.takes_of rfl rfl rfl rfl) (L2N.pmk_own PySem.F.excBase_ValueError X.q X.g X.k (raises_own X.s X.t) rfl))) pss_nil) (pss_one (ps_ret (pe_meth0 (pe_ix ix_list (pv 2) pe_int (fun _ _ => rfl)) T.cl m4 G4 (hr.mono (by omega)) b4 .nil (L2N.passes_call (L2N.takes_of rfl rfl rfl rfl) (fun _ _ _ _ h => h)))))))), ?_⟩
  have az : ∀ c, c ∈ cds L → 97 ≤ c ∧ c ≤ 122 := fun c hc => by
    unfold goodS at hL
    simp only [Bool.and_eq_true] at hL
    exact of_decide_eq_true (List.all_eq_true.mp hL.1.2 c hc)
  obtain ⟨ts, hts⟩ : ∃ ts, ts = tokz L z := ⟨_, rfl⟩
  have ho : ∀ x ∈ ts, okT L x := by rw [hts]; exact tokz_ok L z
  have hlen : lenT ts ≤ 400 := by rw [hts]; exact Nat.le_trans (Nat.le_of_eq (congrArg List.length (tokz_cs L z))) hlz
  rw [← hts] at qg qb
  have htl := len_lenT ts
  refine t_set ?_
  intro x dx nx ndx nex
  refine ⟨x, dx, rfl, upd_same, fun a0 H1 ea0 hla0 u0 => ⟨rfl, ?_⟩⟩
  obtain ⟨k0, n0, e0⟩ := made (K := K) nx ndx ea0 u0
  refine ⟨by show 1 ≤ sizeLine; decide, fun ls xls => ?_⟩
  have eL : Ext H1 (upd H1 ls (.lst [.ref x])) := Ext.new xls
  have ex0 : ∃ o, H1 x = some o := by
    obtain ⟨⟨dd, e⟩, _⟩ := hla0
    rw [ea0] at e
    exact ⟨_, e⟩
  refine t_seq ⟨_, rfl, z, rfl, hlz, fun r H2 nr e2 hr2 => ?_⟩
  rw [← hts] at hr2
  have eH2 : Ext H H2 := (e0.trans eL).trans e2
  have lsn : ls ∉ a0.foot := fun hx => by
    rcases hla0.kinds ls hx with ⟨xs, q⟩ | ⟨_, _, _, q⟩ <;> (rw [xls] at q; cases q)
  have hla2 : LvAt K C H2 a0 .new := by
    have h1 := hla0.keep (H' := upd H1 ls (.lst [.ref x])) eL.sqT (fun y hy o e => by rw [upd_ne (ne_of_none e xls)]; exact e)
    exact h1.keep e2.sqT (fun y hy o e => e2.keep y o e (fun ps z => by
      rcases h1.kinds y hy with ⟨xs, q⟩ | ⟨_, _, _, q⟩ <;> (rw [e] at q; rw [z] at q; cases q)))
  have hI0 : StI K C r (ts.map fun t => .str (tkS t)) H H2 ls [.new] [a0] := by
    refine ⟨?_, ⟨hla2, trivial⟩, ?_, ?_, eH2, ?_, ?_, hr2, ?_, ?_⟩
    · rw [List.map_cons, List.map_nil, ea0]; exact e2.lst upd_same
    · rw [List.flatMap_cons, List.flatMap_nil, List.append_nil]; exact hla2.foot_nd
    · rw [List.flatMap_cons, List.flatMap_nil, List.append_nil]; exact lsn
    · rw [List.flatMap_cons, List.flatMap_nil, List.append_nil]; exact n0
    · cases q : H ls with
      | none => rfl
      | some o => rw [k0 ls o q] at xls; cases xls
    · rw [List.flatMap_cons, List.flatMap_nil, List.append_nil]
      intro hx
      have nr1 : H1 r = none := eL.free nr
      rcases hla0.kinds r hx with ⟨xs, q⟩ | ⟨_, _, _, q⟩ <;> (rw [nr1] at q; cases q)
    · intro q; rw [q, upd_same] at nr; cases nr
  refine ⟨r, rfl, ⟨_, SqL.of hr2⟩, ?_⟩
  refine for_list (K := K) (a := r) (xs := ts.map fun t => V.str (tkS t)) (fun i σ' H' => ∃ (s : List Lv) (l : Lv) (as : List La) (c3 : Option V), σ' = [some (.str L), some (.str (txt z)), some (.ref ls), c3] ∧ runT (ts.take i) ([], .new) = some (s, l) ∧ StI K C r (ts.map fun t => .str (tkS t)) H H' ls (s.reverse ++ [l]) as ∧ (∀ y ∈ l :: s, Smk i y) ∧ s.length ≤ i) ?_ ?_ ?_ ?_
  · exact ⟨[], .new, [a0], none, rfl, rfl, hI0, fun y hy => by rw [List.mem_singleton.mp hy]; exact smk_new 0, Nat.zero_le _⟩
  · rintro i σ' H' _ ⟨s, l, as, c3, rfl, _, hI, _⟩
    exact SqL.of hI.kr
  · rintro i y σ' H' hy ⟨s, l, as, c3, rfl, hrun, hI, hsm, hsl⟩
    obtain ⟨t, ht, rfl⟩ : ∃ t, ts[i]? = some t ∧ y = V.str (tkS t) := by
      rw [List.getElem?_map] at hy
      cases h9 : ts[i]? with
      | none => rw [h9] at hy; cases hy
      | some t => rw [h9] at hy; exact ⟨t, rfl, (Option.some.inj hy).symm⟩
    have hi : i < ts.length := (List.getElem?_eq_some_iff.mp ht).1
    have hot := ho t (List.mem_of_getElem? ht)
    have hrun1 := runT_snoc ht hrun
    have next : ∀ s' l', stepT t (s, l) = some (s', l') → runT (ts.take (i + 1)) ([], .new) = some (s', l') ∧ (∀ y ∈ l' :: s', Smk (i + 1) y) ∧ s'.length ≤ i + 1 := fun s' l' e =>
      ⟨by rw [hrun1, e], smk_step hsm e, Nat.le_trans (step_len e) (by omega)⟩
    have dead : stepT t (s, l) = none → ∀ H', Ext H H' → E (.ref CX) none H' := fun e => qb fun p ⟨l', h1, _⟩ => by
      rw [runT_none (i := i + 1) (by rw [hrun1, e])] at h1; cases h1
    have hsm' : ∀ y ∈ l :: s, Sm y := fun y hy => smk_sm (hsm y hy) (by omega)
    have tst : ∀ {x : Str} {t1 u1 : TS} {D : Ends}, (tkS t = x → t1 D [some (.str L), some (.str (txt z)), some (.ref ls), some (.str (tkS t))] H') → (tkS t ≠ x → u1 D [some (.str L), some (.str (txt z)), some (.ref ls), some (.str (tkS t))] H') →
        tIfS (tTest (tOp rEq (tVar 3) (tC (.str x)))) t1 u1 D [some (.str L), some (.str (txt z)), some (.ref ls), some (.str (tkS t))] H' := fun {x t1 u1 D} y n => by
      refine ⟨_, rfl, rfl, _, rfl, ?_⟩
      by_cases e : tkS t = x
      · exact iffT (decide_eq_true (congrArg V.str e)) (y e)
      · exact iffF (str_ne e) (n e)
    have inj : ∀ {x : Tok}, tkS t = tkS x → (∀ c, x ≠ .sgn c ∧ x ≠ .bad c) → t = x := fun {x} e nx => by
      have e := txt_inj e
      cases t <;> cases x <;> first
        | rfl
        | exact absurd e (by decide)
        | exact absurd rfl (nx _).1
        | exact absurd rfl (nx _).2
        | (simp [Tok.cs] at e; done)
        | (rename_i c _; have h1 := az c hot; simp [Tok.cs] at e; rw [e] at h1; exact absurd h1 (by decide))
        | (rename_i c _; simp [Tok.cs] at e; exact absurd e (by have := hot; unfold okT at this; first | exact this.2.1 | exact this.2.2.1 | exact this.2.2.2.1 | exact this.2.2.2.2.1 | exact this.2.2.2.2.2.1 | exact this.2.2.2.2.2.2))
    refine tst (x := "(") (fun e => ?_) (fun n1 => ?_)
    · have e := inj (x := .lp) e (by simp)
      subst e
      refine ⟨_, rfl, .inl ⟨rfl, _, SqL.of hI.l⟩, ?_⟩
      intro x3 dx3 nx3 ndx3 nex3
      refine ⟨x3, dx3, rfl, upd_same, fun a3 H3 ea3 hla3 u3 => ⟨rfl, ?_⟩⟩
      obtain ⟨k3', n3, e3⟩ := made (K := K) nx3 ndx3 ea3 u3
      obtain ⟨g1', g2', g3'⟩ := next (l :: s) .new rfl
      have hl := lvs_len hI.at_
      rw [List.length_append, List.length_reverse] at hl
      refine ⟨ls, _, _, rfl, rfl, k3' _ _ hI.l, Nat.lt_of_le_of_lt (show _ ≤ 1000 by rw [List.length_map, hl]; show s.length + 1 ≤ 1000; omega) (by decide), ?_⟩
      have hp := hI.push k3' n3 hla3 e3
      rw [ea3] at hp
      exact ⟨l :: s, .new, as ++ [a3], _, rfl, g1', by rw [List.reverse_cons]; exact hp, g2', g3'⟩
    refine tst (x := ")") (fun e => ?_) (fun n2 => ?_)
    · have e := inj (x := .rp) e (by simp)
      subst e
      refine ⟨_, rfl, r, _, H, ls, as, s, l, rfl, hI, hsm', by omega, fun s' l' es as' H3 hI3 => ?_, fun en H3 e3 => dead en H3 e3⟩
      obtain ⟨g1', g2', g3'⟩ := next s' l' es
      exact ⟨s', l', as', _, rfl, g1', hI3, g2', g3'⟩
    have hn1 : t ≠ .lp := fun e => n1 (by rw [e]; rfl)
    have hn2 : t ≠ .rp := fun e => n2 (by rw [e]; rfl)
    obtain ⟨as0, a, rfl, hs0, hla⟩ := lvs_snoc hI.at_
    have hll := hI.l
    rw [List.map_append] at hll
    have hso := step_op hn1 hn2 s l
    refine ⟨_, rfl, _, rfl, _, rfl, ls, _, _, .ref a.o, rfl, rfl, SqL.of hll, atI_last _ _, _, rfl, L, a, l, t, rfl, hL, hot, hn1, hn2, hla, hsm' l List.mem_cons_self, fun l' el a' H3 ea h3 u3 => ?_, fun en => dead (by rw [hso, en]; rfl) H' hI.e⟩
    obtain ⟨g1', g2', g3'⟩ := next s l' (by rw [hso, el]; rfl)
    exact ⟨s, l', as0 ++ [a'], _, rfl, g1', hI.top hla hs0 h3 ea u3, g2', g3'⟩
  · rintro σ' H' ⟨s, l, as, c3, rfl, hrun, hI, hsm, hsl⟩
    rw [List.length_map, List.take_length] at hrun
    rw [List.length_map] at hsl hsm
    dsimp only
    have hl := lvs_len hI.at_
    rw [List.length_append, List.length_reverse] at hl
    refine t_seq ⟨_, rfl, .ref ls, _, rfl, .inl ⟨_, SqL.of hI.l, rfl⟩, _, _, rfl, rfl, _, rfl, ?_⟩
    rw [List.length_map, hl]
    cases s with
    | cons o s1 =>
      refine iffT (decide_eq_true (by show (1 : Int) < (((o :: s1).length + 1 : Nat) : Int); rw [List.length_cons]; omega)) (qb (fun p ⟨l', h1, _⟩ => ?_) H' hI.e)
      rw [hrun] at h1; cases h1
    | nil =>
      refine iffF (decide_eq_false (by show ¬ (1 : Int) < ((0 + 1 : Nat) : Int); decide)) ?_
      dsimp only [tNext]
      obtain ⟨as0, a, rfl, hs0, hla⟩ := lvs_snoc hI.at_
      have : as0 = [] := List.length_eq_zero_iff.mp (lvs_len hs0)
      subst this
      obtain ⟨⟨dxa, ha1⟩, _⟩ := id hla
      refine ⟨_, rfl, ls, _, 0, .ref a.o, rfl, rfl, SqL.of hI.l, atI_nat (j := 0) rfl, a.o, dxa, _, rfl, ha1, lf_no _ _ _ _ (by decide +kernel) (by decide +kernel) (by decide +kernel) (by decide +kernel), a, l, rfl, hla, smk_sm (hsm l List.mem_cons_self) (by omega), fun rd v H3 S' u hp => ?_, fun rd => ?_⟩
      · obtain ⟨e3, _⟩ := u.ext hI.e (fun y hy => hI.n y (by rw [flat_snoc]; exact List.mem_append_right _ hy))
        exact qg l.said ⟨l, hrun, rd, rfl⟩ v H3 e3 hp
      · refine qb (fun p ⟨l', h1, h2, _⟩ => ?_) H' hI.e
        rw [hrun] at h1
        cases h1
        rw [rd] at h2; cases h2
end
theorem tog_size {mk : List Pat → Pat} (h : ∀ ps, (mk ps).size = sizeL ps + 1) : ∀ ps : List Pat, (tog mk ps).size ≤ sizeL ps + 1
  | [p] => by show p.size ≤ sizeL [p] + 1; rw [sizeL_one]; omega
  | [] => Nat.le_of_eq (h [])
  | p :: q :: ps => Nat.le_of_eq (h (p :: q :: ps))
theorem nt_size : ∀ (k : Nat) (p : Pat), (nt k p).size = k + p.size
  | 0, p => (Nat.zero_add _).symm
  | k + 1, p => by show (nt k p).size + 1 = _; rw [nt_size k p]; omega
def rowW : List (Nat × Pat) → Nat
  | [] => 0
  | q :: r => q.1 + q.2.size + rowW r
theorem rowW_map : ∀ r : List (Nat × Pat), sizeL (r.map ntq) = rowW r
  | [] => rfl
  | q :: r => by show (nt q.1 q.2).size + sizeL (r.map ntq) = _; rw [nt_size, rowW_map r]; rfl
theorem rowW_app : ∀ a b : List (Nat × Pat), rowW (a ++ b) = rowW a + rowW b
  | [], b => (Nat.zero_add _).symm
  | q :: a, b => by show q.1 + q.2.size + rowW (a ++ b) = q.1 + q.2.size + rowW a + rowW b; rw [rowW_app a b]; omega
def wt (l : Lv) : Nat := sizeL l.bs + sizeL l.hs + rowW l.row + l.n
def wtS : List Lv → Nat
  | [] => 0
  | l :: s => wt l + wtS s
theorem wt_halved (l : Lv) : wt l.halved ≤ wt l + 1 := by
  have h := tog_size (mk := .row) (fun _ => rfl) (l.row.map ntq)
  rw [rowW_map] at h
  show sizeL l.bs + sizeL (l.hs ++ [tog .row (l.row.map ntq)]) + 0 + l.n ≤ sizeL l.bs + sizeL l.hs + rowW l.row + l.n + 1
  rw [sizeL_append, sizeL_one]; omega
theorem wt_branched (l : Lv) : wt l.branched ≤ wt l + 2 := by
  have h := wt_halved l
  have g := tog_size (mk := .and) (fun _ => rfl) l.halved.hs
  have e : wt l.halved = sizeL l.bs + sizeL l.halved.hs + 0 + l.n := rfl
  show sizeL (l.bs ++ [tog .and l.halved.hs]) + 0 + 0 + l.n ≤ _
  rw [sizeL_append, sizeL_one]; omega
theorem wt_said (l : Lv) : l.said.size ≤ wt l + 3 := by
  have h := wt_branched l
  have g := tog_size (mk := .or) (fun _ => rfl) l.branched.bs
  have e : wt l.branched = sizeL l.branched.bs + 0 + 0 + l.n := rfl
  show (tog .or l.branched.bs).size ≤ _
  omega
theorem wt_atom (l : Lv) (p : Pat) : wt (l.takeAtom p) = wt l + p.size := by
  show sizeL l.bs + sizeL l.hs + rowW (l.row ++ [(l.n, p)]) + 0 = sizeL l.bs + sizeL l.hs + rowW l.row + l.n + p.size
  rw [rowW_app]
  show _ + _ + (rowW l.row + (l.n + p.size + 0)) + 0 = _
  omega
theorem wt_step {t : Tok} {s s' : List Lv} {l l' : Lv} (e : stepT t (s, l) = some (s', l')) : wt l' + wtS s' ≤ wt l + wtS s + 3 := by
  cases t with
  | bang => cases e; show sizeL l.bs + sizeL l.hs + rowW l.row + (l.n + 1) + wtS s ≤ _; unfold wt; omega
  | unit => cases e; rw [wt_atom]; show _ + 1 + _ ≤ _; omega
  | null => cases e; rw [wt_atom]; show _ + 1 + _ ≤ _; omega
  | sgn c => cases e; rw [wt_atom]; show _ + 1 + _ ≤ _; omega
  | bad c => cases e
  | lp => cases e; show 0 + (wt l + wtS s) ≤ _; omega
  | star =>
    simp only [stepT] at e
    split at e
    · rename_i rd
      obtain ⟨r0, k, p, hrow, hn⟩ := ready_cut rd
      have hst : l.starred = { l with row := r0 ++ [(k, .many p)] } := by
        unfold Lv.starred
        rw [hrow]
        simp
      rw [hst] at e
      cases e
      show sizeL l.bs + sizeL l.hs + rowW (r0 ++ [(k, Pat.many p)]) + l.n + wtS s ≤ wt l + wtS s + 3
      unfold wt
      rw [hrow, rowW_app, rowW_app]
      show _ + _ + (rowW r0 + (k + (p.size + 1) + 0)) + _ + _ ≤ _ + _ + (rowW r0 + (k + p.size + 0)) + _ + _ + 3
      omega
    · cases e
  | amp =>
    simp only [stepT] at e
    split at e
    · cases e; have := wt_halved l; omega
    · cases e
  | bar =>
    simp only [stepT] at e
    split at e
    · cases e; have := wt_branched l; omega
    · cases e
  | rp =>
    cases s with
    | nil => cases e
    | cons o s1 =>
      simp only [stepT] at e
      split at e
      · cases e
        rw [wt_atom]
        have := wt_said l
        show _ ≤ wt l + (wt o + wtS _) + 3
        omega
      · cases e
theorem wt_run : ∀ (ts : List Tok) {s s' : List Lv} {l l' : Lv}, runT ts (s, l) = some (s', l') → wt l' + wtS s' ≤ wt l + wtS s + 3 * ts.length
  | [], s, s', l, l', e => by cases e; simp
  | t :: ts, s, s', l, l', e => by
    have e : (stepT t (s, l)).bind (runT ts) = some (s', l') := e
    cases h : stepT t (s, l) with
    | none => rw [h] at e; cases e
    | some st =>
      obtain ⟨s1, l1⟩ := st
      rw [h] at e
      have h1 := wt_step h
      have h2 := wt_run ts (show runT ts (s1, l1) = some (s', l') from e)
      rw [List.length_cons]; omega
theorem reads_size {ts : List Tok} {p : Pat} (h : Reads1 ts p) (n : ts.length ≤ 400) : p.size ≤ 2000 := by
  obtain ⟨l, h1, _, rfl⟩ := h
  have a := wt_run ts h1
  have b := wt_said l
  have c : wt .new = 0 := rfl
  have d : wtS [] = 0 := rfl
  omega
/-- a thing for the letters: of a known kind, no long text -/
def LV (K : PySem.W.Frag) (H : Hp) (lv : V) : Prop := (∃ Ty, Kn K H lv Ty) ∧ ∀ z, lv = .str z → z.cps.size ≤ 100
theorem lv_ext {K : PySem.W.Frag} {H H' : Hp} {lv : V} (e : Ext H H') (h : LV K H lv) : LV K H' lv := ⟨let ⟨Ty, k⟩ := h.1; ⟨Ty, kn_ext e k⟩, h.2⟩
/-- what read tells of letters and a thing -/
structure RdS (K : PySem.W.Frag) (H : Hp) (lv tv : V) (RL RX RG : Hp → Prop) (Q : VK) : Prop where
  kl : LV K H lv
  kt : ∃ Ty, Kn K H tv Ty
  bad : goodV lv = false → ∀ H', Ext H H' → RL H'
  no : goodV lv = true → (∀ z, tv ≠ .str z) → ∀ H', Ext H H' → RX H'
  str : ∀ L z, lv = .str L → goodS L = true → tv = .str (txt z) → z.length ≤ 1000 ∧ (400 < z.length → ∀ H', Ext H H' → RG H') ∧
    (z.length ≤ 400 → (∀ p, Reads1 (tokz L z) p → (60 < p.size → ∀ H', Ext H H' → RG H') ∧ (p.size ≤ 60 → ∀ v H', Ext H H' → PatQ K H' p v → Q v H')) ∧ ((∀ p, ¬ Reads1 (tokz L z) p) → ∀ H', Ext H H' → RX H'))
def spRd (K : PySem.W.Frag) (CL CX CG T : Addr) : Sp := fun vs H Q E => ∃ (lv tv : V), vs = [lv, tv] ∧ GxR.TabG H T ∧ RdS K H lv tv (E (.ref CL) none) (E (.ref CX) none) (E (.ref CG) none) Q
section
variable {P : Program} {w : World} {K : PySem.W.Frag} {mg : Str → Option Value} {base : Heap} {C CX : Addr}
theorem scRd : FnScope ["letters", "text", "pattern"] ["letters", "text"] (defScope sRead) := ⟨rfl, rfl, rfl, by decide +kernel, rfl, by decide +kernel, by decide +kernel⟩
theorem rd_ok {f g1 g2 g3 : Addr} {fd d1 d2 d3 : FuncData} {CL CG Tb : Addr} {tk1 tk2 : PySem.Tok} (F : FnP K "read" sRead f fd) (X : EX K mg "NoText" CX) (Y : EX K mg "TooGreat" CG)
    (G1 : FnOk P w K mg base (L2N.CX P w) 3 g1 d1 ["letters"] (spNL K CL Tb)) (b1 : Binds K d1 ["letters"] []) (k1 : PySem.W.keepIn K (.ref g1) = true) (m1 : mg "need_letters" = some (.ref g1))
    (G2 : FnOk P w K mg base (L2N.CX P w) 6 g2 d2 ["letters", "text"] (spWr K CX)) (b2 : Binds K d2 ["letters", "text"] []) (k2 : PySem.W.keepIn K (.ref g2) = true) (m2 : mg "written" = some (.ref g2))
    (G3 : FnOk P w K mg base CX0 2 g3 d3 ["pattern"] (spNo K)) (b3 : Binds K d3 ["pattern"] []) (k3 : PySem.W.keepIn K (.ref g3) = true) (m3 : mg "nodes" = some (.ref g3))
    (mi : mg "isinstance" = none) (ms : mg "str" = none) (ml : mg "len" = none) (mW : mg "MOST_WRITTEN" = some (.int 400 tk1)) (mN : mg "MOST_NODES" = some (.int 60 tk2)) :
    FnOk P w K mg base (L2N.CX P w) 7 f fd ["letters", "text"] (spRd K CL CX CG Tb) := by
  refine okX F scRd (fun vs H Q E h => ?_) (fun cdv A outer s H vs Q E hr h => ?_)
  · obtain ⟨lv, tv, rfl, _⟩ := h
    rfl
  obtain ⟨lv, tv, rfl, hT, ⟨⟨Ty, hk⟩, hz⟩, ⟨Tt, ht⟩, qb, qn, qs⟩ := h
  refine ⟨_, (pss_cons (ps_expr (pe_call G1 (hr.mono (by omega)) rfl m1 k1 b1 .nil (L2N.passes_call (L2N.takes_of rfl rfl rfl rfl) (fun _ _ _ _ h => h)) (pa_cons (pv 0) pa_nil))) (pss_cons (ps_if (pt_not (pt_val (pe_callB call_isi rfl mi (by decide +kernel) (pa_cons (pv 1) (pa_cons (pe_bltn (v := .ty "str") (u := .type "str") rfl ms (by decide +kernel) rfl) pa_nil))))) (pss_one (L2N.ps_raise rfl (L2N.takes_of rfl rfl rfl rfl) (L2N.pmk_own PySem.F.excBase_ValueError X.q X.g X.k (raises_own X.s X.t) rfl))) pss_nil) (pss_cons (ps_if (pt_cmpR op_gt (pe_callB call_len rfl ml PySem.boot_len (pa_cons (pv 1) pa_nil)) (pe_glob (v := .int 400) rfl mW ⟨_, rfl⟩) (nomark _)) (pss_one (L2N.ps_raise rfl (L2N.takes_of rfl rfl rfl rfl) (L2N.pmk_own PySem.F.excBase_ValueError Y.q Y.g Y.k (raises_own Y.s Y.t) rfl))) pss_nil) (pss_cons (ps_set (i := 2) scRd.nd rfl (Or.inl rfl) (pe_call G2 hr rfl m2 k2 b2 .nil (L2N.passes_call (L2N.takes_of rfl rfl rfl rfl) (fun _ _ _ _ h => h)) (pa_cons (pv 0) (pa_cons (pv 1) pa_nil)))) (pss_cons (ps_if (pt_cmpR op_gt (pe_call G3 (hr.mono (by omega)) rfl m3 k3 b3 .nil pass0 (pa_cons (pv 2) pa_nil)) (pe_glob (v := .int 60) rfl mN ⟨_, rfl⟩) (nomark _)) (pss_one (L2N.ps_raise rfl (L2N.takes_of rfl rfl rfl rfl) (L2N.pmk_own PySem.F.excBase_ValueError Y.q Y.g Y.k (raises_own Y.s Y.t) rfl))) pss_nil) (pss_one (ps_ret (pv 2)))))))), ?_⟩
  refine t_seq ⟨_, rfl, lv, Ty, rfl, hk, hz, hT, fun good H1 e1 => ?_, fun bad H1 e1 => qb bad H1 e1⟩
  dsimp only
  refine t_seq ⟨_, rfl, tv, .ty "str", .type Tt, .type "str", _, rfl, .ty _, (kn_ext e1 ht).1, kn_str ht.2, _, rfl, ?_⟩
  by_cases hs : Tt = "str"
  case neg => exact iffT (by rw [Bool.not_eq_true', decide_eq_false_iff_not]; exact hs) (qn good (ht.notStr hs) _ e1)
  subst hs
  obtain ⟨zs, rfl⟩ := ht.str
  obtain ⟨L, rfl⟩ : ∃ L, lv = .str L := by
    cases lv <;> first | exact ⟨_, rfl⟩ | cases good
  have good : goodS L = true := good
  refine iffF (by decide) ?_
  dsimp only [tNext]
  obtain ⟨hq1, hq2, hq3⟩ := qs L (cds zs) rfl good (by rw [txt_cds])
  have hzl : zs.length = (cds zs).length := Array.length_toList.symm
  refine t_seq ⟨_, rfl, .str zs, _, rfl, ⟨Nat.le_trans (by rw [hzl]; exact hq1) (by decide), rfl⟩, _, _, rfl, rfl, _, rfl, ?_⟩
  by_cases h400 : 400 < (cds zs).length
  · exact iffT (decide_eq_true (by rw [hzl]; omega)) (hq2 h400 _ e1)
  refine iffF (decide_eq_false (by rw [hzl]; omega)) ?_
  dsimp only [tNext]
  obtain ⟨hg, hn⟩ := hq3 (by omega)
  refine t_set ⟨_, rfl, _, rfl, L, cds zs, by rw [txt_cds]; rfl, good, by omega, fun p hp v H2 e2 hv => ?_, fun no H2 e2 => hn no H2 (e1.trans e2)⟩
  obtain ⟨h1, h2⟩ := hg p hp
  have hsz := reads_size hp (Nat.le_trans (len_lenT _) (Nat.le_trans (Nat.le_of_eq (congrArg List.length (tokz_cs L (cds zs)))) (by omega)))
  refine t_seq ⟨_, rfl, v, p, rfl, hv, hsz, fun H3 e3 => ⟨_, _, rfl, rfl, _, rfl, ?_⟩⟩
  by_cases h60 : 60 < p.size
  · exact iffT (decide_eq_true (by omega)) (h1 h60 _ ((e1.trans e2).trans e3))
  · refine iffF (decide_eq_false (by omega)) ?_
    dsimp only [tNext]
    exact ⟨_, rfl, h2 (by omega) v H3 ((e1.trans e2).trans e3) (PatQ.ext e3.sqT _ _ hv)⟩
end
end Bo
set_option Elab.async false
set_option linter.all false
set_option maxRecDepth 100000
set_option maxHeartbeats 4000000
namespace Bo
open PySem PySem.Spec PyProof.Rows L2 GE
/-! the law's own going from sign to sign, beside the levels -/
def Succ1 (ts : List Tok) (st : List Lv × Lv) : Prop := ∃ l, runT ts st = some ([], l) ∧ l.ready = true
theorem succ_app {a b : List Tok} {st st' : List Lv × Lv} (e : runT a st = some st') (h : Succ1 (a ++ b) st) : Succ1 b st' := by
  obtain ⟨l, h1, h2⟩ := h
  rw [runT_app, e] at h1
  exact ⟨l, h1, h2⟩
theorem succ_cons {t : Tok} {b : List Tok} {st st' : List Lv × Lv} (e : stepT t st = some st') (h : Succ1 (t :: b) st) : Succ1 b st' := by
  obtain ⟨l, h1, h2⟩ := h
  have h1 : (stepT t st).bind (runT b) = some ([], l) := h1
  rw [e] at h1
  exact ⟨l, h1, h2⟩
theorem succ_none {t : Tok} {b : List Tok} {st : List Lv × Lv} (e : stepT t st = none) : ¬ Succ1 (t :: b) st := fun ⟨l, h1, _⟩ => by
  have h1 : (stepT t st).bind (runT b) = some ([], l) := h1
  rw [e] at h1; cases h1
section
variable {L : Str} {z : List Nat}
abbrev tz (L : Str) (z : List Nat) (i : Nat) : List Tok := tokz L (z.drop i)
theorem drop_some {i c : Nat} (h : z[i]? = some c) : z.drop i = c :: z.drop (i + 1) := by
  obtain ⟨hi, e⟩ := List.getElem?_eq_some_iff.mp h
  rw [← e]; exact List.drop_eq_getElem_cons hi
theorem tz_end {i : Nat} (h : z[i]? = none) : tz L z i = [] := by
  rw [tz, List.drop_eq_nil_of_le (List.getElem?_eq_none_iff.mp h)]; rfl
theorem tz_unit {i : Nat} (h : z[i]? = some 40) (g : z[i + 1]? = some 41) : tz L z i = .unit :: tz L z (i + 2) := by
  rw [tz, drop_some h, drop_some g, tokz, if_pos ⟨rfl, rfl⟩]
theorem tz_null {i : Nat} (h : z[i]? = some 91) (g : z[i + 1]? = some 93) : tz L z i = .null :: tz L z (i + 2) := by
  rw [tz, drop_some h, drop_some g, tokz, if_neg (by decide), if_pos ⟨rfl, rfl⟩]
theorem tz_one {i c : Nat} (h : z[i]? = some c) (n1 : ¬ (c = 40 ∧ z[i + 1]? = some 41)) (n2 : ¬ (c = 91 ∧ z[i + 1]? = some 93)) : tz L z i = one1 L c :: tz L z (i + 1) := by
  rw [tz, drop_some h]
  cases g : z[i + 1]? with
  | none =>
    have e : z.drop (i + 1) = [] := List.drop_eq_nil_of_le (List.getElem?_eq_none_iff.mp g)
    rw [tz, e]; rfl
  | some d =>
    rw [tz, drop_some g, tokz, if_neg (fun k => n1 ⟨k.1, by rw [g, k.2]⟩), if_neg (fun k => n2 ⟨k.1, by rw [g, k.2]⟩)]
theorem lt_of {i c : Nat} (h : z[i]? = some c) : i < z.length := (List.getElem?_eq_some_iff.mp h).1
def TermC (o : Option Nat) : Prop := o = none ∨ o = some 124 ∨ o = some 38 ∨ o = some 41
def AtomOk (L : Str) (z : List Nat) (i : Nat) (p : Pat) (j : Nat) : Prop := i < j ∧ j ≤ z.length ∧ ∃ ts, tz L z i = ts ++ tz L z j ∧ ∀ s l, runT ts (s, l) = some (s, { l with row := l.row ++ [(l.n, p)], n := 0 })
def ItemOk (L : Str) (z : List Nat) (i : Nat) (p : Pat) (j : Nat) : Prop := i < j ∧ j ≤ z.length ∧ z[j]? ≠ some 42 ∧ ∃ ts, tz L z i = ts ++ tz L z j ∧ ∀ s l, ∃ k a, runT ts (s, l) = some (s, { l with row := l.row ++ [(l.n + k, a)], n := 0 }) ∧ nt k a = p
def ItemNo (L : Str) (z : List Nat) (i : Nat) : Prop := ∀ s l, (0 < l.n ∨ (¬ TermC z[i]? ∧ (l.row = [] ∨ z[i]? ≠ some 42))) → ¬ Succ1 (tz L z i) (s, l)
def HalfOk (L : Str) (z : List Nat) (i : Nat) (p : Pat) (j : Nat) : Prop := i < j ∧ j ≤ z.length ∧ TermC z[j]? ∧ ∃ ts, tz L z i = ts ++ tz L z j ∧ ∀ s bs hs, ∃ row, runT ts (s, ⟨bs, hs, [], 0⟩) = some (s, ⟨bs, hs, row, 0⟩) ∧ row ≠ [] ∧ tog .row (row.map ntq) = p
def HalfNo (L : Str) (z : List Nat) (i : Nat) : Prop := ∀ s bs hs, ¬ Succ1 (tz L z i) (s, ⟨bs, hs, [], 0⟩)
def HalfAt (L : Str) (z : List Nat) (i : Nat) (ps : List Pat) (j : Nat) : Prop := i ≤ j ∧ j ≤ z.length ∧ (ps ≠ [] → i < j ∧ z[j]? ≠ some 42) ∧ ∃ ts, tz L z i = ts ++ tz L z j ∧ ∀ s bs hs, ∃ row, runT ts (s, ⟨bs, hs, [], 0⟩) = some (s, ⟨bs, hs, row, 0⟩) ∧ row.map ntq = ps
def EithOk (L : Str) (z : List Nat) (i : Nat) (p : Pat) (j : Nat) : Prop := i < j ∧ j ≤ z.length ∧ (z[j]? = none ∨ z[j]? = some 41) ∧ ∃ ts, tz L z i = ts ++ tz L z j ∧ ∀ s, ∃ l, runT ts (s, .new) = some (s, l) ∧ l.ready = true ∧ l.said = p
def EithNo (L : Str) (z : List Nat) (i : Nat) : Prop := ∀ s, ¬ Succ1 (tz L z i) (s, .new)
def EithAt (L : Str) (z : List Nat) (i : Nat) (bs hs : List Pat) (j : Nat) : Prop := i ≤ j ∧ j ≤ z.length ∧ ∃ ts, tz L z i = ts ++ tz L z j ∧ ∀ s, runT ts (s, .new) = some (s, ⟨bs, hs, [], 0⟩)
theorem ready_n {l : Lv} (h : 0 < l.n) : l.ready = false := by unfold Lv.ready; rw [decide_eq_false (by omega)]; rfl
theorem ready_e {l : Lv} (h : l.row = []) : l.ready = false := by unfold Lv.ready; rw [h]; simp
/-- an end where no item stands ahead -/
theorem term_no {i : Nat} {s : List Lv} {l : Lv} (r : l.ready = false) (h : TermC z[i]?) : ¬ Succ1 (tz L z i) (s, l) := by
  rcases h with h | h | h | h
  · rw [tz_end h]
    rintro ⟨l', h1, h2⟩
    cases h1
    rw [r] at h2; cases h2
  · rw [tz_one h (fun k => absurd k.1 (by decide)) (fun k => absurd k.1 (by decide))]
    exact succ_none (by show (if l.ready = true then _ else _) = _; rw [if_neg (by rw [r]; decide)])
  · rw [tz_one h (fun k => absurd k.1 (by decide)) (fun k => absurd k.1 (by decide))]
    exact succ_none (by show (if l.ready = true then _ else _) = _; rw [if_neg (by rw [r]; decide)])
  · rw [tz_one h (fun k => absurd k.1 (by decide)) (fun k => absurd k.1 (by decide))]
    refine succ_none ?_
    cases s with
    | nil => rfl
    | cons o s => show (if l.ready = true then _ else _) = _; rw [if_neg (by rw [r]; decide)]
theorem item_bang {i j : Nat} {p : Pat} (h : z[i]? = some 33) (k : ItemOk L z (i + 1) p j) : ItemOk L z i (.not p) j := by
  obtain ⟨h1, h2, h3, ts, h4, h5⟩ := k
  refine ⟨by omega, h2, h3, .bang :: ts, ?_, fun s l => ?_⟩
  · rw [tz_one h (fun k => absurd k.1 (by decide)) (fun k => absurd k.1 (by decide)), h4]; rfl
  · obtain ⟨k, a, e, f⟩ := h5 s l.takeNot
    refine ⟨k + 1, a, ?_, congrArg Pat.not f⟩
    show runT ts (s, l.takeNot) = _
    rw [e]
    show some (s, (⟨l.bs, l.hs, l.row ++ [(l.n + 1 + k, a)], 0⟩ : Lv)) = some (s, ⟨l.bs, l.hs, l.row ++ [(l.n + (k + 1), a)], 0⟩)
    rw [show l.n + 1 + k = l.n + (k + 1) by omega]
theorem item_bang_no {i : Nat} (h : z[i]? = some 33) (k : ItemNo L z (i + 1)) : ItemNo L z i := fun s l _ hs => by
  rw [tz_one h (fun k => absurd k.1 (by decide)) (fun k => absurd k.1 (by decide))] at hs
  exact k s l.takeNot (.inl (Nat.succ_pos _)) (succ_cons (st' := (s, l.takeNot)) rfl hs)
theorem atom_unit {i : Nat} (h : z[i]? = some 40) (g : z[i + 1]? = some 41) : AtomOk L z i .empty (i + 2) := ⟨by omega, lt_of g, [.unit], tz_unit h g, fun s l => rfl⟩
theorem atom_null {i : Nat} (h : z[i]? = some 91) (g : z[i + 1]? = some 93) : AtomOk L z i .none (i + 2) := ⟨by omega, lt_of g, [.null], tz_null h g, fun s l => rfl⟩
theorem one1_sgn {c : Nat} (h : c ∈ cds L) (az : 97 ≤ c ∧ c ≤ 122) : one1 L c = .sgn c := by
  unfold one1
  rw [if_neg (by omega), if_neg (by omega), if_neg (by omega), if_neg (by omega), if_neg (by omega), if_neg (by omega), if_pos h]
theorem atom_sgn {i c : Nat} (h : z[i]? = some c) (hc : c ∈ cds L) (az : 97 ≤ c ∧ c ≤ 122) : AtomOk L z i (.sign c) (i + 1) := by
  refine ⟨by omega, lt_of h, [.sgn c], ?_, fun s l => rfl⟩
  rw [tz_one h (fun k => by omega) (fun k => by omega), one1_sgn hc az]; rfl
theorem atom_par {i j : Nat} {p : Pat} (h : z[i]? = some 40) (g : z[i + 1]? ≠ some 41) (k : EithOk L z (i + 1) p j) (e : z[j]? = some 41) : AtomOk L z i p (j + 1) := by
  obtain ⟨h1, h2, _, ts, h4, h5⟩ := k
  refine ⟨by omega, lt_of e, .lp :: (ts ++ [.rp]), ?_, fun s l => ?_⟩
  · rw [tz_one h (fun k => g k.2) (fun k => absurd k.1 (by decide)), h4, tz_one e (fun k => absurd k.1 (by decide)) (fun k => absurd k.1 (by decide))]
    show Tok.lp :: (ts ++ Tok.rp :: _) = _
    simp
  · obtain ⟨l', e1, e2, e3⟩ := h5 (l :: s)
    show runT (ts ++ [.rp]) (l :: s, Lv.new) = _
    rw [runT_app, e1]
    show ((if l'.ready = true then some (s, l.takeAtom l'.said) else none : Option (List Lv × Lv))).bind (runT []) = _
    rw [if_pos e2, e3]
    rfl
theorem atom_star {i j : Nat} {p : Pat} (k : AtomOk L z i p j) (e : z[j]? = some 42) : AtomOk L z i (.many p) (j + 1) := by
  obtain ⟨h1, h2, ts, h4, h5⟩ := k
  refine ⟨by omega, lt_of e, ts ++ [.star], ?_, fun s l => ?_⟩
  · rw [h4, tz_one e (fun k => absurd k.1 (by decide)) (fun k => absurd k.1 (by decide))]
    show ts ++ Tok.star :: _ = _
    simp
  · rw [runT_app, h5 s l]
    show (if (⟨l.bs, l.hs, l.row ++ [(l.n, p)], 0⟩ : Lv).ready = true then some (s, (⟨l.bs, l.hs, l.row ++ [(l.n, p)], 0⟩ : Lv).starred) else none : Option (List Lv × Lv)).bind (runT []) = _
    rw [if_pos (ready_of (by simp))]
    show some (s, (⟨l.bs, l.hs, l.row ++ [(l.n, p)], 0⟩ : Lv).starred) = _
    have e : (⟨l.bs, l.hs, l.row ++ [(l.n, p)], 0⟩ : Lv).starred = ⟨l.bs, l.hs, l.row ++ [(l.n, .many p)], 0⟩ := by
      unfold Lv.starred
      simp
    rw [e]
theorem atom_item {i j : Nat} {p : Pat} (k : AtomOk L z i p j) (e : z[j]? ≠ some 42) : ItemOk L z i p j := by
  obtain ⟨h1, h2, ts, h4, h5⟩ := k
  exact ⟨h1, h2, e, ts, h4, fun s l => ⟨0, p, h5 s l, rfl⟩⟩
theorem no_par {i : Nat} (h : z[i]? = some 40) (g : z[i + 1]? ≠ some 41) (k : EithNo L z (i + 1)) : ItemNo L z i := fun s l _ hs => by
  rw [tz_one h (fun k => g k.2) (fun k => absurd k.1 (by decide))] at hs
  exact k (l :: s) (succ_cons (st' := (l :: s, .new)) rfl hs)
theorem no_par2 {i j : Nat} {p : Pat} (h : z[i]? = some 40) (g : z[i + 1]? ≠ some 41) (k : EithOk L z (i + 1) p j) (e : z[j]? ≠ some 41) : ItemNo L z i := fun s l _ hs => by
  obtain ⟨h1, h2, h3, ts, h4, h5⟩ := k
  rw [tz_one h (fun k => g k.2) (fun k => absurd k.1 (by decide))] at hs
  have hs := succ_cons (st' := (l :: s, .new)) rfl hs
  rw [h4] at hs
  obtain ⟨l', e1, _, _⟩ := h5 (l :: s)
  have hs := succ_app e1 hs
  rcases h3 with h3 | h3
  · rw [tz_end h3] at hs
    obtain ⟨l2, a, _⟩ := hs
    cases a
  · exact e h3
/-- what begins no item -/
theorem no_else {i : Nat} (h33 : z[i]? ≠ some 33) (h40 : z[i]? ≠ some 40) (hp : ¬ (z[i]? = some 91 ∧ z[i + 1]? = some 93)) (hc : ∀ c, z[i]? = some c → c ∉ cds L) : ItemNo L z i := fun s l hcond => by
  by_cases ht : TermC z[i]?
  · rcases hcond with hn | ⟨hn, _⟩
    · exact term_no (ready_n hn) ht
    · exact absurd ht hn
  · cases e : z[i]? with
    | none => exact absurd (.inl e) ht
    | some c =>
      rw [tz_one e (fun k => h40 (by rw [e, k.1])) (fun k => hp ⟨by rw [e, k.1], k.2⟩)]
      have n1 : c ≠ 33 := fun k => h33 (by rw [e, k])
      have n2 : c ≠ 40 := fun k => h40 (by rw [e, k])
      have n3 : c ≠ 124 := fun k => ht (.inr (.inl (by rw [e, k])))
      have n4 : c ≠ 38 := fun k => ht (.inr (.inr (.inl (by rw [e, k]))))
      have n5 : c ≠ 41 := fun k => ht (.inr (.inr (.inr (by rw [e, k]))))
      by_cases h42 : c = 42
      · have r : l.ready = false := by
          rcases hcond with hn | ⟨_, hn | hn⟩
          · exact ready_n hn
          · exact ready_e hn
          · exact absurd (by rw [e, h42]) hn
        subst h42
        exact succ_none (by show (if l.ready = true then _ else _) = _; rw [if_neg (by rw [r]; decide)])
      · have : one1 L c = .bad c := by
          unfold one1
          rw [if_neg n1, if_neg h42, if_neg n4, if_neg n3, if_neg n2, if_neg n5, if_neg (hc c e)]
        rw [this]
        exact succ_none rfl
theorem half_start {i : Nat} (h : i ≤ z.length) : HalfAt L z i [] i := ⟨Nat.le_refl _, h, fun k => absurd rfl k, [], rfl, fun s bs hs => ⟨[], rfl, rfl⟩⟩
theorem half_next {i j k : Nat} {ps : List Pat} {p : Pat} (h : HalfAt L z i ps j) (g : ItemOk L z j p k) : HalfAt L z i (ps ++ [p]) k := by
  obtain ⟨h1, h2, h3, ts, h4, h5⟩ := h
  obtain ⟨g1, g2, g3, us, g4, g5⟩ := g
  refine ⟨by omega, g2, fun _ => ⟨by omega, g3⟩, ts ++ us, by rw [h4, g4, List.append_assoc], fun s bs hs => ?_⟩
  obtain ⟨row, e1, e2⟩ := h5 s bs hs
  obtain ⟨n, a, e3, e4⟩ := g5 s ⟨bs, hs, row, 0⟩
  refine ⟨row ++ [(0 + n, a)], by rw [runT_app, e1]; exact e3, ?_⟩
  rw [List.map_append, e2]
  show ps ++ [nt (0 + n) a] = _
  rw [Nat.zero_add, e4]
theorem half_no {i j : Nat} {ps : List Pat} (h : HalfAt L z i ps j) (ht : ¬ TermC z[j]?) (g : ItemNo L z j) : HalfNo L z i := fun s bs hs hS => by
  obtain ⟨h1, h2, h3, ts, h4, h5⟩ := h
  rw [h4] at hS
  obtain ⟨row, e1, e2⟩ := h5 s bs hs
  refine g s ⟨bs, hs, row, 0⟩ (.inr ⟨ht, ?_⟩) (succ_app e1 hS)
  cases ps with
  | nil => exact .inl (List.map_eq_nil_iff.mp e2)
  | cons p ps => exact .inr (h3 (by simp)).2
theorem half_none {i : Nat} (ht : TermC z[i]?) : HalfNo L z i := fun s bs hs => term_no (ready_e rfl) ht
theorem half_done {i j : Nat} {ps : List Pat} (h : HalfAt L z i ps j) (ht : TermC z[j]?) (hp : ps ≠ []) : HalfOk L z i (tog .row ps) j := by
  obtain ⟨h1, h2, h3, ts, h4, h5⟩ := h
  refine ⟨(h3 hp).1, h2, ht, ts, h4, fun s bs hs => ?_⟩
  obtain ⟨row, e1, e2⟩ := h5 s bs hs
  exact ⟨row, e1, fun e0 => hp (by rw [← e2, e0]; rfl), by rw [e2]⟩
theorem eith_start {i : Nat} (h : i ≤ z.length) : EithAt L z i [] [] i := ⟨Nat.le_refl _, h, [], rfl, fun s => rfl⟩
theorem eith_no {i j : Nat} {bs hs : List Pat} (h : EithAt L z i bs hs j) (g : HalfNo L z j) : EithNo L z i := fun s hS => by
  obtain ⟨h1, h2, ts, h4, h5⟩ := h
  rw [h4] at hS
  exact g s bs hs (succ_app (h5 s) hS)
theorem eith_amp {i j k : Nat} {bs hs : List Pat} {p : Pat} (h : EithAt L z i bs hs j) (g : HalfOk L z j p k) (e : z[k]? = some 38) : EithAt L z i bs (hs ++ [p]) (k + 1) := by
  obtain ⟨h1, h2, ts, h4, h5⟩ := h
  obtain ⟨g1, g2, _, us, g4, g5⟩ := g
  refine ⟨by omega, lt_of e, ts ++ (us ++ [.amp]), ?_, fun s => ?_⟩
  · rw [h4, g4, tz_one e (fun k => absurd k.1 (by decide)) (fun k => absurd k.1 (by decide))]
    show ts ++ (us ++ Tok.amp :: _) = _
    simp
  · obtain ⟨row, e1, e2, e3⟩ := g5 s bs hs
    rw [runT_app, h5 s]
    show runT (us ++ [.amp]) (s, ⟨bs, hs, [], 0⟩) = _
    rw [runT_app, e1]
    show (if (⟨bs, hs, row, 0⟩ : Lv).ready = true then some (s, (⟨bs, hs, row, 0⟩ : Lv).halved) else none : Option (List Lv × Lv)).bind (runT []) = _
    rw [if_pos (ready_of e2)]
    show some (s, (⟨bs, hs ++ [tog .row (row.map ntq)], [], 0⟩ : Lv)) = _
    rw [e3]
theorem eith_bar {i j k : Nat} {bs hs : List Pat} {p : Pat} (h : EithAt L z i bs hs j) (g : HalfOk L z j p k) (e : z[k]? = some 124) : EithAt L z i (bs ++ [tog .and (hs ++ [p])]) [] (k + 1) := by
  obtain ⟨h1, h2, ts, h4, h5⟩ := h
  obtain ⟨g1, g2, _, us, g4, g5⟩ := g
  refine ⟨by omega, lt_of e, ts ++ (us ++ [.bar]), ?_, fun s => ?_⟩
  · rw [h4, g4, tz_one e (fun k => absurd k.1 (by decide)) (fun k => absurd k.1 (by decide))]
    show ts ++ (us ++ Tok.bar :: _) = _
    simp
  · obtain ⟨row, e1, e2, e3⟩ := g5 s bs hs
    rw [runT_app, h5 s]
    show runT (us ++ [.bar]) (s, ⟨bs, hs, [], 0⟩) = _
    rw [runT_app, e1]
    show (if (⟨bs, hs, row, 0⟩ : Lv).ready = true then some (s, (⟨bs, hs, row, 0⟩ : Lv).branched) else none : Option (List Lv × Lv)).bind (runT []) = _
    rw [if_pos (ready_of e2)]
    show some (s, (⟨bs ++ [tog .and (hs ++ [tog .row (row.map ntq)])], [], [], 0⟩ : Lv)) = _
    rw [e3]
theorem eith_done {i j k : Nat} {bs hs : List Pat} {p : Pat} (h : EithAt L z i bs hs j) (g : HalfOk L z j p k) (n1 : z[k]? ≠ some 38) (n2 : z[k]? ≠ some 124) : EithOk L z i (tog .or (bs ++ [tog .and (hs ++ [p])])) k := by
  obtain ⟨h1, h2, ts, h4, h5⟩ := h
  obtain ⟨g1, g2, g3, us, g4, g5⟩ := g
  refine ⟨by omega, g2, ?_, ts ++ us, by rw [h4, g4, List.append_assoc], fun s => ?_⟩
  · rcases g3 with g3 | g3 | g3 | g3
    · exact .inl g3
    · exact absurd g3 n2
    · exact absurd g3 n1
    · exact .inr g3
  · obtain ⟨row, e1, e2, e3⟩ := g5 s bs hs
    refine ⟨⟨bs, hs, row, 0⟩, by rw [runT_app, h5 s]; exact e1, ready_of e2, ?_⟩
    show tog .or (bs ++ [tog .and (hs ++ [tog .row (row.map ntq)])]) = _
    rw [e3]
theorem due_no (h : EithNo L z 0) : ∀ p, ¬ Reads1 (tokz L z) p := fun p ⟨l, h1, h2, _⟩ => h [] ⟨l, h1, h2⟩
theorem due_more {p : Pat} {j : Nat} (h : EithOk L z 0 p j) (hj : j < z.length) : ∀ p, ¬ Reads1 (tokz L z) p := fun p' ⟨l, h1, h2, _⟩ => by
  obtain ⟨g1, g2, g3, ts, g4, g5⟩ := h
  have hS : Succ1 (tz L z 0) ([], .new) := ⟨l, h1, h2⟩
  rw [g4] at hS
  obtain ⟨l', e1, _, _⟩ := g5 []
  have hS := succ_app e1 hS
  have e : z[j]? = some 41 := by
    rcases g3 with g3 | g3
    · exact absurd (List.getElem?_eq_none_iff.mp g3) (by omega)
    · exact g3
  rw [tz_one e (fun k => absurd k.1 (by decide)) (fun k => absurd k.1 (by decide))] at hS
  exact succ_none rfl hS
theorem due_all {p : Pat} {j : Nat} (h : EithOk L z 0 p j) (hj : ¬ j < z.length) : Reads1 (tokz L z) p := by
  obtain ⟨g1, g2, g3, ts, g4, g5⟩ := h
  obtain ⟨l, e1, e2, e3⟩ := g5 []
  have e0 : tz L z j = [] := tz_end (List.getElem?_eq_none_iff.mpr (by omega))
  rw [e0, List.append_nil] at g4
  have g4 : tokz L z = ts := g4
  exact ⟨l, by rw [g4]; exact e1, e2, e3⟩
end
end Bo
set_option Elab.async false
set_option linter.all false
set_option maxRecDepth 100000
set_option maxHeartbeats 4000000
namespace Bo
open PySem PySem.Spec PyProof.Rows L2 GE
theorem txt_app (a b : List Nat) : txt a ++ txt b = txt (a ++ b) := by
  show Str.mk (a.toArray ++ b.toArray) = Str.mk (a ++ b).toArray
  rw [List.append_toArray]
theorem joinL_eq (m : List Nat) : ∀ (a : List Nat) (r : List (List Nat)), TL.joinL m (a :: r) = a ++ r.flatMap (fun x => m ++ x)
  | a, [] => by simp [TL.joinL]
  | a, b :: r => by
    show a ++ (m ++ TL.joinL m (b :: r)) = _
    rw [joinL_eq m b r, List.flatMap_cons]
    simp
theorem join_txts (m : List Nat) (a : List Nat) (r : List (List Nat)) : Txt.join (txt m) ((a :: r).map txt) = txt (a ++ r.flatMap (fun x => m ++ x)) := by
  show Builtin.Str.glued _ _ = _
  rw [StrLaws.glued_eq_join]
  have e : TL.tl (Str.join (txt m) ((a :: r).map txt)) = a ++ r.flatMap (fun x => m ++ x) := by
    rw [TL.tl_join, List.map_map]
    show TL.joinL m ((a :: r).map (TL.tl ∘ txt)) = _
    rw [show (TL.tl ∘ txt) = id from rfl, List.map_id]
    exact joinL_eq m a r
  rw [← txt_cds (Str.join _ _)]
  exact congrArg txt e
theorem size_mem {p : Pat} : ∀ {ps : List Pat}, p ∈ ps → p.size ≤ sizeL ps
  | q :: ps, h => by
    rcases List.mem_cons.mp h with e | h
    · rw [e, sizeL]; omega
    · have := size_mem h; rw [sizeL]; omega
/-! a pattern as data -/
mutual
def pd : Pat → PyData
  | .none => .tuple [.str "none"]
  | .empty => .tuple [.str "empty"]
  | .sign c => .tuple [.str "sign", .str ⟨#[c]⟩]
  | .row ps => .tuple [.str "row", .tuple (pdL ps)]
  | .or ps => .tuple [.str "or", .tuple (pdL ps)]
  | .and ps => .tuple [.str "and", .tuple (pdL ps)]
  | .many p => .tuple [.str "many", pd p]
  | .not p => .tuple [.str "not", pd p]
def pdL : List Pat → List PyData
  | [] => []
  | p :: ps => pd p :: pdL ps
end
mutual
theorem pd_dp {K : PySem.W.Frag} {H : Hp} : ∀ (p : Pat) (v : V), PatQ K H p v → Dp K H v (pd p)
  | .none, v, ⟨a, e, h⟩ => e ▸ .tup h (.cons (.str _) .nil)
  | .empty, v, ⟨a, e, h⟩ => e ▸ .tup h (.cons (.str _) .nil)
  | .sign c, v, ⟨a, e, h⟩ => e ▸ .tup h (.cons (.str _) (.cons (.str _) .nil))
  | .row ps, v, ⟨a, b, vs, e, h, hb, hp⟩ => e ▸ .tup h (.cons (.str _) (.cons (.tup hb (pdL_dp ps vs hp)) .nil))
  | .or ps, v, ⟨a, b, vs, e, h, hb, hp⟩ => e ▸ .tup h (.cons (.str _) (.cons (.tup hb (pdL_dp ps vs hp)) .nil))
  | .and ps, v, ⟨a, b, vs, e, h, hb, hp⟩ => e ▸ .tup h (.cons (.str _) (.cons (.tup hb (pdL_dp ps vs hp)) .nil))
  | .many p, v, ⟨a, u, e, h, hp⟩ => e ▸ .tup h (.cons (.str _) (.cons (pd_dp p u hp) .nil))
  | .not p, v, ⟨a, u, e, h, hp⟩ => e ▸ .tup h (.cons (.str _) (.cons (pd_dp p u hp) .nil))
theorem pdL_dp {K : PySem.W.Frag} {H : Hp} : ∀ (ps : List Pat) (vs : List V), PatsQ K H ps vs → DpAll K H vs (pdL ps)
  | [], vs, e => (show vs = [] from e) ▸ .nil
  | p :: ps, vs, ⟨v, r, e, h, hp⟩ => e ▸ .cons (pd_dp p v h) (pdL_dp ps r hp)
end
mutual
theorem pd_depth : ∀ p : Pat, (pd p).depth ≤ 2 * p.dep
  | .none => by decide
  | .empty => by decide
  | .sign c => by show 0 + 1 ≤ 2 * 1; decide
  | .row ps => by
    have h := pdL_depth ps
    show max 0 (max (PyData.depthAll (pdL ps) + 1) 0) + 1 ≤ 2 * (depL ps + 1)
    omega
  | .or ps => by
    have h := pdL_depth ps
    show max 0 (max (PyData.depthAll (pdL ps) + 1) 0) + 1 ≤ 2 * (depL ps + 1)
    omega
  | .and ps => by
    have h := pdL_depth ps
    show max 0 (max (PyData.depthAll (pdL ps) + 1) 0) + 1 ≤ 2 * (depL ps + 1)
    omega
  | .many p => by
    have h := pd_depth p
    show max 0 (max (pd p).depth 0) + 1 ≤ 2 * (p.dep + 1)
    omega
  | .not p => by
    have h := pd_depth p
    show max 0 (max (pd p).depth 0) + 1 ≤ 2 * (p.dep + 1)
    omega
theorem pdL_depth : ∀ ps : List Pat, PyData.depthAll (pdL ps) ≤ 2 * depL ps
  | [] => Nat.le_refl _
  | p :: ps => by
    have h1 := pd_depth p
    have h2 := pdL_depth ps
    show max (pd p).depth (PyData.depthAll (pdL ps)) ≤ 2 * max p.dep (depL ps)
    omega
end
theorem sgn_ok : ∀ c, c < 128 → PyData.strOk ⟨#[c]⟩ = true := by decide +kernel
mutual
theorem pd_lay {L : Str} (hL : goodS L = true) : ∀ p : Pat, p.ok L → (pd p).canLay0 = true
  | .none, _ => by decide +kernel
  | .empty, _ => by decide +kernel
  | .sign c, h => by
    have az : c < 128 := by
      unfold goodS at hL
      simp only [Bool.and_eq_true] at hL
      have := (of_decide_eq_true (List.all_eq_true.mp hL.1.2 c h)).2
      omega
    show (PyData.strOk "sign" && (PyData.strOk ⟨#[c]⟩ && true)) = true
    rw [sgn_ok c az]; decide +kernel
  | .row ps, h => by
    show (PyData.strOk "row" && (PyData.canLayAll0 (pdL ps) && true)) = true
    rw [pdL_lay hL ps h.2]; decide +kernel
  | .or ps, h => by
    show (PyData.strOk "or" && (PyData.canLayAll0 (pdL ps) && true)) = true
    rw [pdL_lay hL ps h.2]; decide +kernel
  | .and ps, h => by
    show (PyData.strOk "and" && (PyData.canLayAll0 (pdL ps) && true)) = true
    rw [pdL_lay hL ps h.2]; decide +kernel
  | .many p, h => by
    show (PyData.strOk "many" && ((pd p).canLay0 && true)) = true
    rw [pd_lay hL p h]; decide +kernel
  | .not p, h => by
    show (PyData.strOk "not" && ((pd p).canLay0 && true)) = true
    rw [pd_lay hL p h]; decide +kernel
theorem pdL_lay {L : Str} (hL : goodS L = true) : ∀ ps : List Pat, okL L ps → PyData.canLayAll0 (pdL ps) = true
  | [], _ => rfl
  | p :: ps, h => by
    show ((pd p).canLay0 && PyData.canLayAll0 (pdL ps)) = true
    rw [pd_lay hL p h.1, pdL_lay hL ps h.2]; rfl
end
/-- the same data twice -/
def rEqS (K : PySem.W.Frag) : R2 := fun x y H Q => ∃ d : PyData, d.canLay0 = true ∧ d.depth ≤ 600 ∧ Dp K H x d ∧ Dp K H y d ∧ Q (.bl true) H
def rNeS (K : PySem.W.Frag) : R2 := fun x y H Q => ∃ d : PyData, d.canLay0 = true ∧ d.depth ≤ 600 ∧ Dp K H x d ∧ Dp K H y d ∧ Q (.bl false) H
theorem op_eqS {X : Cx} (hu : X.A.units + 700 < cLine) : OpR X (compareOp .Eq) (rEqS X.K) := by
  intro pins s σ H x y v u Q I rx ry h
  obtain ⟨d, lay, dd, hx, hy, q⟩ := h
  obtain ⟨as, r1⟩ := Dp.reads I d x v hx rx
  obtain ⟨bs, r2⟩ := Dp.reads I d y u hy ry
  refine SeqAt.compareEq_reads r1 r2 lay lay (by rw [Nat.min_self]; omega) ?_
  rw [SeqAt.eqv_refl d lay]
  exact ⟨.bl true, H, I, rfl, q⟩
theorem op_neS {X : Cx} (hu : X.A.units + 700 < cLine) : OpR X (compareOp .NotEq) (rNeS X.K) := by
  intro pins s σ H x y v u Q I rx ry h
  obtain ⟨d, lay, dd, hx, hy, q⟩ := h
  obtain ⟨as, r1⟩ := Dp.reads I d x v hx rx
  obtain ⟨bs, r2⟩ := Dp.reads I d y u hy ry
  refine SeqAt.compareNe_reads r1 r2 lay lay (by rw [Nat.min_self]; omega) ?_
  rw [SeqAt.eqv_refl d lay]
  exact ⟨.bl false, H, I, rfl, q⟩
/-! the law's own -/
theorem join_txt (l : List Nat) : Txt.join (Str.ofString "") (l.map sgn) = txt l := by
  cases l with
  | nil => rfl
  | cons a r =>
    have h := join_txts [] [a] (r.map fun c => [c])
    have e : (a :: r).map sgn = ([a] :: r.map fun c => [c]).map txt := by rw [List.map_cons, List.map_cons, List.map_map]; rfl
    rw [e]
    refine h.trans (congrArg txt ?_)
    show [a] ++ (r.map fun c => [c]).flatMap (fun x => [] ++ x) = a :: r
    rw [List.flatMap_map]
    show a :: r.flatMap (fun c => [c]) = a :: r
    rw [List.flatMap_singleton']
/-- the letters that a cell draws -/
def mkL (r s n : Nat) : Str := txt ((List.range n).map fun k => 97 + (r + k * s) % 26)
theorem mkL_good : ∀ r, r < 26 → ∀ s, s < 12 → ∀ n, n < 4 → goodS (mkL r (s + 1) (n + 1)) = true := by decide +kernel
def lets (z : Int) : Str := mkL ((z / 4) % 26).toNat (1 + (z / 104) % 12).toNat (1 + z % 4).toNat
theorem lets_good (z : Int) : goodS (lets z) = true := by
  have h1 : ((z / 4) % 26).toNat < 26 := by omega
  have h2 : (1 + (z / 104) % 12).toNat = ((z / 104) % 12).toNat + 1 := by omega
  have h3 : (1 + z % 4).toNat = (z % 4).toNat + 1 := by omega
  rw [lets, h2, h3]
  exact mkL_good _ h1 _ (by omega) _ (by omega)
def spCA (K : PySem.W.Frag) : Sp := fun vs H Q _ => ∃ (a : Addr) (ns : List Int) (k : Nat), vs = [.ref a, nV k] ∧ SqL K H a (ns.map V.int) ∧ Q (.int (ns.getD k 0)) H
def spLt : Sp := fun vs H Q _ => ∃ z : Int, vs = [.int z] ∧ ∀ H', Ext H H' → Q (.str (lets z)) H'
def alphabet : Str := "abcdefghijklmnopqrstuvwxyz"
theorem alpha_get : ∀ i, i < 26 → (cds alphabet)[i]? = some (97 + i) := by decide +kernel
section
variable {P : Program} {w : World} {K : PySem.W.Frag} {mg : Str → Option Value} {base : Heap}
theorem scCA : FnScope ["_law_script", "_law_k"] ["_law_script", "_law_k"] (defScope sLawCellAt) := ⟨rfl, rfl, rfl, by decide +kernel, rfl, by decide +kernel, by decide +kernel⟩
theorem scLt : FnScope ["_law_cell", "_law_some", "_law_k"] ["_law_cell"] (defScope sLawLetters) := ⟨rfl, rfl, rfl, by decide +kernel, rfl, by decide +kernel, by decide +kernel⟩
theorem ca_ok {f : Addr} {fd : FuncData} (F : FnP K "_law_cell_at" sLawCellAt f fd) (ml : mg "len" = none) : FnOk P w K mg base CX0 1 f fd ["_law_script", "_law_k"] (spCA K) := by
  refine okD F scCA (fun vs H Q E h => ?_) (fun cdv A outer s H vs Q E hr h => ?_)
  · obtain ⟨a, ns, k, rfl, _⟩ := h
    rfl
  obtain ⟨a, ns, k, rfl, hS, q⟩ := h
  refine ⟨_, pss_cons (ps_if (pt_cmpR op_lt (pv 1) (pe_callB call_len rfl ml PySem.boot_len (pa_cons (pv 0) pa_nil)) (nomark _)) (pss_one (ps_ret (pe_ix ix_list (pv 0) (pv 1) (fun _ _ => rfl)))) pss_nil)
    (pss_one (ps_ret pe_int)), ?_⟩
  refine t_seq ⟨_, rfl, _, rfl, .ref a, _, rfl, .inl ⟨_, hS, rfl⟩, _, _, rfl, rfl, _, rfl, ?_⟩
  rw [List.length_map]
  by_cases h : k < ns.length
  · refine iffT (decide_eq_true (by omega)) ⟨_, rfl, _, rfl, a, _, _, _, rfl, rfl, hS, atI_nat (v := .int (ns.getD k 0)) ?_, q⟩
    rw [List.getElem?_map, List.getElem?_eq_getElem h]
    simp [List.getD, List.getElem?_eq_getElem h]
  · refine iffF (decide_eq_false (by omega)) ?_
    have e : ns.getD k 0 = 0 := by rw [List.getD_eq_getElem?_getD, List.getElem?_eq_none (by omega)]; rfl
    rw [e] at q
    exact q
theorem lt_ok {f : Addr} {fd : FuncData} (F : FnP K "_law_letters" sLawLetters f fd) (mr : mg "range" = none) : FnOk P w K mg base CX0 1 f fd ["_law_cell"] spLt := by
  refine okD F scLt (fun vs H Q E h => ?_) (fun cdv A outer s H vs Q E hr h => ?_)
  · obtain ⟨z, rfl, _⟩ := h
    rfl
  obtain ⟨z, rfl, q⟩ := h
  refine ⟨_, pss_cons (ps_set (i := 1) scLt.nd rfl (Or.inr rfl) pe_str)
    (pss_one (ps_ret (pe_join pe_str (pe_lc (own := [("_law_k", 2)]) (g := gName 2) (tt := tYes) rfl scLt.nd (pi_range1 rfl mr (pa_cons (pe_op op_add pe_int (pe_op op_mod (pv 0) pe_int)) pa_nil))
      (blkOk_by (N := ["_law_cell", "_law_some", "_law_k"]) (sc := defScope sLawLetters) (by decide +kernel))
      (fun _ _ _ _ _ => pg_name (i := 2) scLt.nd rfl (Or.inl rfl) (Or.inr rfl)) (fun _ _ _ _ _ => pts_nil)
      (fun _ _ _ _ _ => pe_ix ix_str (pv 1) (pe_op op_mod (pe_op op_add (pe_op op_fdiv (pv 0) pe_int) (pe_op op_mul (pv 2) (pe_op op_add pe_int (pe_op op_mod (pe_op op_fdiv (pv 0) pe_int) pe_int)))) pe_int) (fun _ _ => rfl)))))), ?_⟩
  refine t_setC ⟨⟨_, rfl⟩, ?_⟩
  refine ⟨_, rfl, _, _, rfl, rfl, show (0 : Int) < 4 by decide, _, _, rfl, rfl, _, rfl, by omega, by omega, fun D hD => ?_⟩
  have hn : (1 + z % 4).toNat ≤ 4 := by omega
  refine lc_range (Built H D fun k => .str (sgn (97 + (((z / 4) % 26).toNat + k * (1 + (z / 104) % 12).toNat) % 26))) (Built.zero hD) ?_ ?_
  · intro k H' hk b
    refine ⟨rfl, ?_⟩
    refine ⟨_, rfl, _, rfl, _, _, rfl, rfl, show (0 : Int) < 4 ∧ (4 : Int) < 1073741824 by decide, _, rfl, _, rfl, _, _, rfl, rfl, show (0 : Int) < 104 ∧ (104 : Int) < 1073741824 by decide, _, _, rfl, rfl, show (0 : Int) < 12 by decide, _, _, rfl, rfl, _, _, rfl, rfl, ?_⟩
    have k4 : k < 4 := by omega
    have eS : 1 + z / 104 % 12 = (((1 + z / 104 % 12).toNat : Nat) : Int) := by omega
    have e : (z / 4 + (0 + (k : Int)) * (1 + z / 104 % 12)) % 26 = (((((z / 4) % 26).toNat + k * (1 + (z / 104) % 12).toNat) % 26 : Nat) : Int) := by
      rw [eS, Int.zero_add, ← Int.natCast_mul]
      rw [show (((1 + z / 104 % 12).toNat : Nat) : Int).toNat = (1 + z / 104 % 12).toNat from Int.toNat_natCast _]
      generalize k * (1 + z / 104 % 12).toNat = m'
      omega
    refine ⟨.inl ⟨by omega, by omega⟩, _, _, rfl, rfl, _, _, rfl, rfl, show (0 : Int) < 26 by decide, alphabet, _, 97 + (((z / 4) % 26).toNat + k * (1 + (z / 104) % 12).toNat) % 26, rfl, congrArg V.int e, by decide, atI_nat (alpha_get _ (by omega)), ?_⟩
    exact b.next hD (Ext.refl _) rfl (Nat.lt_trans k4 (by decide))
  · intro H' b
    refine ⟨_, _, (List.range (1 + z % 4).toNat).map (fun k => sgn (97 + (((z / 4) % 26).toNat + k * (1 + (z / 104) % 12).toNat) % 26)), rfl, rfl, .inl ?_, ?_, ?_⟩
    · rw [List.map_map]; exact SqL.of b.2
    · have : ((List.range (1 + z % 4).toNat).map (fun k => sgn (97 + (((z / 4) % 26).toNat + k * (1 + (z / 104) % 12).toNat) % 26))).map (·.length) = List.replicate (1 + z % 4).toNat 1 := by
        rw [List.map_map]
        exact List.eq_replicate_iff.mpr ⟨by simp, fun b hb => by obtain ⟨k, _, rfl⟩ := List.mem_map.mp hb; rfl⟩
      rw [this, List.sum_replicate_nat]
      rw [show (Str.ofString "").length = 0 by decide]
      simp
      omega
    · have e : (List.range (1 + z % 4).toNat).map (fun k => sgn (97 + (((z / 4) % 26).toNat + k * (1 + (z / 104) % 12).toNat) % 26)) = ((List.range (1 + z % 4).toNat).map (fun k => 97 + (((z / 4) % 26).toNat + k * (1 + (z / 104) % 12).toNat) % 26)).map sgn := by
        rw [List.map_map]; rfl
      rw [e, join_txt]
      exact q _ b.1
end
def spLS (K : PySem.W.Frag) (d : Nat) : Sp := fun vs H Q _ => ∃ (v : V) (p : Pat), vs = [v] ∧ PatQ K H p v ∧ p.dep ≤ d ∧ p.size ≤ 500 ∧ ∀ H', Ext H H' → Q (nV p.size) H'
theorem sizeL_sum : ∀ ps : List Pat, sizeL ps = (ps.map Pat.size).sum
  | [] => rfl
  | p :: ps => by rw [sizeL, List.map_cons, List.sum_cons, sizeL_sum ps]
theorem sum_nV : ∀ ns : List Nat, (ns.map (fun (n : Nat) => (n : Int))).sum = ((ns.sum : Nat) : Int)
  | [] => rfl
  | n :: ns => by rw [List.map_cons, List.sum_cons, List.sum_cons, sum_nV ns]; omega
theorem dep_parts (p : Pat) : p.dep = depL p.parts + 1 := by cases p <;> simp [Pat.dep, Pat.parts, depL]
section
variable {P : Program} {w : World} {K : PySem.W.Frag} {mg : Str → Option Value} {base : Heap}
theorem scLS : FnScope ["_law_pattern", "_law_part"] ["_law_pattern"] (defScope sLawSize) := ⟨rfl, rfl, rfl, by decide +kernel, rfl, by decide +kernel, by decide +kernel⟩
theorem ls_none {f : Addr} {fd : FuncData} {k : Nat} : FnOk P w K mg base CX0 k f fd ["_law_pattern"] (spLS K 0) := by
  have no : ∀ vs H Q E, ¬ spLS K 0 vs H Q E := fun vs H Q E h => by
    obtain ⟨v, p, _, _, hd, _⟩ := h
    have := dep_pos p
    omega
  exact ⟨fun vs H Q E h => absurd h (no vs H Q E), fun A outer s H args us vs Q E _ _ _ _ h => absurd h (no vs H Q E)⟩
theorem ls_step {f : Addr} {fd : FuncData} {k d : Nat} (F : FnP K "_law_size" sLawSize f fd) (G : FnOk P w K mg base CX0 k f fd ["_law_pattern"] (spLS K d)) (b : Binds K fd ["_law_pattern"] [])
    (mG : mg "_law_size" = some (.ref f)) (ms : mg "sum" = none) : FnOk P w K mg base CX0 (k + 1) f fd ["_law_pattern"] (spLS K (d + 1)) := by
  refine okD F scLS (fun vs H Q E h => ?_) (fun cdv A outer s H vs Q E hr h => ?_)
  · obtain ⟨v, p, rfl, _⟩ := h
    rfl
  obtain ⟨v, p, rfl, hp, hd, hs, q⟩ := h
  refine ⟨_, pss_cons (ps_if (pt_cmpR op_in_seq (pe_ix ix_tup (pv 0) pe_int (fun _ _ => rfl)) (pe_tup (pa_cons pe_str (pa_cons pe_str (pa_cons pe_str pa_nil)))) (by rfl))
      (pss_one (ps_ret (pe_op op_add pe_int (pe_callB (cr_sum rfl) rfl ms boot_sum (pa_cons (pe_lc (own := [("_law_part", 1)]) (g := gName 1) (tt := tYes) rfl scLS.nd (pi_tup (pe_ix ix_tup (pv 0) pe_int (fun _ _ => rfl)))
        (blkOk_by (N := ["_law_pattern", "_law_part"]) (sc := defScope sLawSize) (by decide +kernel))
        (fun _ _ _ _ _ => pg_name (i := 1) scLS.nd rfl (Or.inl rfl) (Or.inr rfl)) (fun _ _ _ _ _ => pts_nil)
        (fun _ _ _ _ _ => pe_call G hr rfl mG F.kp b .nil pass0 (pa_cons (pv 1) pa_nil))) pa_nil))))) pss_nil)
    (pss_cons (ps_if (pt_cmpR op_in_seq (pe_ix ix_tup (pv 0) pe_int (fun _ _ => rfl)) (pe_tup (pa_cons pe_str (pa_cons pe_str pa_nil))) (by rfl))
      (pss_one (ps_ret (pe_op op_add pe_int (pe_call G hr rfl mG F.kp b .nil pass0 (pa_cons (pe_ix ix_tup (pv 0) pe_int (fun _ _ => rfl)) pa_nil))))) pss_nil)
    (pss_one (ps_ret pe_int))), ?_⟩
  obtain ⟨us, hpa, hps⟩ := pat_partsQ hp
  have hsz := size_parts p
  have hdd := dep_parts p
  have fin : ∀ {H' : Hp} {ps : List Pat}, p.parts = ps → Ext H H' → Q (.int (1 + ((sizeL ps : Nat) : Int))) H' := fun {H' ps} e e2 => by
    have := q _ e2
    rw [hsz, e] at this
    have e5 : (1 : Int) + ((sizeL ps : Nat) : Int) = ((sizeL ps + 1 : Nat) : Int) := by omega
    rw [e5]
    exact this
  rcases hpa with ⟨a, b1, k, rfl, n1, ha, hb1⟩ | ⟨a, k, u, rfl, n2, ha, rfl⟩ | ⟨a, k, xs, rfl, ha, n1, n2, rfl⟩
  · refine t_seq (if_inTQ ["row", "or", "and"] rfl ha n1 fun p1 np => ?_)
    refine r_ixQ 1 rfl (tk_new np _ _ ha) rfl ⟨b1, rfl, ⟨us, tk_new np _ _ hb1⟩, fun D hD => ?_⟩
    have hD0 : H D = none := (Ext.new np).free hD
    refine lc_tup (Built H D fun i => nV ((p.parts.map Pat.size).getD i 0)) ⟨(Ext.new np).wr hD0, upd_same⟩ (fun i H' _ b => b.1.sqT _ _ hb1) ?_ ?_
    · intro i x H' hx bu
      refine ⟨rfl, ?_⟩
      obtain ⟨r, hr, hrx⟩ := hps.get hx
      have hm := List.mem_of_getElem? hr
      have h1 := dep_mem hm
      have h2 := size_mem hm
      refine ⟨_, rfl, x, r, rfl, PatQ.ext bu.1.sqT _ _ hrx, by omega, by omega, fun H2 e2 => ?_⟩
      have hlt : i < p.parts.length := (List.getElem?_eq_some_iff.mp hr).1
      have := len_le_sizeL p.parts
      refine bu.next hD0 e2 ?_ (Nat.lt_trans (show i < 501 by omega) (by decide))
      rw [List.getD_eq_getElem?_getD, List.getElem?_map, hr]
      rfl
    · intro H' bu
      have e3 : (List.range us.length).map (fun i => nV ((p.parts.map Pat.size).getD i 0)) = ((p.parts.map Pat.size).map (fun (n : Nat) => (n : Int))).map V.int := by
        rw [hps.len, List.map_map]
        refine List.ext_getElem? fun i => ?_
        rw [List.getElem?_map, List.getElem?_map]
        by_cases hi : i < p.parts.length
        · rw [List.getElem?_range hi, List.getElem?_eq_getElem (by simpa using hi)]
          simp [List.getD, hi]
        · rw [List.getElem?_eq_none (by simpa using hi), List.getElem?_eq_none (by simpa using hi)]
          rfl
      have hbu := bu.2
      rw [e3] at hbu
      refine ⟨D, _, rfl, SqL.of hbu, _, _, rfl, rfl, ?_⟩
      rw [sum_nV, ← sizeL_sum]
      exact fin rfl bu.1
  · have n1 : k ∉ (["row", "or", "and"] : List Str) := by
      simp only [List.mem_cons, List.not_mem_nil, or_false] at n2
      rcases n2 with rfl | rfl <;> decide
    refine t_seq (if_inFQ ["row", "or", "and"] rfl ha n1 fun p1 np => t_seq (if_inTQ ["many", "not"] rfl (tk_new np _ _ ha) n2 fun p2 np2 => ?_))
    have e2 := (Ext.new (o := .tup ((["row", "or", "and"] : List Str).map V.str)) np).trans (Ext.new (o := .tup ((["many", "not"] : List Str).map V.str)) np2)
    obtain ⟨p', hpp⟩ : ∃ p', p.parts = [p'] := List.length_eq_one_iff.mp (by rw [← hps.len]; rfl)
    rw [hpp] at hps hsz hdd
    obtain ⟨u', r', e9, hu, _⟩ := hps
    have : u = u' := (List.cons.inj e9).1
    subst this
    rw [sizeL_one] at hsz
    have hd1 : depL [p'] = p'.dep := by simp [depL]
    refine r_ixQ 1 rfl (e2.sqT _ _ ha) rfl ⟨u, p', rfl, PatQ.ext e2.sqT _ _ hu, by omega, by omega, fun H3 e3 => ⟨_, _, rfl, rfl, ?_⟩⟩
    have := fin (H' := H3) hpp (e2.trans e3)
    rw [sizeL_one] at this
    exact this
  · refine t_seq (if_inFQ ["row", "or", "and"] rfl ha n1 fun p1 np => t_seq (if_inFQ ["many", "not"] rfl (tk_new np _ _ ha) n2 fun p2 np2 => ?_))
    have e0 : p.parts = [] := List.length_eq_zero_iff.mp (by rw [← hps.len]; rfl)
    have := fin (H' := upd (upd H p1 (.tup ((["row", "or", "and"] : List Str).map V.str))) p2 (.tup ((["many", "not"] : List Str).map V.str))) e0 ((Ext.new np).trans (Ext.new np2))
    exact this
end
end Bo
set_option Elab.async false
set_option linter.all false
set_option maxRecDepth 100000
set_option maxHeartbeats 8000000
namespace Bo
open PySem PySem.Spec PyProof.Rows L2 GE
theorem seq_to {t u : TS} {D : Ends} {σ : L2.St} {H : Hp} (Pr : L2.St → Hp → Prop) (h : ∀ nx : L2.St → Hp → Prop, (∀ σ' H', Pr σ' H' → nx σ' H') → t { D with nx := nx } σ H) (hr : ∀ σ' H', Pr σ' H' → u D σ' H') : tSeq t u D σ H := h _ hr
theorem seq_fall {c : TT} {t rest : TS} {D : Ends} {σ : L2.St} {H : Hp} {cond : Prop} (hc : ∀ Q : Bool → Hp → Prop, (cond → ∀ H1, Ext H H1 → Q true H1) → (¬ cond → ∀ H1, Ext H H1 → Q false H1) → c σ H Q)
    (ht : cond → ∀ H1, Ext H H1 → t { D with nx := rest D } σ H1) (hr : ¬ cond → ∀ H1, Ext H H1 → rest D σ H1) : tSeq (tIfS c t tNext) rest D σ H :=
  hc _ (fun k H1 e => iffT rfl (ht k H1 e)) (fun k H1 e => iffF rfl (hr k H1 e))
/-- one sign of a text, by its place -/
theorem sl1 {z : List Nat} {i : Nat} (hi : i ≤ z.length) : cutS (txt z) (some (i : Int)) (some ((i : Int) + 1)) = txt ((z.drop i).take 1) := by
  have h := cutS_nat (z := txt z) (i := i) (j := i + 1) hi
  rw [Int.natCast_add] at h
  rw [show ((1 : Nat) : Int) = 1 from rfl] at h
  rw [h, show i + 1 - i = 1 by omega]
  rfl
theorem sl2 {z : List Nat} {i : Nat} (hi : i ≤ z.length) : cutS (txt z) (some (i : Int)) (some ((i : Int) + 2)) = txt ((z.drop i).take 2) := by
  have h := cutS_nat (z := txt z) (i := i) (j := i + 2) hi
  rw [Int.natCast_add] at h
  rw [show ((2 : Nat) : Int) = 2 from rfl] at h
  rw [h, show i + 2 - i = 2 by omega]
  rfl
theorem take1 {z : List Nat} {i : Nat} : (z.drop i).take 1 = (match z[i]? with | some c => [c] | none => []) := by
  cases h : z[i]? with
  | none => rw [List.drop_eq_nil_of_le (List.getElem?_eq_none_iff.mp h)]; rfl
  | some c => rw [drop_some h]; rfl
theorem is1 {z : List Nat} {i : Nat} (c : Nat) : txt ((z.drop i).take 1) = txt [c] ↔ z[i]? = some c := by
  rw [take1]
  constructor
  · intro h
    have h := txt_inj h
    cases e : z[i]? with
    | none => rw [e] at h; cases h
    | some d => rw [e] at h; rw [(List.cons.inj h).1]
  · intro h; rw [h]
theorem is0 {z : List Nat} {i : Nat} : txt ((z.drop i).take 1) = txt [] ↔ z[i]? = none := by
  rw [take1]
  constructor
  · intro h
    have h := txt_inj h
    cases e : z[i]? with
    | none => rfl
    | some d => rw [e] at h; cases h
  · intro h; rw [h]
theorem is2 {z : List Nat} {i : Nat} (a b : Nat) : txt ((z.drop i).take 2) = txt [a, b] ↔ z[i]? = some a ∧ z[i + 1]? = some b := by
  constructor
  · intro h
    have h := txt_inj h
    cases e : z[i]? with
    | none => rw [List.drop_eq_nil_of_le (List.getElem?_eq_none_iff.mp e)] at h; cases h
    | some c =>
      rw [drop_some e] at h
      cases e2 : z[i + 1]? with
      | none => rw [List.drop_eq_nil_of_le (List.getElem?_eq_none_iff.mp e2)] at h; simp at h
      | some d =>
        rw [drop_some e2] at h
        simp at h
        exact ⟨by rw [h.1], by rw [h.2]⟩
  · rintro ⟨h1, h2⟩
    rw [drop_some h1, drop_some h2]; rfl
def spIt (K : PySem.W.Frag) (r : Nat) : Sp := fun vs H Q _ => ∃ (L : Str) (z : List Nat) (i : Nat), vs = [.str L, .str (txt z), nV i] ∧ goodS L = true ∧ i ≤ z.length ∧ z.length ≤ i + r ∧ z.length ≤ 400 ∧
  (ItemNo L z i → ∀ H', Ext H H' → Q .non H') ∧ (∀ p j, ItemOk L z i p j → ∀ v a H', Ext H H' → PatQ K H' p v → H' a = some (.tup [v, nV j]) → Q (.ref a) H')
def spHf (K : PySem.W.Frag) (r : Nat) : Sp := fun vs H Q _ => ∃ (L : Str) (z : List Nat) (i : Nat), vs = [.str L, .str (txt z), nV i] ∧ goodS L = true ∧ i ≤ z.length ∧ z.length ≤ i + r ∧ z.length ≤ 400 ∧
  (HalfNo L z i → ∀ H', Ext H H' → Q .non H') ∧ (∀ p j, HalfOk L z i p j → ∀ v a H', Ext H H' → PatQ K H' p v → H' a = some (.tup [v, nV j]) → Q (.ref a) H')
def spEi (K : PySem.W.Frag) (r : Nat) : Sp := fun vs H Q _ => ∃ (L : Str) (z : List Nat) (i : Nat), vs = [.str L, .str (txt z), nV i] ∧ goodS L = true ∧ i ≤ z.length ∧ z.length ≤ i + r ∧ z.length ≤ 400 ∧
  (EithNo L z i → ∀ H', Ext H H' → Q .non H') ∧ (∀ p j, EithOk L z i p j → ∀ v a H', Ext H H' → PatQ K H' p v → H' a = some (.tup [v, nV j]) → Q (.ref a) H')
section
variable {P : Program} {w : World} {K : PySem.W.Frag} {mg : Str → Option Value} {base : Heap}
theorem scOf : FnScope ["_law_word", "_law_patterns"] ["_law_word", "_law_patterns"] (defScope sLawOf) := ⟨rfl, rfl, rfl, by decide +kernel, rfl, by decide +kernel, by decide +kernel⟩
theorem of_ok {f : Addr} {fd : FuncData} (F : FnP K "_law_of" sLawOf f fd) (ml : mg "len" = none) (mt : mg "tuple" = none) : FnOk P w K mg base CX0 1 f fd ["_law_word", "_law_patterns"] (spTog K) := by
  refine okD F scOf (fun vs H Q E h => ?_) (fun cdv A outer s H vs Q E hr h => ?_)
  · obtain ⟨k, a, us, ps, rfl, _⟩ := h
    rfl
  obtain ⟨k, a, us, ps, rfl, hm, ha, hps, hsz, q⟩ := h
  refine ⟨_, (pss_cons (ps_if (pt_cmpR op_eq (pe_callB call_len rfl ml PySem.boot_len (pa_cons (pv 1) pa_nil)) pe_int (nomark _)) (pss_one (ps_ret (pe_ix ix_list (pv 1) pe_int (fun _ _ => rfl)))) pss_nil) (pss_one (ps_ret (pe_tup (pa_cons (pv 0) (pa_cons (pe_tupleOf rfl mt (pv 1)) pa_nil)))))), ?_⟩
  refine t_seq ⟨_, rfl, .ref a, _, rfl, .inl ⟨_, SqL.of ha, rfl⟩, rfl, _, rfl, ?_⟩
  rw [dec_int]
  have hlen := hps.len
  by_cases h1 : us.length = 1
  · rw [show (((us.length : Nat) : Int) == 1) = true by rw [h1]; rfl]
    obtain ⟨y, rfl⟩ : ∃ y, us = [y] := List.length_eq_one_iff.mp h1
    obtain ⟨p, rfl⟩ : ∃ p, ps = [p] := List.length_eq_one_iff.mp (by rw [← hlen]; exact h1)
    obtain ⟨y', r', e9, hy, _⟩ := hps
    have : y = y' := (List.cons.inj e9).1
    subst this
    exact iffT rfl ⟨_, rfl, a, _, 0, y, rfl, rfl, SqL.of ha, atI_nat (j := 0) rfl, q y H (fun S => Upd.refl H S) hy⟩
  · rw [show (((us.length : Nat) : Int) == 1) = false from beq_eq_false_iff_ne.mpr (by omega)]
    refine iffF rfl ?_
    dsimp only [tNext]
    refine ⟨_, rfl, _, rfl, .inl ⟨a, us, rfl, SqL.of ha, fun p2 x2 => ⟨by show 2 ≤ sizeLine; decide, fun p3 x3 => ?_⟩⟩⟩
    have e : ∀ S, Upd H (upd (upd H p2 (.tup us)) p3 (.tup [.str k, .ref p2])) S S := fun S => (Upd.new x2).trans (Upd.new x3)
    refine q _ _ e ?_
    have ht : tog (mkOf k) ps = mkOf k ps := by
      match ps, hlen with
      | [], _ => rfl
      | [p], h9 => exact absurd (h9.trans rfl) h1
      | _ :: _ :: _, _ => rfl
    rw [ht]
    exact mk_at hm (SqT.of upd_same) (SqT.of (by rw [upd_ne (ne_of_none (show upd H p2 (.tup us) p2 = some _ from upd_same) x3)]; exact upd_same)) (PatsQ.ext (upd_tk e) _ _ hps)
end
end Bo
set_option Elab.async false
set_option linter.all false
set_option maxRecDepth 100000
set_option maxHeartbeats 8000000
namespace Bo
open PySem PySem.Spec PyProof.Rows L2 GE
section
variable {P : Program} {w : World} {K : PySem.W.Frag} {mg : Str → Option Value} {base : Heap}
theorem scIt : FnScope ["_law_letters_here", "_law_text", "_law_at", "_law_inner", "_law_atom", "_law_pattern"] ["_law_letters_here", "_law_text", "_law_at"] (defScope sLawItem) := ⟨rfl, rfl, rfl, by decide +kernel, rfl, by decide +kernel, by decide +kernel⟩
theorem it_ok {f g1 g2 : Addr} {fd d1 d2 : FuncData} {k r : Nat} (F : FnP K "_law_item" sLawItem f fd)
    (G1 : r ≠ 0 → FnOk P w K mg base CX0 k g1 d1 ["_law_letters_here", "_law_text", "_law_at"] (spIt K (r - 1))) (b1 : Binds K d1 ["_law_letters_here", "_law_text", "_law_at"] []) (k1 : PySem.W.keepIn K (.ref g1) = true) (m1 : mg "_law_item" = some (.ref g1))
    (G2 : r ≠ 0 → FnOk P w K mg base CX0 k g2 d2 ["_law_letters_here", "_law_text", "_law_at"] (spEi K (r - 1))) (b2 : Binds K d2 ["_law_letters_here", "_law_text", "_law_at"] []) (k2 : PySem.W.keepIn K (.ref g2) = true) (m2 : mg "_law_either" = some (.ref g2)) (mn : mg "int" = none) :
    FnOk P w K mg base CX0 (k + 1) f fd ["_law_letters_here", "_law_text", "_law_at"] (spIt K r) := by
  refine okD F scIt (fun vs H Q E h => ?_) (fun cdv A outer s H vs Q E hr h => ?_)
  · obtain ⟨L, z, i, rfl, _⟩ := h
    rfl
  obtain ⟨L, z, i, rfl, hL, hi, hir, hz4, qn, qs⟩ := h
  have H1 : FnOk P w K mg base CX0 k g1 d1 ["_law_letters_here", "_law_text", "_law_at"] (fun vs H Q E => r ≠ 0 ∧ spIt K (r - 1) vs H Q E) := by
    by_cases hr0 : r = 0
    · exact ⟨fun vs H Q E h => absurd hr0 h.1, fun A outer s H args us vs Q E _ _ _ _ h => absurd hr0 h.1⟩
    · exact ⟨fun vs H Q E h => (G1 hr0).len vs H Q E h.2, fun A outer s H args us vs Q E a b c d h => (G1 hr0).run A outer s H args us vs Q E a b c d h.2⟩
  have H2 : FnOk P w K mg base CX0 k g2 d2 ["_law_letters_here", "_law_text", "_law_at"] (fun vs H Q E => r ≠ 0 ∧ spEi K (r - 1) vs H Q E) := by
    by_cases hr0 : r = 0
    · exact ⟨fun vs H Q E h => absurd hr0 h.1, fun A outer s H args us vs Q E _ _ _ _ h => absurd hr0 h.1⟩
    · exact ⟨fun vs H Q E h => (G2 hr0).len vs H Q E h.2, fun A outer s H args us vs Q E a b c d h => (G2 hr0).run A outer s H args us vs Q E a b c d h.2⟩
  refine ⟨_, (pss_cons (ps_if (pt_cmpR op_eq (pe_slice sl_str (pv 1) (po_some (pv 2)) (po_some (pe_op op_add (pv 2) pe_int))) pe_str (by rfl))
      (pss_cons (ps_set (i := 3) scIt.nd rfl (Or.inl rfl) (pe_call H1 hr rfl m1 k1 b1 .nil pass0 (pa_cons (pv 0) (pa_cons (pv 1) (pa_cons (pe_op op_add (pv 2) pe_int) pa_nil))))) (pss_one (ps_ret (pe_ifExp (pt_cmpR op_isN1 (pv 3) pe_non (nomark _)) pe_non (pe_tup (pa_cons (pe_tup (pa_cons pe_str (pa_cons (pe_ix ix_tup (pv 3) pe_int (fun _ _ => rfl)) pa_nil))) (pa_cons (pe_ix ix_tup (pv 3) pe_int (fun _ _ => rfl)) pa_nil))))))) pss_nil) (pss_cons (ps_if (PW.pt (pw_or (pt_cmpR op_eq (pe_slice sl_str (pv 1) (po_some (pv 2)) (po_some (pe_op op_add (pv 2) pe_int))) pe_str (by rfl)) (pw_or1 (pt_cmpR op_eq (pe_slice sl_str (pv 1) (po_some (pv 2)) (po_some (pe_op op_add (pv 2) pe_int))) pe_str (by rfl)))))
      (pss_one (ps_set (i := 4) scIt.nd rfl (Or.inl rfl) (pe_tup (pa_cons (pe_ix ix_list (pe_lst (pa_cons (pe_tup (pa_cons pe_str pa_nil)) (pa_cons (pe_tup (pa_cons pe_str pa_nil)) pa_nil))) (pe_callTy call_int1 rfl mn boot_int (pa_cons (pe_cmpR op_eq (pe_ix ix_str (pv 1) (pv 2) (fun _ _ => rfl)) pe_str (by rfl)) pa_nil)) (fun _ _ => rfl)) (pa_cons (pe_op op_add (pv 2) pe_int) pa_nil)))))
      (pss_one (ps_if (pt_cmpR op_eq (pe_slice sl_str (pv 1) (po_some (pv 2)) (po_some (pe_op op_add (pv 2) pe_int))) pe_str (by rfl))
        (pss_cons (ps_set (i := 3) scIt.nd rfl (Or.inl rfl) (pe_call H2 hr rfl m2 k2 b2 .nil pass0 (pa_cons (pv 0) (pa_cons (pv 1) (pa_cons (pe_op op_add (pv 2) pe_int) pa_nil))))) (pss_cons (ps_if (PW.pt (pw_or (pt_cmpR op_isN1 (pv 3) pe_non (nomark _)) (pw_or1 (pt_cmpR op_ne (pe_slice sl_str (pv 1) (po_some (pe_ix ix_tup (pv 3) pe_int (fun _ _ => rfl))) (po_some (pe_op op_add (pe_ix ix_tup (pv 3) pe_int (fun _ _ => rfl)) pe_int))) pe_str (by rfl))))) (pss_one (ps_ret pe_non)) pss_nil) (pss_one (ps_set (i := 4) scIt.nd rfl (Or.inl rfl) (pe_tup (pa_cons (pe_ix ix_tup (pv 3) pe_int (fun _ _ => rfl)) (pa_cons (pe_op op_add (pe_ix ix_tup (pv 3) pe_int (fun _ _ => rfl)) pe_int) pa_nil)))))))
        (pss_one (ps_if (PW.pt (pw_and (pt_cmpR op_ne (pe_slice sl_str (pv 1) (po_some (pv 2)) (po_some (pe_op op_add (pv 2) pe_int))) pe_str (by rfl)) (pw_and1 (pt_cmpR op_in_sign (pe_ix ix_str (pv 1) (pv 2) (fun _ _ => rfl)) (pv 0) (by rfl)))))
          (pss_one (ps_set (i := 4) scIt.nd rfl (Or.inl rfl) (pe_tup (pa_cons (pe_tup (pa_cons pe_str (pa_cons (pe_ix ix_str (pv 1) (pv 2) (fun _ _ => rfl)) pa_nil))) (pa_cons (pe_op op_add (pv 2) pe_int) pa_nil)))))
          (pss_one (ps_ret pe_non))))))) (pss_cons (ps_asg (pv 4) (pg_tup (by rfl) (pgs_cons (pg_name (i := 5) scIt.nd rfl (Or.inl rfl)) (pgs_cons (pg_name (i := 2) scIt.nd rfl (Or.inl rfl)) pgs_nil)))) (pss_cons (ps_while PassesOwn.never (pt_cmpR op_eq (pe_slice sl_str (pv 1) (po_some (pv 2)) (po_some (pe_op op_add (pv 2) pe_int))) pe_str (by rfl))
      (pss_cons (ps_set (i := 5) scIt.nd rfl (Or.inl rfl) (pe_tup (pa_cons pe_str (pa_cons (pv 5) pa_nil)))) (pss_one (ps_set (i := 2) scIt.nd rfl (Or.inl rfl) (pe_op op_add (pv 2) pe_int))))) (pss_one (ps_ret (pe_tup (pa_cons (pv 5) (pa_cons (pv 2) pa_nil))))))))), ?_⟩
  have z1 : 1 ≤ sizeLine := by decide
  have z2 : 2 ≤ sizeLine := by decide
  have hzt : (txt z).length = z.length := List.size_toArray
  have hzl : (txt z).length ≤ sizeLine := Nat.le_trans (by rw [hzt]; exact hz4) (by decide)
  have az : ∀ c, c ∈ cds L → 97 ≤ c ∧ c ≤ 122 := fun c hc => by
    unfold goodS at hL
    simp only [Bool.and_eq_true] at hL
    exact of_decide_eq_true (List.all_eq_true.mp hL.1.2 c hc)
  refine seq_fall (cond := z[i]? = some 33) (fun R qT qF => ?_) (fun hc H3 e3 => ?_) (fun h33 H3 e3 => ?_)
  · refine ⟨_, rfl, _, rfl, _, rfl, _, rfl, _, _, rfl, rfl, _, rfl, _, rfl, hzl, rfl, _, rfl, ?_⟩
    rw [sl1 hi]
    by_cases h : z[i]? = some 33
    · rw [decide_eq_true (congrArg V.str ((is1 33).mpr h) : V.str (txt ((z.drop i).take 1)) = V.str "!")]; exact qT h _ (Ext.refl _)
    · rw [str_ne (fun e => h ((is1 33).mp e) : txt ((z.drop i).take 1) ≠ "!")]; exact qF h _ (Ext.refl _)
  · have hlt := lt_of hc
    refine t_set ⟨_, rfl, _, rfl, _, rfl, _, _, rfl, rfl, by omega, L, z, i + 1, rfl, hL, by omega, by omega, hz4, fun hn H4 e4 => ?_, fun p j hok v a H4 e4 hv ha => ?_⟩
    · exact ⟨_, rfl, rfl, _, rfl, iffT rfl (qn (item_bang_no hc hn) _ (e3.trans e4))⟩
    · refine ⟨_, rfl, rfl, _, rfl, iffF rfl ?_⟩
      refine r_ixQ 0 rfl (SqT.of ha) rfl ⟨z2, fun p1 x1 => ?_⟩
      have f1 := Ext.new (o := .tup [.str "not", v]) x1
      refine r_ixQ 1 rfl (f1.sqT _ _ (SqT.of ha)) rfl ⟨z2, fun p2 x2 => ?_⟩
      have f2 := f1.trans (Ext.new (o := .tup [.ref p1, nV j]) x2)
      refine qs _ j (item_bang hc hok) (.ref p1) p2 _ ((e3.trans e4).trans f2) ?_ upd_same
      have hp1 : upd (upd H4 p1 (.tup [.str "not", v])) p2 (.tup [.ref p1, nV j]) p1 = some (.tup [.str "not", v]) := by
        rw [upd_ne (ne_of_none (show upd H4 p1 (.tup [.str "not", v]) p1 = some _ from upd_same) x2)]; exact upd_same
      exact ⟨p1, v, rfl, SqT.of hp1, PatQ.ext f2.sqT _ _ hv⟩
  · refine seq_to (fun σ' H' => ∃ p j v c3 a, σ' = [some (.str L), some (.str (txt z)), some (nV i), c3, some (.ref a), none] ∧ Ext H H' ∧ SqT K H' a [v, nV j] ∧ AtomOk L z i p j ∧ PatQ K H' p v) (fun nx hnx => ?_) (fun σ' H' hs => ?_)
    · refine ⟨_, rfl, _, rfl, _, rfl, _, rfl, _, _, rfl, rfl, _, rfl, _, rfl, hzl, rfl, _, rfl, ?_⟩
      rw [sl2 hi]
      by_cases hu : z[i]? = some 40 ∧ z[i + 1]? = some 41
      · rw [decide_eq_true (congrArg V.str ((is2 40 41).mpr hu) : V.str (txt ((z.drop i).take 2)) = V.str "()")]
        refine iffT rfl (iffT rfl ?_)
        refine ⟨z1, fun p1 x1 => ⟨z1, fun p2 x2 => ⟨z2, fun p3 x3 => ⟨_, rfl, _, rfl, ?_⟩⟩⟩⟩
        refine ⟨txt z, _, 40, rfl, rfl, hzl, atI_nat hu.1, ?_⟩
        refine ⟨rfl, .inr ⟨_, rfl, ?_⟩⟩
        rw [show decide (V.str (⟨#[40]⟩ : Str) = V.str "[") = false from str_ne (by decide +kernel)]
        have g2 : upd (upd (upd H3 p1 (.tup [.str "empty"])) p2 (.tup [.str "none"])) p3 (.lst [.ref p1, .ref p2]) p1 = some (.tup [.str "empty"]) := by
          rw [upd_ne (ne_of_none (by rw [upd_ne (ne_of_none (upd_same : upd H3 p1 (.tup [.str "empty"]) p1 = some _) x2)]; exact upd_same) x3), upd_ne (ne_of_none (upd_same : upd H3 p1 (.tup [.str "empty"]) p1 = some _) x2)]; exact upd_same
        have f3 : Ext H3 (upd (upd (upd H3 p1 (.tup [.str "empty"])) p2 (.tup [.str "none"])) p3 (.lst [.ref p1, .ref p2])) := ((Ext.new x1).trans (Ext.new x2)).trans (Ext.new x3)
        refine ⟨p3, _, 0, .ref p1, rfl, rfl, SqL.of upd_same, atI_nat (j := 0) rfl, _, rfl, _, _, rfl, rfl, z2, fun p4 x4 => hnx _ _ ?_⟩
        have f4 := Ext.new (o := .tup [.ref p1, .int ((i : Int) + 2)]) x4
        exact ⟨.empty, i + 2, .ref p1, none, p4, rfl, (e3.trans f3).trans f4, SqT.of upd_same, atom_unit hu.1 hu.2, p1, rfl, f4.sqT _ _ (SqT.of g2)⟩
      · rw [str_ne (fun e => hu ((is2 40 41).mp e) : txt ((z.drop i).take 2) ≠ "()")]
        refine iffF rfl ?_
        refine ⟨_, rfl, _, rfl, _, rfl, _, rfl, _, _, rfl, rfl, _, rfl, _, rfl, hzl, rfl, _, rfl, ?_⟩
        rw [sl2 hi]
        by_cases hn : z[i]? = some 91 ∧ z[i + 1]? = some 93
        · rw [decide_eq_true (congrArg V.str ((is2 91 93).mpr hn) : V.str (txt ((z.drop i).take 2)) = V.str "[]")]
          refine iffT rfl ?_
          refine ⟨z1, fun p1 x1 => ⟨z1, fun p2 x2 => ⟨z2, fun p3 x3 => ⟨_, rfl, _, rfl, ?_⟩⟩⟩⟩
          refine ⟨txt z, _, 91, rfl, rfl, hzl, atI_nat hn.1, ?_⟩
          refine ⟨rfl, .inr ⟨_, rfl, ?_⟩⟩
          rw [show decide (V.str (⟨#[91]⟩ : Str) = V.str "[") = true from decide_eq_true rfl]
          have g2 : upd (upd (upd H3 p1 (.tup [.str "empty"])) p2 (.tup [.str "none"])) p3 (.lst [.ref p1, .ref p2]) p2 = some (.tup [.str "none"]) := by
            rw [upd_ne (ne_of_none (upd_same : upd (upd H3 p1 (.tup [.str "empty"])) p2 (.tup [.str "none"]) p2 = some _) x3)]; exact upd_same
          have f3 : Ext H3 (upd (upd (upd H3 p1 (.tup [.str "empty"])) p2 (.tup [.str "none"])) p3 (.lst [.ref p1, .ref p2])) := ((Ext.new x1).trans (Ext.new x2)).trans (Ext.new x3)
          refine ⟨p3, _, 1, .ref p2, rfl, rfl, SqL.of upd_same, atI_nat (j := 1) rfl, _, rfl, _, _, rfl, rfl, z2, fun p4 x4 => hnx _ _ ?_⟩
          have f4 := Ext.new (o := .tup [.ref p2, .int ((i : Int) + 2)]) x4
          exact ⟨.none, i + 2, .ref p2, none, p4, rfl, (e3.trans f3).trans f4, SqT.of upd_same, atom_null hn.1 hn.2, p2, rfl, f4.sqT _ _ (SqT.of g2)⟩
        · rw [str_ne (fun e => hn ((is2 91 93).mp e) : txt ((z.drop i).take 2) ≠ "[]")]
          refine iffF rfl ?_
          refine ⟨_, rfl, _, rfl, _, rfl, _, rfl, _, _, rfl, rfl, _, rfl, _, rfl, hzl, rfl, _, rfl, ?_⟩
          rw [sl1 hi]
          by_cases hp : z[i]? = some 40
          · rw [decide_eq_true (congrArg V.str ((is1 40).mpr hp) : V.str (txt ((z.drop i).take 1)) = V.str "(")]
            refine iffT rfl ?_
            have hlt := lt_of hp
            have hp1 : z[i + 1]? ≠ some 41 := fun k => hu ⟨hp, k⟩
            refine t_set ⟨_, rfl, _, rfl, _, rfl, _, _, rfl, rfl, by omega, L, z, i + 1, rfl, hL, by omega, by omega, hz4, fun hn' H4 e4 => ?_, fun p j hok v a H4 e4 hv ha => ?_⟩
            · refine ⟨_, rfl, rfl, _, rfl, iffT rfl (qn ?_ _ (e3.trans e4))⟩
              exact no_par hp hp1 hn'
            · refine ⟨_, rfl, rfl, _, rfl, iffF rfl ?_⟩
              refine ⟨_, rfl, r_ixQ 1 rfl (SqT.of ha) rfl ⟨_, rfl, r_ixQ 1 rfl (SqT.of ha) rfl ⟨_, _, rfl, rfl, _, rfl, _, rfl, hzl, rfl, _, rfl, ?_⟩⟩⟩
              rw [sl1 hok.2.1]
              by_cases he : z[j]? = some 41
              · rw [decide_eq_true (congrArg V.str ((is1 41).mpr he) : V.str (txt ((z.drop j).take 1)) = V.str ")")]
                refine iffF rfl ?_
                dsimp only [tNext]
                refine r_ixQ 0 rfl (SqT.of ha) rfl (r_ixQ 1 rfl (SqT.of ha) rfl ⟨_, _, rfl, rfl, z2, fun p4 x4 => hnx _ _ ?_⟩)
                have f4 := Ext.new (o := .tup [v, .int ((j : Int) + 1)]) x4
                exact ⟨p, j + 1, v, some (.ref a), p4, rfl, (e3.trans e4).trans f4, SqT.of upd_same, atom_par hp hp1 hok he, PatQ.ext f4.sqT _ _ hv⟩
              · rw [str_ne (fun e => he ((is1 41).mp e) : txt ((z.drop j).take 1) ≠ ")")]
                exact iffT rfl (qn (no_par2 hp hp1 hok he) _ (e3.trans e4))
          · rw [str_ne (fun e => hp ((is1 40).mp e) : txt ((z.drop i).take 1) ≠ "(")]
            refine iffF rfl ?_
            refine ⟨_, rfl, _, rfl, _, rfl, _, rfl, _, _, rfl, rfl, _, rfl, _, rfl, hzl, rfl, _, rfl, ?_⟩
            rw [sl1 hi]
            cases hz0 : z[i]? with
            | none =>
              rw [decide_eq_true (congrArg V.str (is0.mpr hz0) : V.str (txt ((z.drop i).take 1)) = V.str "")]
              refine iffF rfl (iffF rfl (qn ?_ _ e3))
              exact no_else h33 hp hn (fun c hc => by rw [hz0] at hc; cases hc)
            | some c =>
              rw [str_ne (fun e => absurd (hz0.symm.trans (is0.mp e)) (by simp) : txt ((z.drop i).take 1) ≠ "")]
              refine iffT rfl ⟨_, rfl, _, rfl, txt z, _, c, rfl, rfl, hzl, atI_nat hz0, _, rfl, c, L, rfl, rfl, _, rfl, ?_⟩
              by_cases hc : c ∈ cds L
              · refine iffT (decide_eq_true hc) ?_
                refine ⟨_, rfl, _, rfl, txt z, _, c, rfl, rfl, hzl, atI_nat hz0, z2, fun p1 x1 => ⟨_, rfl, _, _, rfl, rfl, z2, fun p2 x2 => hnx _ _ ?_⟩⟩
                have f1 := Ext.new (o := .tup [.str "sign", .str (sgn c)]) x1
                have f2 := Ext.new (o := .tup [.ref p1, .int ((i : Int) + 1)]) x2
                exact ⟨.sign c, i + 1, .ref p1, none, p2, rfl, (e3.trans f1).trans f2, SqT.of upd_same, atom_sgn hz0 hc (az c hc), p1, rfl, f2.sqT _ _ (SqT.of upd_same)⟩
              · refine iffF (decide_eq_false hc) (qn ?_ _ e3)
                exact no_else h33 hp hn (fun d hd => by rw [hz0] at hd; cases hd; exact hc)
    · obtain ⟨p, j, v, c3, a, rfl, e', ha, hat, hv⟩ := hs
      refine ⟨_, rfl, a, [v, nV j], rfl, ha, rfl, v, _, rfl, nV j, _, rfl, rfl, ?_⟩
      refine t_seq ⟨fun m σ H2 => ∃ p j v c3 a, σ = [some (.str L), some (.str (txt z)), some (nV j), c3, some (.ref a), some v] ∧ Ext H H2 ∧ AtomOk L z i p j ∧ PatQ K H2 p v ∧ m = z.length - j, ⟨_, p, j, v, c3, a, rfl, e', hat, hv, rfl⟩, ?_⟩
      rintro m σ H2 ⟨p, j, v, c3, a, rfl, e', hat, hv, rfl⟩
      refine ⟨_, rfl, _, rfl, _, rfl, _, rfl, _, _, rfl, rfl, _, rfl, _, rfl, hzl, rfl, _, rfl, ?_⟩
      rw [sl1 hat.2.1]
      by_cases hst : z[j]? = some 42
      · rw [decide_eq_true (congrArg V.str ((is1 42).mpr hst) : V.str (txt ((z.drop j).take 1)) = V.str "*")]
        have hjl := lt_of hst
        refine iffT rfl ⟨fun σ' H3 => ∃ m' < z.length - j, ∃ p j v c3 a, σ' = [some (.str L), some (.str (txt z)), some (nV j), c3, some (.ref a), some v] ∧ Ext H H3 ∧ AtomOk L z i p j ∧ PatQ K H3 p v ∧ m' = z.length - j, fun σ' H' ⟨m', h1, h2⟩ => ⟨m', h1, h2⟩, ?_⟩
        refine t_set ⟨_, rfl, z2, fun p1 x1 => ?_⟩
        refine ⟨_, rfl, _, _, rfl, rfl, ?_⟩
        have f1 := Ext.new (o := .tup [.str "many", v]) x1
        exact ⟨z.length - (j + 1), by omega, .many p, j + 1, .ref p1, c3, a, rfl, e'.trans f1, atom_star hat hst, ⟨p1, v, rfl, SqT.of upd_same, PatQ.ext f1.sqT _ _ hv⟩, rfl⟩
      · rw [str_ne (fun e => hst ((is1 42).mp e) : txt ((z.drop j).take 1) ≠ "*")]
        refine iffF rfl ?_
        refine ⟨_, rfl, _, rfl, z2, fun p1 x1 => ?_⟩
        have f1 := Ext.new (o := .tup [v, nV j]) x1
        exact qs p j (atom_item hat hst) v p1 _ (e'.trans f1) (PatQ.ext f1.sqT _ _ hv) upd_same
end
end Bo
set_option Elab.async false
set_option linter.all false
set_option maxRecDepth 100000
set_option maxHeartbeats 8000000
namespace Bo
open PySem PySem.Spec PyProof.Rows L2 GE
theorem memT {z : List Nat} {j : Nat} : txt ((z.drop j).take 1) ∈ (["", "|", "&", ")"] : List Str) ↔ TermC z[j]? := by
  rw [List.mem_cons, List.mem_cons, List.mem_cons, List.mem_cons]
  constructor
  · rintro (h | h | h | h | h)
    · exact .inl (is0.mp h)
    · exact .inr (.inl ((is1 124).mp h))
    · exact .inr (.inr (.inl ((is1 38).mp h)))
    · exact .inr (.inr (.inr ((is1 41).mp h)))
    · cases h
  · rintro (h | h | h | h)
    · exact .inl (is0.mpr h)
    · exact .inr (.inl ((is1 124).mpr h))
    · exact .inr (.inr (.inl ((is1 38).mpr h)))
    · exact .inr (.inr (.inr (.inl ((is1 41).mpr h))))
theorem tk_wr {K : PySem.W.Frag} {H : Hp} {a : Addr} {xs ys : List V} (h : H a = some (.lst xs)) : Tk K H (upd H a (.lst ys)) :=
  (Upd.wr (H := H) (S := [a]) (List.mem_singleton.mpr rfl) ⟨_, h⟩).tk fun x hx => .inl ⟨xs, by rw [List.mem_singleton.mp hx]; exact h⟩
theorem Upd.ext0 {H0 H H' : Hp} (u : ∀ S, Upd H H' S S) (e : Ext H0 H) : Ext H0 H' := ((u []).ext e (fun x hx => by cases hx)).1
section
variable {P : Program} {w : World} {K : PySem.W.Frag} {mg : Str → Option Value} {base : Heap}
theorem scHf : FnScope ["_law_letters_here", "_law_text", "_law_at", "_law_found", "_law_one"] ["_law_letters_here", "_law_text", "_law_at"] (defScope sLawHalf) := ⟨rfl, rfl, rfl, by decide +kernel, rfl, by decide +kernel, by decide +kernel⟩
theorem hf_ok {f g1 g2 : Addr} {fd d1 d2 : FuncData} {k r : Nat} (F : FnP K "_law_half" sLawHalf f fd)
    (G1 : FnOk P w K mg base CX0 k g1 d1 ["_law_letters_here", "_law_text", "_law_at"] (spIt K r)) (b1 : Binds K d1 ["_law_letters_here", "_law_text", "_law_at"] []) (k1 : PySem.W.keepIn K (.ref g1) = true) (m1 : mg "_law_item" = some (.ref g1))
    (G2 : FnOk P w K mg base CX0 1 g2 d2 ["_law_word", "_law_patterns"] (spTog K)) (b2 : Binds K d2 ["_law_word", "_law_patterns"] []) (k2 : PySem.W.keepIn K (.ref g2) = true) (m2 : mg "_law_of" = some (.ref g2)) (hk1 : 1 ≤ k) :
    FnOk P w K mg base CX0 (k + 1) f fd ["_law_letters_here", "_law_text", "_law_at"] (spHf K r) := by
  refine okD F scHf (fun vs H Q E h => ?_) (fun cdv A outer s H vs Q E hr h => ?_)
  · obtain ⟨L, z, i, rfl, _⟩ := h
    rfl
  obtain ⟨L, z, i, rfl, hL, hi, hir, hz4, qn, qs⟩ := h
  refine ⟨_, (pss_cons (ps_set (i := 3) scHf.nd rfl (Or.inl rfl) (pe_lst pa_nil)) (pss_cons (ps_while PassesOwn.never (pt_cmpR op_notIn_seq (pe_slice sl_str (pv 1) (po_some (pv 2)) (po_some (pe_op op_add (pv 2) pe_int))) (pe_lst (pa_cons pe_str (pa_cons pe_str (pa_cons pe_str (pa_cons pe_str pa_nil))))) (by rfl))
      (pss_cons (ps_set (i := 4) scHf.nd rfl (Or.inl rfl) (pe_call G1 hr rfl m1 k1 b1 .nil pass0 (pa_cons (pv 0) (pa_cons (pv 1) (pa_cons (pv 2) pa_nil))))) (pss_cons (ps_if (pt_cmpR op_isN1 (pv 4) pe_non (nomark _)) (pss_one (ps_ret pe_non)) pss_nil) (pss_cons (ps_expr (pe_bm PySem.F.plainAttrs_list PySem.F.slot_list_append PySem.F.type_list_append mt_append (pv 3) (pa_cons (pe_ix ix_tup (pv 4) pe_int (fun _ _ => rfl)) pa_nil))) (pss_one (ps_set (i := 2) scHf.nd rfl (Or.inl rfl) (pe_ix ix_tup (pv 4) pe_int (fun _ _ => rfl)))))))) (pss_one (ps_ret (pe_ifExp (pt_cmpR (op_eqNil hr.units) (pv 3) (pe_lst pa_nil) (by rfl)) pe_non (pe_tup (pa_cons (pe_call G2 (hr.mono hk1) rfl m2 k2 b2 .nil pass0 (pa_cons pe_str (pa_cons (pv 3) pa_nil))) (pa_cons (pv 2) pa_nil)))))))), ?_⟩
  have z2 : 2 ≤ sizeLine := by decide
  have z4 : 4 ≤ sizeLine := by decide
  have hzt : (txt z).length = z.length := List.size_toArray
  have hzl : (txt z).length ≤ sizeLine := Nat.le_trans (by rw [hzt]; exact hz4) (by decide)
  refine t_set ⟨Nat.zero_le _, fun l x0 => ?_⟩
  refine t_seq ⟨fun m σ H' => ∃ ps vs j c4, σ = [some (.str L), some (.str (txt z)), some (nV j), some (.ref l), c4] ∧ Ext H H' ∧ H' l = some (.lst vs) ∧ PatsQ K H' ps vs ∧ HalfAt L z i ps j ∧ ps.length + i ≤ j ∧ (ps = [] → j = i) ∧ m = z.length - j,
    ⟨_, [], [], i, none, rfl, Ext.new x0, upd_same, rfl, half_start hi, Nat.le_of_eq (Nat.zero_add _), fun _ => rfl, rfl⟩, ?_⟩
  rintro m σ H1 ⟨ps, vs, j, c4, rfl, e1, hl, hps, hat, hpj, hp0, rfl⟩
  refine ⟨_, rfl, _, rfl, _, rfl, _, rfl, _, _, rfl, rfl, _, rfl, _, rfl, hzl, z4, fun p np => ⟨p, _, rfl, .inl (SqL.of upd_same), rfl, by decide, _, rfl, ?_⟩⟩
  rw [sl1 hat.2.1]
  rw [show inV (V.str (txt ((z.drop j).take 1))) [V.str "", V.str "|", V.str "&", V.str ")"] = decide (txt ((z.drop j).take 1) ∈ (["", "|", "&", ")"] : List Str)) from inV_str (txt ((z.drop j).take 1)) ["", "|", "&", ")"]]
  have e2 := e1.trans (Ext.new (o := .lst [V.str "", V.str "|", V.str "&", V.str ")"]) np)
  have hl2 := (Ext.new (o := .lst [V.str "", V.str "|", V.str "&", V.str ")"]) np).lst hl
  have hps2 := PatsQ.ext (Ext.new (o := .lst [V.str "", V.str "|", V.str "&", V.str ")"]) np).sqT _ _ hps
  have hjz := hat.2.1
  by_cases ht : TermC z[j]?
  · rw [decide_eq_true (memT.mpr ht)]
    refine iffF rfl ⟨_, rfl, Nat.zero_le _, fun p3 x3 => ⟨l, p3, vs, rfl, rfl, SqL.of ((Ext.new x3).lst hl2), SqL.of upd_same, _, rfl, ?_⟩⟩
    have e3 := e2.trans (Ext.new (o := .lst []) x3)
    have hl3 := (Ext.new (o := .lst []) x3).lst hl2
    have hps3 := PatsQ.ext (Ext.new (o := .lst []) x3).sqT _ _ hps2
    by_cases hp : ps = []
    · have hv0 : vs = [] := by rw [hp] at hps; exact hps
      subst hv0
      refine iffT rfl (qn ?_ _ e3)
      rw [hp0 hp] at ht
      exact half_none ht
    · have hv0 : vs.isEmpty = false := by
        cases vs with
        | nil => exact absurd (List.length_eq_zero_iff.mp (by rw [← hps.len]; rfl)) hp
        | cons _ _ => rfl
      refine iffF hv0 ⟨_, rfl, "row", l, vs, ps, rfl, by decide, hl3, hps3, by omega, fun v' H4 e4 hv' => ?_⟩
      refine ⟨_, rfl, z2, fun p5 x5 => ?_⟩
      have f5 := Ext.new (o := .tup [v', nV j]) x5
      exact qs _ j (half_done hat ht hp) v' p5 _ ((Upd.ext0 e4 e3).trans f5) (PatQ.ext f5.sqT _ _ hv') upd_same
  · rw [decide_eq_false (fun h => ht (memT.mp h))]
    refine iffT rfl ⟨fun σ' H3 => ∃ m' < z.length - j, ∃ ps vs j c4, σ' = [some (.str L), some (.str (txt z)), some (nV j), some (.ref l), c4] ∧ Ext H H3 ∧ H3 l = some (.lst vs) ∧ PatsQ K H3 ps vs ∧ HalfAt L z i ps j ∧ ps.length + i ≤ j ∧ (ps = [] → j = i) ∧ m' = z.length - j, fun σ' H' ⟨m', h1, h2⟩ => ⟨m', h1, h2⟩, ?_⟩
    refine t_set ⟨_, rfl, _, rfl, _, rfl, L, z, j, rfl, hL, hjz, by have := hat.1; omega, hz4, fun hn H4 e4 => ?_, fun p' j' hok v a H4 e4 hv ha => ?_⟩
    · exact ⟨_, rfl, rfl, _, rfl, iffT rfl (qn (half_no hat ht hn) _ (e2.trans e4))⟩
    · refine ⟨_, rfl, rfl, _, rfl, iffF rfl ?_⟩
      dsimp only [tNext]
      have hl4 := e4.lst hl2
      have hps4 := PatsQ.ext e4.sqT _ _ hps2
      have hlen : vs.length < sizeLine := Nat.lt_of_le_of_lt (show vs.length ≤ 400 by rw [hps.len]; omega) (by decide)
      refine t_seq ⟨_, rfl, .inl ⟨rfl, _, SqL.of hl4⟩, r_ixQ 0 rfl (SqT.of ha) rfl ⟨l, _, _, rfl, rfl, hl4, hlen, ?_⟩⟩
      have tw := tk_wr (K := K) (ys := vs ++ [v]) hl4
      refine r_ixQ 1 rfl (tw _ _ (SqT.of ha)) rfl ?_
      have hj' := hok.1
      have hj2 := hok.2.1
      exact ⟨z.length - j', by omega, ps ++ [p'], vs ++ [v], j', some (.ref a), rfl, (e2.trans e4).wr x0, upd_same, (PatsQ.ext tw _ _ hps4).append (PatsQ.one (PatQ.ext tw _ _ hv)), half_next hat hok, by rw [List.length_append]; simp only [List.length_cons, List.length_nil]; omega, fun h => absurd h (by simp), rfl⟩
end
end Bo
set_option Elab.async false
set_option linter.all false
set_option maxRecDepth 100000
set_option maxHeartbeats 8000000
namespace Bo
open PySem PySem.Spec PyProof.Rows L2 GE
theorem mem2 {z : List Nat} {j : Nat} : txt ((z.drop j).take 1) ∈ (["&", "|"] : List Str) ↔ z[j]? = some 38 ∨ z[j]? = some 124 := by
  rw [List.mem_cons, List.mem_cons]
  constructor
  · rintro (h | h | h)
    · exact .inl ((is1 38).mp h)
    · exact .inr ((is1 124).mp h)
    · cases h
  · rintro (h | h)
    · exact .inl ((is1 38).mpr h)
    · exact .inr (.inl ((is1 124).mpr h))
section
variable {P : Program} {w : World} {K : PySem.W.Frag} {mg : Str → Option Value} {base : Heap}
theorem scEi : FnScope ["_law_letters_here", "_law_text", "_law_at", "_law_branches", "_law_halves", "_law_one"] ["_law_letters_here", "_law_text", "_law_at"] (defScope sLawEither) := ⟨rfl, rfl, rfl, by decide +kernel, rfl, by decide +kernel, by decide +kernel⟩
theorem ei_ok {f g1 g2 : Addr} {fd d1 d2 : FuncData} {k r : Nat} (F : FnP K "_law_either" sLawEither f fd)
    (G1 : FnOk P w K mg base CX0 k g1 d1 ["_law_letters_here", "_law_text", "_law_at"] (spHf K r)) (b1 : Binds K d1 ["_law_letters_here", "_law_text", "_law_at"] []) (k1 : PySem.W.keepIn K (.ref g1) = true) (m1 : mg "_law_half" = some (.ref g1))
    (G2 : FnOk P w K mg base CX0 1 g2 d2 ["_law_word", "_law_patterns"] (spTog K)) (b2 : Binds K d2 ["_law_word", "_law_patterns"] []) (k2 : PySem.W.keepIn K (.ref g2) = true) (m2 : mg "_law_of" = some (.ref g2)) (hk1 : 1 ≤ k) :
    FnOk P w K mg base CX0 (k + 1) f fd ["_law_letters_here", "_law_text", "_law_at"] (spEi K r) := by
  refine okD F scEi (fun vs H Q E h => ?_) (fun cdv A outer s H vs Q E hr h => ?_)
  · obtain ⟨L, z, i, rfl, _⟩ := h
    rfl
  obtain ⟨L, z, i, rfl, hL, hi, hir, hz4, qn, qs⟩ := h
  refine ⟨_, (pss_cons (ps_set (i := 3) scEi.nd rfl (Or.inl rfl) (pe_lst pa_nil)) (pss_cons (ps_set (i := 4) scEi.nd rfl (Or.inl rfl) (pe_lst pa_nil)) (pss_one (ps_while PassesOwn.never (pt_truth pe_bl (by intro _; rfl))
      (pss_cons (ps_set (i := 5) scEi.nd rfl (Or.inl rfl) (pe_call G1 hr rfl m1 k1 b1 .nil pass0 (pa_cons (pv 0) (pa_cons (pv 1) (pa_cons (pv 2) pa_nil))))) (pss_cons (ps_if (pt_cmpR op_isN1 (pv 5) pe_non (nomark _)) (pss_one (ps_ret pe_non)) pss_nil) (pss_cons (ps_expr (pe_bm PySem.F.plainAttrs_list PySem.F.slot_list_append PySem.F.type_list_append mt_append (pv 4) (pa_cons (pe_ix ix_tup (pv 5) pe_int (fun _ _ => rfl)) pa_nil))) (pss_cons (ps_set (i := 2) scEi.nd rfl (Or.inl rfl) (pe_op op_add (pe_ix ix_tup (pv 5) pe_int (fun _ _ => rfl)) pe_int)) (pss_cons (ps_if (pt_cmpR op_ne (pe_slice sl_str (pv 1) (po_some (pe_ix ix_tup (pv 5) pe_int (fun _ _ => rfl))) (po_some (pv 2))) pe_str (by rfl))
        (pss_cons (ps_expr (pe_bm PySem.F.plainAttrs_list PySem.F.slot_list_append PySem.F.type_list_append mt_append (pv 3) (pa_cons (pe_call G2 (hr.mono hk1) rfl m2 k2 b2 .nil pass0 (pa_cons pe_str (pa_cons (pv 4) pa_nil))) pa_nil))) (pss_one (ps_set (i := 4) scEi.nd rfl (Or.inl rfl) (pe_lst pa_nil)))) pss_nil) (pss_one (ps_if (pt_cmpR op_notIn_seq (pe_slice sl_str (pv 1) (po_some (pe_ix ix_tup (pv 5) pe_int (fun _ _ => rfl))) (po_some (pv 2))) (pe_lst (pa_cons pe_str (pa_cons pe_str pa_nil))) (by rfl))
        (pss_one (ps_ret (pe_tup (pa_cons (pe_call G2 (hr.mono hk1) rfl m2 k2 b2 .nil pass0 (pa_cons pe_str (pa_cons (pv 3) pa_nil))) (pa_cons (pe_ix ix_tup (pv 5) pe_int (fun _ _ => rfl)) pa_nil))))) pss_nil))))))))))), ?_⟩
  have z2 : 2 ≤ sizeLine := by decide
  have hzt : (txt z).length = z.length := List.size_toArray
  have hzl : (txt z).length ≤ sizeLine := Nat.le_trans (by rw [hzt]; exact hz4) (by decide)
  refine t_set ⟨Nat.zero_le _, fun lb0 x0 => ?_⟩
  refine t_set ⟨Nat.zero_le _, fun lh0 y0 => ?_⟩
  refine ⟨fun m σ H' => ∃ bs hs us vs j c5 lb lh, σ = [some (.str L), some (.str (txt z)), some (nV j), some (.ref lb), some (.ref lh), c5] ∧ Ext H H' ∧ H lb = none ∧ H lh = none ∧ lb ≠ lh ∧ H' lb = some (.lst us) ∧ H' lh = some (.lst vs) ∧ PatsQ K H' bs us ∧ PatsQ K H' hs vs ∧ EithAt L z i bs hs j ∧ bs.length + hs.length + i ≤ j ∧ m = z.length - j,
    ⟨_, [], [], [], [], i, none, lb0, lh0, rfl, (Ext.new x0).trans (Ext.new y0), x0, (Ext.new x0).free y0, ne_of_none upd_same y0, by rw [upd_ne (ne_of_none upd_same y0)]; exact upd_same, upd_same, rfl, rfl, eith_start hi, by show 0 + 0 + i ≤ i; omega, rfl⟩, ?_⟩
  rintro m σ H1 ⟨bs, hs, us, vs, j, c5, lb, lh, rfl, e1, nb, nh, hne, hlb, hlh, hbs, hhs, hat, hlen, rfl⟩
  have hjz := hat.2.1
  refine ⟨_, rfl, iffT rfl ⟨fun σ' H' => ∃ m' < z.length - j, ∃ bs hs us vs j c5 lb lh, σ' = [some (.str L), some (.str (txt z)), some (nV j), some (.ref lb), some (.ref lh), c5] ∧ Ext H H' ∧ H lb = none ∧ H lh = none ∧ lb ≠ lh ∧ H' lb = some (.lst us) ∧ H' lh = some (.lst vs) ∧ PatsQ K H' bs us ∧ PatsQ K H' hs vs ∧ EithAt L z i bs hs j ∧ bs.length + hs.length + i ≤ j ∧ m' = z.length - j, fun σ' H' ⟨m', h1, h2⟩ => ⟨m', h1, h2⟩, ?_⟩⟩
  refine t_set ⟨_, rfl, _, rfl, _, rfl, L, z, j, rfl, hL, hjz, by have := hat.1; omega, hz4, fun hn H4 e4 => ?_, fun p k' hok v a H4 e4 hv ha => ?_⟩
  · exact ⟨_, rfl, rfl, _, rfl, iffT rfl (qn (eith_no hat hn) _ (e1.trans e4))⟩
  refine ⟨_, rfl, rfl, _, rfl, iffF rfl ?_⟩
  dsimp only [tNext]
  have hlb4 := e4.lst hlb
  have hlh4 := e4.lst hlh
  have hbs4 := PatsQ.ext e4.sqT _ _ hbs
  have hhs4 := PatsQ.ext e4.sqT _ _ hhs
  have hlen4 : vs.length < sizeLine := Nat.lt_of_le_of_lt (show vs.length ≤ 400 by rw [hhs.len]; omega) (by decide)
  have hul4 : us.length < sizeLine := Nat.lt_of_le_of_lt (show us.length ≤ 400 by rw [hbs.len]; omega) (by decide)
  refine t_seq ⟨_, rfl, .inl ⟨rfl, _, SqL.of hlh4⟩, r_ixQ 0 rfl (SqT.of ha) rfl ⟨lh, _, _, rfl, rfl, hlh4, hlen4, ?_⟩⟩
  have tw := tk_wr (K := K) (ys := vs ++ [v]) hlh4
  have e5 : Ext H (upd H4 lh (.lst (vs ++ [v]))) := (e1.trans e4).wr nh
  have hlb5 : upd H4 lh (.lst (vs ++ [v])) lb = some (.lst us) := by rw [upd_ne hne]; exact hlb4
  have hlh5 : upd H4 lh (.lst (vs ++ [v])) lh = some (.lst (vs ++ [v])) := upd_same
  have ha5 := tw _ _ (SqT.of ha)
  have hbs5 := PatsQ.ext tw _ _ hbs4
  have hhs5 := (PatsQ.ext tw _ _ hhs4).append (PatsQ.one (PatQ.ext tw _ _ hv))
  generalize upd H4 lh (.lst (vs ++ [v])) = H5 at e5 hlb5 hlh5 ha5 hbs5 hhs5 tw ⊢
  refine r_ixQ 1 rfl ha5 rfl ⟨_, _, rfl, rfl, ?_⟩
  have hk1 := hok.1
  have hkz := hok.2.1
  have hln : (hs ++ [p]).length = hs.length + 1 := by rw [List.length_append]; rfl
  refine ⟨_, rfl, r_ixQ 1 rfl ha5 rfl ⟨_, rfl, _, rfl, _, rfl, _, rfl, hzl, rfl, _, rfl, ?_⟩⟩
  rw [sl1 hkz]
  by_cases h38 : z[k']? = some 38
  · rw [decide_eq_true (congrArg V.str ((is1 38).mpr h38) : V.str (txt ((z.drop k').take 1)) = V.str "&")]
    refine iffF rfl ?_
    dsimp only [tNext]
    refine ⟨_, rfl, r_ixQ 1 rfl ha5 rfl ⟨_, rfl, _, rfl, _, rfl, _, rfl, hzl, z2, fun p6 x6 => ⟨p6, _, rfl, .inl (SqL.of upd_same), rfl, by decide, _, rfl, ?_⟩⟩⟩
    rw [sl1 hkz]
    rw [show inV (V.str (txt ((z.drop k').take 1))) [V.str "&", V.str "|"] = decide (txt ((z.drop k').take 1) ∈ (["&", "|"] : List Str)) from inV_str (txt ((z.drop k').take 1)) ["&", "|"]]
    rw [decide_eq_true (mem2.mpr (.inl h38))]
    refine iffF rfl ?_
    have f6 := Ext.new (o := .lst [V.str "&", V.str "|"]) x6
    have := lt_of h38
    exact ⟨z.length - (k' + 1), by omega, bs, hs ++ [p], us, vs ++ [v], k' + 1, some (.ref a), lb, lh, rfl, e5.trans f6, nb, nh, hne, f6.lst hlb5, f6.lst hlh5, PatsQ.ext f6.sqT _ _ hbs5, PatsQ.ext f6.sqT _ _ hhs5, eith_amp hat hok h38, by omega, rfl⟩
  · rw [str_ne (fun e => h38 ((is1 38).mp e) : txt ((z.drop k').take 1) ≠ "&")]
    refine iffT rfl ?_
    refine t_seq ⟨_, rfl, .inl ⟨rfl, _, SqL.of hlb5⟩, _, rfl, "and", lh, vs ++ [v], hs ++ [p], rfl, by decide, hlh5, hhs5, by omega, fun v' H6 u6 hv' => ⟨lb, _, _, rfl, rfl, (u6 []).fr lb _ hlb5 (by simp), hul4, ?_⟩⟩
    have hlb6 := (u6 []).fr lb _ hlb5 (by simp)
    have tw7 := tk_wr (K := K) (ys := us ++ [v']) hlb6
    have e7 : Ext H (upd H6 lb (.lst (us ++ [v']))) := (Upd.ext0 u6 e5).wr nb
    have ha7 := tw7 _ _ (upd_tk u6 _ _ ha5)
    have hbs7 := (PatsQ.ext tw7 _ _ (PatsQ.ext (upd_tk u6) _ _ hbs5)).append (PatsQ.one (PatQ.ext tw7 _ _ hv'))
    have hlb7 : upd H6 lb (.lst (us ++ [v'])) lb = some (.lst (us ++ [v'])) := upd_same
    generalize upd H6 lb (.lst (us ++ [v'])) = H7 at e7 ha7 hbs7 hlb7 ⊢
    refine ⟨Nat.zero_le _, fun lh2 x8 => ?_⟩
    have f8 := Ext.new (o := .lst []) x8
    have ha8 := f8.sqT _ _ ha7
    have hbs8 := PatsQ.ext f8.sqT _ _ hbs7
    refine ⟨_, rfl, r_ixQ 1 rfl ha8 rfl ⟨_, rfl, _, rfl, _, rfl, _, rfl, hzl, z2, fun p9 x9 => ⟨p9, _, rfl, .inl (SqL.of upd_same), rfl, by decide, _, rfl, ?_⟩⟩⟩
    rw [sl1 hkz]
    rw [show inV (V.str (txt ((z.drop k').take 1))) [V.str "&", V.str "|"] = decide (txt ((z.drop k').take 1) ∈ (["&", "|"] : List Str)) from inV_str (txt ((z.drop k').take 1)) ["&", "|"]]
    have f9 := Ext.new (o := .lst [V.str "&", V.str "|"]) x9
    have hlb9 := f9.lst (f8.lst hlb7)
    have hbs9 := PatsQ.ext f9.sqT _ _ hbs8
    have hbn : (bs ++ [tog (mkOf "and") (hs ++ [p])]).length = bs.length + 1 := by rw [List.length_append]; rfl
    by_cases h124 : z[k']? = some 124
    · rw [decide_eq_true (mem2.mpr (.inr h124))]
      refine iffF rfl ?_
      have := lt_of h124
      exact ⟨z.length - (k' + 1), by omega, bs ++ [tog (mkOf "and") (hs ++ [p])], [], us ++ [v'], [], k' + 1, some (.ref a), lb, lh2, rfl, (e7.trans f8).trans f9, nb, e7.free x8, ne_of_none hlb7 x8, hlb9, f9.lst upd_same, hbs9, rfl, eith_bar hat hok h124, by rw [hbn]; show bs.length + 1 + 0 + i ≤ _; omega, rfl⟩
    · rw [decide_eq_false (fun h => (mem2.mp h).elim h38 h124)]
      refine iffT rfl ⟨_, rfl, "or", lb, us ++ [v'], bs ++ [tog (mkOf "and") (hs ++ [p])], rfl, by decide, hlb9, hbs9, by rw [hbn]; omega, fun w' H10 u10 hw => ?_⟩
      refine r_ixQ 1 rfl (upd_tk u10 _ _ (f9.sqT _ _ ha8)) rfl ⟨z2, fun p11 x11 => ?_⟩
      have f11 := Ext.new (o := .tup [w', nV k']) x11
      exact qs _ k' (eith_done hat hok h38 h124) w' p11 _ ((Upd.ext0 u10 ((e7.trans f8).trans f9)).trans f11) (PatQ.ext f11.sqT _ _ hw) upd_same
end
end Bo
set_option Elab.async false
set_option linter.all false
set_option maxRecDepth 100000
set_option maxHeartbeats 8000000
namespace Bo
open PySem PySem.Spec PyProof.Rows L2 GE
theorem ok_nt {L : Str} {p : Pat} (h : p.ok L) : ∀ k, (nt k p).ok L
  | 0 => h
  | k + 1 => ok_nt h k
theorem ok_ntq {L : Str} : ∀ {r : List (Nat × Pat)}, okL L (r.map Prod.snd) → okL L (r.map ntq)
  | [], _ => trivial
  | q :: r, h => ⟨ok_nt h.1 q.1, ok_ntq h.2⟩
theorem ok_tog {L : Str} {mk : List Pat → Pat} (hmk : ∀ ps, 2 ≤ ps.length → okL L ps → (mk ps).ok L) : ∀ ps, ps ≠ [] → okL L ps → (tog mk ps).ok L
  | [], h, _ => absurd rfl h
  | [p], _, h => h.1
  | p :: q :: r, _, h => hmk _ (by simp) h
def okV (L : Str) (l : Lv) : Prop := okL L l.bs ∧ okL L l.hs ∧ okL L (l.row.map Prod.snd)
theorem ready_ne {l : Lv} (h : l.ready = true) : l.row ≠ [] := fun e => by rw [ready_e e] at h; cases h
theorem ok_halved {L : Str} {l : Lv} (h : okV L l) (r : l.ready = true) : okV L l.halved := by
  refine ⟨h.1, okL_append.mpr ⟨h.2.1, ok_tog (mk := .row) (fun ps a b => ⟨a, b⟩) _ ?_ (ok_ntq h.2.2), trivial⟩, trivial⟩
  exact fun e => ready_ne r (List.map_eq_nil_iff.mp e)
theorem ok_branched {L : Str} {l : Lv} (h : okV L l) (r : l.ready = true) : okV L l.branched := by
  refine ⟨okL_append.mpr ⟨h.1, ok_tog (mk := .and) (fun ps a b => ⟨a, b⟩) _ ?_ (ok_halved h r).2.1, trivial⟩, trivial, trivial⟩
  intro e
  have : (l.hs ++ [tog .row (l.row.map fun q => nt q.1 q.2)]) = [] := e
  simp at this
theorem ok_said {L : Str} {l : Lv} (h : okV L l) (r : l.ready = true) : l.said.ok L := by
  refine ok_tog (mk := .or) (fun ps a b => ⟨a, b⟩) _ ?_ (ok_branched h r).1
  intro e
  have : (l.bs ++ [tog .and l.halved.hs]) = [] := e
  simp at this
theorem ok_atom {L : Str} {l : Lv} {p : Pat} (h : okV L l) (hp : p.ok L) : okV L (l.takeAtom p) := by
  refine ⟨h.1, h.2.1, ?_⟩
  show okL L ((l.row ++ [(l.n, p)]).map Prod.snd)
  rw [List.map_append]
  exact okL_append.mpr ⟨h.2.2, hp, trivial⟩
theorem ok_step {L : Str} {t : Tok} {s s' : List Lv} {l l' : Lv} (ht : okT L t) (hl : okV L l) (hs : ∀ o ∈ s, okV L o) (e : stepT t (s, l) = some (s', l')) : okV L l' ∧ ∀ o ∈ s', okV L o := by
  cases t with
  | bang => cases e; exact ⟨hl, hs⟩
  | unit => cases e; exact ⟨ok_atom hl trivial, hs⟩
  | null => cases e; exact ⟨ok_atom hl trivial, hs⟩
  | sgn c => cases e; exact ⟨ok_atom hl ht, hs⟩
  | bad c => cases e
  | lp => cases e; exact ⟨⟨trivial, trivial, trivial⟩, fun o ho => (List.mem_cons.mp ho).elim (fun k => k ▸ hl) (hs o)⟩
  | star =>
    simp only [stepT] at e
    split at e
    · rename_i rd
      obtain ⟨r0, k, p, hrow, hn⟩ := ready_cut rd
      have hst : l.starred = { l with row := r0 ++ [(k, .many p)] } := by
        unfold Lv.starred
        rw [hrow]
        simp
      rw [hst] at e
      cases e
      have h3 := hl.2.2
      rw [hrow, List.map_append] at h3
      obtain ⟨h4, h5⟩ := okL_append.mp h3
      refine ⟨⟨hl.1, hl.2.1, ?_⟩, hs⟩
      show okL L ((r0 ++ [(k, Pat.many p)]).map Prod.snd)
      rw [List.map_append]
      exact okL_append.mpr ⟨h4, h5.1, trivial⟩
    · cases e
  | amp =>
    simp only [stepT] at e
    split at e
    · rename_i rd; cases e; exact ⟨ok_halved hl rd, hs⟩
    · cases e
  | bar =>
    simp only [stepT] at e
    split at e
    · rename_i rd; cases e; exact ⟨ok_branched hl rd, hs⟩
    · cases e
  | rp =>
    cases s with
    | nil => cases e
    | cons o s1 =>
      simp only [stepT] at e
      split at e
      · rename_i rd
        cases e
        exact ⟨ok_atom (hs o List.mem_cons_self) (ok_said hl rd), fun o' ho => hs o' (List.mem_cons_of_mem _ ho)⟩
      · cases e
theorem ok_run {L : Str} : ∀ (ts : List Tok) {s s' : List Lv} {l l' : Lv}, (∀ t ∈ ts, okT L t) → okV L l → (∀ o ∈ s, okV L o) → runT ts (s, l) = some (s', l') → okV L l'
  | [], s, s', l, l', _, hl, _, e => by cases e; exact hl
  | t :: ts, s, s', l, l', ht, hl, hs, e => by
    have e : (stepT t (s, l)).bind (runT ts) = some (s', l') := e
    cases h : stepT t (s, l) with
    | none => rw [h] at e; cases e
    | some st =>
      obtain ⟨s1, l1⟩ := st
      rw [h] at e
      obtain ⟨h1, h2⟩ := ok_step (ht t List.mem_cons_self) hl hs h
      exact ok_run ts (fun x hx => ht x (List.mem_cons_of_mem _ hx)) h1 h2 (show runT ts (s1, l1) = some (s', l') from e)
theorem reads_ok {L : Str} {z : List Nat} {p : Pat} (h : Reads1 (tokz L z) p) : p.ok L := by
  obtain ⟨l, h1, h2, rfl⟩ := h
  exact ok_said (ok_run _ (tokz_ok L z) (show okV L .new from ⟨trivial, trivial, trivial⟩) (fun _ h => by cases h) h1) h2
theorem reads_size3 {ts : List Tok} {p : Pat} (h : Reads1 ts p) : p.size ≤ 3 * ts.length + 3 := by
  obtain ⟨l, h1, _, rfl⟩ := h
  have a := wt_run ts h1
  have b := wt_said l
  have c : wt .new = 0 := rfl
  have d : wtS [] = 0 := rfl
  omega
theorem tok_len (L : Str) (z : List Nat) : (tokz L z).length ≤ z.length := Nat.le_trans (len_lenT _) (Nat.le_of_eq (congrArg List.length (tokz_cs L z)))
mutual
theorem dep_size : ∀ p : Pat, p.dep ≤ p.size
  | .none => by simp [Pat.dep, Pat.size]
  | .empty => by simp [Pat.dep, Pat.size]
  | .sign c => by simp [Pat.dep, Pat.size]
  | .row ps => by have := depL_size ps; simp only [Pat.dep, Pat.size]; omega
  | .or ps => by have := depL_size ps; simp only [Pat.dep, Pat.size]; omega
  | .and ps => by have := depL_size ps; simp only [Pat.dep, Pat.size]; omega
  | .many p => by have := dep_size p; simp only [Pat.dep, Pat.size]; omega
  | .not p => by have := dep_size p; simp only [Pat.dep, Pat.size]; omega
theorem depL_size : ∀ ps : List Pat, depL ps ≤ sizeL ps
  | [] => by simp [depL, sizeL]
  | p :: ps => by have h1 := dep_size p; have h2 := depL_size ps; simp only [depL, sizeL]; omega
end
/-- what the law is due of a text -/
def dGreat : PyData := .list [.str "great"]
def dText : PyData := .list [.str "text"]
def dLetters : PyData := .list [.str "letters"]
def due (L : Str) (z : List Nat) : PyData := match runT (tokz L z) ([], .new) with
  | some ([], l) => if l.ready = true then (if 60 < l.said.size then dGreat else pd l.said) else dText
  | _ => dText
theorem due_reads {L : Str} {z : List Nat} {p : Pat} (h : Reads1 (tokz L z) p) : due L z = if 60 < p.size then dGreat else pd p := by
  obtain ⟨l, h1, h2, rfl⟩ := h
  unfold due
  rw [h1]
  simp only [h2, if_true]
theorem due_none {L : Str} {z : List Nat} (h : ∀ p, ¬ Reads1 (tokz L z) p) : due L z = dText := by
  unfold due
  split
  · rename_i l e
    split
    · rename_i rd
      exact absurd ⟨l, e, rd, rfl⟩ (h _)
    · rfl
  · rfl
def DOk (d : PyData) : Prop := d.canLay0 = true ∧ d.depth ≤ 600
theorem dok_great : DOk dGreat := ⟨by decide +kernel, by decide +kernel⟩
theorem dok_text : DOk dText := ⟨by decide +kernel, by decide +kernel⟩
theorem dok_letters : DOk dLetters := ⟨by decide +kernel, by decide +kernel⟩
theorem due_ok' {L : Str} (hL : goodS L = true) (z : List Nat) : DOk (due L z) := by
  by_cases h : ∃ p, Reads1 (tokz L z) p
  · obtain ⟨p, h⟩ := h
    rw [due_reads h]
    split
    · exact dok_great
    · have h1 := pd_depth p
      have h2 := dep_size p
      exact ⟨pd_lay hL p (reads_ok h), by omega⟩
  · rw [due_none (fun p hp => h ⟨p, hp⟩)]; exact dok_text
theorem dp_word {K : PySem.W.Frag} {H : Hp} {r : Addr} {x : Str} (h : H r = some (.lst [.str x])) : Dp K H (.ref r) (.list [.str x]) := .lst (SqL.of h) (.cons (.str _) .nil)
section
variable {P : Program} {w : World} {K : PySem.W.Frag} {mg : Str → Option Value} {base : Heap}
theorem ls_tower {f : Addr} {fd : FuncData} (F : FnP K "_law_size" sLawSize f fd) (b : Binds K fd ["_law_pattern"] []) (mG : mg "_law_size" = some (.ref f)) (ms : mg "sum" = none) : ∀ d, FnOk P w K mg base CX0 d f fd ["_law_pattern"] (spLS K d)
  | 0 => ls_none
  | d + 1 => ls_step F (ls_tower F b mG ms d) b mG ms
theorem it_tower {f1 f2 f3 f4 : Addr} {d1 d2 d3 d4 : FuncData} (F1 : FnP K "_law_item" sLawItem f1 d1) (b1 : Binds K d1 ["_law_letters_here", "_law_text", "_law_at"] []) (m1 : mg "_law_item" = some (.ref f1))
    (F2 : FnP K "_law_half" sLawHalf f2 d2) (b2 : Binds K d2 ["_law_letters_here", "_law_text", "_law_at"] []) (m2 : mg "_law_half" = some (.ref f2))
    (F3 : FnP K "_law_either" sLawEither f3 d3) (b3 : Binds K d3 ["_law_letters_here", "_law_text", "_law_at"] []) (m3 : mg "_law_either" = some (.ref f3))
    (G4 : FnOk P w K mg base CX0 1 f4 d4 ["_law_word", "_law_patterns"] (spTog K)) (b4 : Binds K d4 ["_law_word", "_law_patterns"] []) (k4 : PySem.W.keepIn K (.ref f4) = true) (m4 : mg "_law_of" = some (.ref f4)) (mn : mg "int" = none) :
    ∀ r, FnOk P w K mg base CX0 (3 * r + 1) f1 d1 ["_law_letters_here", "_law_text", "_law_at"] (spIt K r) ∧ FnOk P w K mg base CX0 (3 * r + 3) f3 d3 ["_law_letters_here", "_law_text", "_law_at"] (spEi K r) := by
  have up : ∀ r, FnOk P w K mg base CX0 (3 * r + 1) f1 d1 ["_law_letters_here", "_law_text", "_law_at"] (spIt K r) → FnOk P w K mg base CX0 (3 * r + 3) f3 d3 ["_law_letters_here", "_law_text", "_law_at"] (spEi K r) := fun r G =>
    ei_ok F3 (hf_ok F2 G b1 F1.kp m1 G4 b4 k4 m4 (by omega)) b2 F2.kp m2 G4 b4 k4 m4 (by omega)
  intro r
  induction r with
  | zero =>
    have h := it_ok (k := 0) (r := 0) F1 (fun h => absurd rfl h) b1 F1.kp m1 (fun h => absurd rfl h) b3 F3.kp m3 mn (P := P) (w := w) (base := base)
    exact ⟨h, up 0 h⟩
  | succ r ih =>
    have h := it_ok (k := 3 * r + 3) (r := r + 1) F1 (fun _ => ih.1.mono (by omega)) b1 F1.kp m1 (fun _ => ih.2) b3 F3.kp m3 mn (P := P) (w := w) (base := base)
    have h : FnOk P w K mg base CX0 (3 * (r + 1) + 1) f1 d1 ["_law_letters_here", "_law_text", "_law_at"] (spIt K (r + 1)) := h
    exact ⟨h, up (r + 1) h⟩
def spDue (K : PySem.W.Frag) : Sp := fun vs H Q _ => ∃ (L : Str) (z : List Nat), vs = [.str L, .str (txt z)] ∧ goodS L = true ∧ z.length ≤ 75 ∧ ∀ v H', Ext H H' → Dp K H' v (due L z) → Q v H'
theorem scDu : FnScope ["_law_letters_here", "_law_text", "_law_whole"] ["_law_letters_here", "_law_text"] (defScope sLawDue) := ⟨rfl, rfl, rfl, by decide +kernel, rfl, by decide +kernel, by decide +kernel⟩
theorem du_ok {f g1 g2 : Addr} {fd d1 d2 : FuncData} (F : FnP K "_law_due" sLawDue f fd)
    (G1 : FnOk P w K mg base CX0 228 g1 d1 ["_law_letters_here", "_law_text", "_law_at"] (spEi K 75)) (b1 : Binds K d1 ["_law_letters_here", "_law_text", "_law_at"] []) (k1 : PySem.W.keepIn K (.ref g1) = true) (m1 : mg "_law_either" = some (.ref g1))
    (G2 : FnOk P w K mg base CX0 228 g2 d2 ["_law_pattern"] (spLS K 228)) (b2 : Binds K d2 ["_law_pattern"] []) (k2 : PySem.W.keepIn K (.ref g2) = true) (m2 : mg "_law_size" = some (.ref g2)) (ml : mg "len" = none) :
    FnOk P w K mg base CX0 229 f fd ["_law_letters_here", "_law_text"] (spDue K) := by
  refine okD F scDu (fun vs H Q E h => ?_) (fun cdv A outer s H vs Q E hr h => ?_)
  · obtain ⟨L, z, rfl, _⟩ := h
    rfl
  obtain ⟨L, z, rfl, hL, hz, q⟩ := h
  refine ⟨_, (pss_cons (ps_set (i := 2) scDu.nd rfl (Or.inl rfl) (pe_call G1 hr rfl m1 k1 b1 .nil pass0 (pa_cons (pv 0) (pa_cons (pv 1) (pa_cons pe_int pa_nil))))) (pss_cons (ps_if (PW.pt (pw_or (pt_cmpR op_isN1 (pv 2) pe_non (nomark _)) (pw_or1 (pt_cmpR op_lt (pe_ix ix_tup (pv 2) pe_int (fun _ _ => rfl)) (pe_callB call_len rfl ml PySem.boot_len (pa_cons (pv 1) pa_nil)) (nomark _))))) (pss_one (ps_ret (pe_lst (pa_cons pe_str pa_nil)))) pss_nil) (pss_cons (ps_if (pt_cmpR op_gt (pe_call G2 hr rfl m2 k2 b2 .nil pass0 (pa_cons (pe_ix ix_tup (pv 2) pe_int (fun _ _ => rfl)) pa_nil)) pe_int (nomark _)) (pss_one (ps_ret (pe_lst (pa_cons pe_str pa_nil)))) pss_nil) (pss_one (ps_ret (pe_ix ix_tup (pv 2) pe_int (fun _ _ => rfl))))))), ?_⟩
  have z1 : 1 ≤ sizeLine := by decide
  have hzt : (txt z).length = z.length := List.size_toArray
  have hzl : (txt z).length ≤ sizeLine := Nat.le_trans (by rw [hzt]; omega) (show 75 ≤ sizeLine by decide)
  have lst : ∀ (x : Str) (H' : Hp), Ext H H' → due L z = .list [.str x] → ∀ p, H' p = none → Q (.ref p) (upd H' p (.lst [.str x])) := fun x H' e hd p hp =>
    q _ _ (e.trans (Ext.new hp)) (hd ▸ dp_word upd_same)
  refine t_set ⟨_, rfl, _, rfl, L, z, 0, rfl, hL, Nat.zero_le _, by omega, by omega, fun hn H4 e4 => ?_, fun p j hok v a H4 e4 hv ha => ?_⟩
  · refine ⟨_, rfl, rfl, _, rfl, iffT rfl (iffT rfl ⟨z1, fun p hp => lst "text" H4 e4 (due_none (due_no hn)) p hp⟩)⟩
  · refine ⟨_, rfl, rfl, _, rfl, iffF rfl ?_⟩
    refine r_ixQ 1 rfl (SqT.of ha) rfl ⟨_, rfl, .str (txt z), _, rfl, ⟨hzl, rfl⟩, _, _, rfl, rfl, _, rfl, ?_⟩
    by_cases hj : j < z.length
    · exact iffT (decide_eq_true (by rw [hzt]; omega)) ⟨z1, fun p' hp => lst "text" H4 e4 (due_none (due_more hok hj)) p' hp⟩
    · refine iffF (decide_eq_false (by rw [hzt]; omega)) ?_
      dsimp only [tNext]
      have hR := due_all hok hj
      have hsz := reads_size3 hR
      have htl := tok_len L z
      have hds := dep_size p
      refine r_ixQ 0 rfl (SqT.of ha) rfl ⟨v, p, rfl, hv, by omega, by omega, fun H5 e5 => ⟨_, _, rfl, rfl, _, rfl, ?_⟩⟩
      by_cases h60 : 60 < p.size
      · exact iffT (decide_eq_true (by omega)) ⟨z1, fun p' hp => lst "great" H5 (e4.trans e5) (by rw [due_reads hR, if_pos h60]; rfl) p' hp⟩
      · refine iffF (decide_eq_false (by omega)) ?_
        dsimp only [tNext]
        refine r_ixQ 0 rfl (e5.sqT _ _ (SqT.of ha)) rfl (q _ _ (e4.trans e5) ?_)
        rw [due_reads hR, if_neg h60]
        exact pd_dp p v (PatQ.ext e5.sqT _ _ hv)
end
end Bo
set_option Elab.async false
set_option linter.all false
set_option maxRecDepth 100000
set_option maxHeartbeats 4000000
/-! where an error is handled: the end of a list, a tuple taken apart, a list comprehension -/
namespace GH
open PySem PySem.Spec PyProof.Rows L2 L2H HotX
section
variable {prog : Program} {w : World} {A : Around} {E : Value → Shared → Prop} {s : Shared}
/-- the handled error is no iterator -/
theorem no_iter {x1 it : Addr} {o o1 : Obj} {vs1 : Array Value} {u : Value} {i : Int} {tk : Tok} (h1 : s.heap.get? x1 = some o1) (d1 : o1.data = .fields vs1) (c1 : vs1[2]? = some .none) (ho : s.heap.get? it = some o) (hd : o.data = .fields #[u, .int i tk]) : x1 ≠ it := by
  rintro rfl
  cases h1.symm.trans ho
  cases d1.symm.trans hd
  cases c1
/-- StopIteration raised while an error is handled: a new object more, the rest stays -/
theorem stop_hot {α : Type} {Q : α → Shared → Prop} {x1 : Addr} (hot : HotAt A x1 s.heap)
    (hE : ∀ (a : Addr) (h' : Heap), (∀ b o, s.heap.get? b = some o → h'.get? b = some o) → ({ s with heap := h' } : Shared).TypeIs (.ref a) "StopIteration" → E (.ref a) { s with heap := h' }) :
    wpAny (model prog w) A ((newExc (.type "StopIteration") [] >>= fun e => raiseNew e) : Sem α) Q E s := by
  obtain ⟨hh, o1, vs1, h1, d1, c1⟩ := hot
  have up : ∀ {c1 c2 : Obj} {b : Addr} {o : Obj}, s.heap.get? b = some o → ((s.heap.push c1).push c2).get? b = some o := fun e => Heap.get?_push_of_some _ (Heap.get?_push_of_some _ e)
  refine wpAny_bind ?_
  simp only [newExc, newTuple]
  refine wpAny_bind (wpAny_newObj_type ?_ (by size_fits))
  have none_ : ∀ {R : Value → Shared → Prop} {s' : Shared}, R .none s' → wpAny (model prog w) A (firstArgMember (.type "StopIteration") []) R E s' := fun r => wpAny_of_eq (a := Value.none) (by first | rfl | (simp only [firstArgMember]; rfl)) r
  refine wpAny_bind (none_ (wpAny_newObj_type ?_ (by size_fits)))
  refine raiseNew_hot ⟨hh, o1, vs1, up h1, d1, c1⟩ (Nat.ne_of_lt (Heap.lt_size (Heap.get?_push_of_some _ h1))) (Heap.get?_push_size _ rfl) rfl (by first | (simp; done) | (simp; omega) | (simp only [Array.size_append]; simp; omega)) ?_
  refine hE _ _ (fun b o e => ?_) ⟨_, Heap.get?_update_self _ (Heap.get?_push_size _ rfl) rfl, rfl⟩
  rw [Heap.get?_update_other _ _ (Nat.ne_of_gt (Heap.lt_size (Heap.get?_push_of_some _ e)))]
  exact up e
theorem list_end_hot {it l x1 : Addr} {i : Nat} {items : Array Value} {Q : Option Value → Shared → Prop} (hot : HotAt A x1 s.heap) (hit : s.heap.IsListIter it l i) (hl : s.heap.IsList l items) (hx : items[i]? = none)
    (hQ : ∀ h', Heap.ExtBut it s.heap h' → Q none { s with heap := h' }) : wpAny (model prog w) A (pyNext (.ref it)) Q E s := by
  obtain ⟨o, ho, hc, hd⟩ := id hit
  obtain ⟨ol, hol, _, nl, hdl⟩ := hl
  obtain ⟨hh, o1, vs1, h1, d1, c1⟩ := hot
  have ne := no_iter h1 d1 c1 ho hd
  unfold pyNext
  have run := fun (R : Value → Shared → Prop) (F : Value → Shared → Prop) (hF : ∀ (a : Addr) (h' : Heap), Heap.ExtBut it s.heap h' → ({ s with heap := h' } : Shared).TypeIs (.ref a) "StopIteration" → F (.ref a) { s with heap := h' }) =>
    (wpAny_call_entry (prog := prog) (w := w) (A := A) (E := F) (s := s) (rest := []) (Q := R) slot_listiter_next hit.typeIs entry_listiter_next (by
      refine wpAny_bind (m := field (.ref it) 0) (wpAny_field ho hd (x := .ref l) rfl ?_)
      show wpAny _ A.in1 (if (Value.ref l == Value.none) = true then _ else _) _ F s
      rw [if_neg (by exact Bool.false_ne_true)]
      refine wpAny_bind (m := field (.ref it) 1) (wpAny_field ho hd (x := .int i 0) rfl ?_)
      refine wpAny_bind (m := seqItems? (.ref l)) (wpAny_seqItems hol hdl ?_)
      simp only [Int.toNat_natCast, hx]
      refine wpAny_bind (wpAny_rule (wpAny_bind (wpAny_setField ho hd (by simp) ?_)))
      refine stop_hot (x1 := x1) ⟨hh, o1, vs1, (Heap.get?_update_other _ _ (Ne.symm ne)).trans h1, d1, c1⟩ fun a h' k ty => hF a h' (fun b o hb e => k b o ?_) ty
      rw [Heap.get?_update_other _ _ (Ne.symm hb)]
      exact e) (args_listiter_next _))
  refine wpAny_bind (wpAny_attempt (wpAny_callSpecial?_slot hit.typeIs slot_listiter_next (run _ _ fun a h' k ty => ?_)))
  exact wpAny_bind (wpAny_isInstance (b := true) ty isSubtype_stop (wpAny_pure (hQ h' k)))
theorem tup_end_hot {it l x1 : Addr} {i : Nat} {items : Array Value} {Q : Option Value → Shared → Prop} (hot : HotAt A x1 s.heap) (hit : IsTupIter s.heap it l i) (hl : IsTup s.heap l items) (hx : items[i]? = none)
    (hQ : ∀ h', Heap.ExtBut it s.heap h' → Q none { s with heap := h' }) : wpAny (model prog w) A (pyNext (.ref it)) Q E s := by
  obtain ⟨o, ho, hc, hd⟩ := id hit
  obtain ⟨ol, hol, _, nl, hdl⟩ := hl
  obtain ⟨hh, o1, vs1, h1, d1, c1⟩ := hot
  have ne := no_iter h1 d1 c1 ho hd
  unfold pyNext
  have run := fun (R : Value → Shared → Prop) (F : Value → Shared → Prop) (hF : ∀ (a : Addr) (h' : Heap), Heap.ExtBut it s.heap h' → ({ s with heap := h' } : Shared).TypeIs (.ref a) "StopIteration" → F (.ref a) { s with heap := h' }) =>
    (wpAny_call_entry (prog := prog) (w := w) (A := A) (E := F) (s := s) (rest := []) (Q := R) slot_tupleiter_next hit.typeIs entry_tupleiter_next (by
      refine wpAny_bind (m := field (.ref it) 0) (wpAny_field ho hd (x := .ref l) rfl ?_)
      show wpAny _ A.in1 (if (Value.ref l == Value.none) = true then _ else _) _ F s
      rw [if_neg (by exact Bool.false_ne_true)]
      refine wpAny_bind (m := field (.ref it) 1) (wpAny_field ho hd (x := .int i 0) rfl ?_)
      refine wpAny_bind (m := seqItems? (.ref l)) (wpAny_seqItems hol hdl ?_)
      simp only [Int.toNat_natCast, hx]
      refine wpAny_bind (wpAny_rule (wpAny_bind (wpAny_setField ho hd (by simp) ?_)))
      refine stop_hot (x1 := x1) ⟨hh, o1, vs1, (Heap.get?_update_other _ _ (Ne.symm ne)).trans h1, d1, c1⟩ fun a h' k ty => hF a h' (fun b o hb e => k b o ?_) ty
      rw [Heap.get?_update_other _ _ (Ne.symm hb)]
      exact e) (args_tupleiter_next _))
  refine wpAny_bind (wpAny_attempt (wpAny_callSpecial?_slot hit.typeIs slot_tupleiter_next (run _ _ fun a h' k ty => ?_)))
  exact wpAny_bind (wpAny_isInstance (b := true) ty isSubtype_stop (wpAny_pure (hQ h' k)))
end
end GH
set_option Elab.async false
set_option linter.all false
set_option maxRecDepth 100000
set_option maxHeartbeats 4000000
namespace GH
open PySem PySem.Spec PyProof.Rows L2 L2H HotX
section
variable {prog : Program} {w : World} {A : Around} {E : Value → Shared → Prop} {s : Shared}
theorem HotAt.ext {x1 : Addr} {h h' : Heap} (hot : HotAt A x1 h) (k : ∀ b o, h.get? b = some o → h'.get? b = some o) : HotAt A x1 h' := by
  obtain ⟨hh, o, vs, h1, d, c⟩ := hot
  exact ⟨hh, o, vs, k _ _ h1, d, c⟩
theorem hot_lt {x1 : Addr} {h : Heap} (hot : HotAt A x1 h) : x1 < h.objs.size := by
  obtain ⟨_, o, vs, h1, _, _⟩ := hot
  exact Heap.lt_size h1
theorem parts_hot {t x1 : Addr} {items : Array Value} {Q : List Value → Shared → Prop} (hot : HotAt A x1 s.heap) (ht : IsTup s.heap t items)
    (hQ : ∀ h', Heap.ExtBut s.heap.objs.size s.heap h' → Q items.toList { s with heap := h' }) : wpAny (model prog w) A (unpackItems (.ref t) items.size none) Q E s := by
  have hlt : t < s.heap.objs.size := by obtain ⟨o, ho, _⟩ := ht; exact Heap.lt_size ho
  have hx := hot_lt hot
  unfold unpackItems
  refine wpAny_bind ?_
  unfold notIterableAtAll
  refine wpAny_bind (wpAny_specialOf ht.typeIs slot_tuple_iter.lookup (wpAny_pure ?_))
  simp only [Bool.false_eq_true, if_false]
  refine wpAny_bind (wpAny_holding (iter_tuple ht (wpAny_bind (wpAny_holding (draw_tuple (Nat.ne_of_lt hlt) items.size 0 _ _ ⟨_, Heap.get?_push_size _ rfl, rfl, rfl⟩ (ht.push _) (by omega) fun h1 hit hs => ?_)))))
  have hall : (items.toList.drop 0).take items.size = items.toList := List.take_of_length_le (by simp)
  rw [hall, if_neg (by simp)]
  have hot1 : HotAt A x1 h1 := by
    obtain ⟨hh, o, vs, g, d, c⟩ := hot
    exact ⟨hh, o, vs, hs.extBut _ _ (Nat.ne_of_lt hx) (Heap.get?_push_of_some _ g), d, c⟩
  have ht1 : IsTup h1 t items := (ht.push _).extBut hs.extBut (Nat.ne_of_lt hlt)
  refine wpAny_bind (wpAny_holding (tup_end_hot (s := { s with heap := h1 }) hot1 hit ht1 (by simp) fun h2 he => ?_))
  simp only [Option.isSome_none, Bool.false_eq_true, if_false]
  exact wpAny_pure (hQ h2 fun b o hb e => he b o hb (hs.extBut b o hb (Heap.get?_push_of_some _ e)))
end
/-- what a block's context keeps of the handled error -/
structure HotB (X : Cx) (p : Addr × Obj) : Prop where
  hot : Hot1 X.A p
  get : X.s_0.heap.get? p.1 = some p.2
  free : X.H_0 p.1 = none
  nofs : p.1 ∉ X.fs
  noex : p.1 ∉ X.ex
section
variable {X : Cx} {p : Addr × Obj} {pins : List (Addr × Obj)} {σ : L2.St} {H : Hp} {s : Shared}
theorem HotB.at (b : HotB X p) (I : Inv X pins σ H s) : HotAt X.A p.1 s.heap := by
  obtain ⟨hh, vs, d, c⟩ := b.hot
  exact ⟨hh, p.2, vs, I.base.keep _ _ b.get b.free b.nofs b.noex, d, c⟩
theorem pg_tupH {es : List Expr} {k : Nat} {t : TGs} {n : Nat} {pos : Pos} (b : HotB X p) (h : PGs X es t)
    (hn : (assignEach es X.env).length = n := by rfl) (hst : (assignEach es X.env).findIdx? (·.1) = none := by rfl) : PG X (.Tuple es k pos) (gTup X.K n t) := by
  refine ⟨fun pins s σ H v u Q I r hw => ?_⟩
  obtain ⟨a, xs, rfl, hq, hl, hw⟩ := hw
  cases r
  obtain ⟨its, rv, ht, hz⟩ := I.tuple hq
  have hsz : (assignEach es X.env).length = its.toArray.size := by simp [hn, ← hl, rv.length]
  rw [assign_Tuple]
  refine wpAny_bind (wpAny_standAt ?_)
  unfold unpack
  rw [hsz, hst]
  refine wpAny_bind (wpAny_holding (parts_hot (b.at I) ht fun h' hx => ?_))
  have I1 : Inv X pins σ H { s with heap := h' } := I.kept (t' := s.toks) fun b o e => hx b o (Nat.ne_of_lt (Heap.lt_size e)) e
  exact h.run pins _ σ H xs _ Q I1 (by simpa using rv) hw
end
end GH
set_option Elab.async false
set_option linter.all false
set_option maxRecDepth 100000
set_option maxHeartbeats 4000000
namespace GH
open PySem PySem.Spec PyProof.Rows L2 L2H HotX
section
variable {X : Cx} {p : Addr × Obj}
/-- the block of [elt for tg in a list if ..] where an error is handled; what uses the list comes behind it -/
theorem lcH {pins : List (Addr × Obj)} {s : Shared} {σ : L2.St} {H : Hp} {Q : VK} {elt tg l : Expr} {ifs : List Expr} {scope : Scope} {own : List (Str × Nat)} {pos pos' : Pos} {tl : TE} {g : TG} {tt : TT} {te : TE} {use : Option (Value → Sem Unit)} {Qf : Value → Shared → Prop}
    (hp : Hot1 X.A p) (hin : p ∈ X.pn) (hN : X.N.Nodup) (I : Inv X pins σ H s) (hl : PE X l tl) (ok : BlkOk X.N X.env.scope scope own)
    (hg : ∀ (s : Shared) (H : Hp) (C : Addr) (cl : List (Str × Addr)) (fp : List Addr), HotB (X.blk s H scope (compEnvC scope cl C X.env) fp) p → PG (X.blk s H scope (compEnvC scope cl C X.env) fp) tg g)
    (ht : ∀ (s : Shared) (H : Hp) (C : Addr) (cl : List (Str × Addr)) (fp : List Addr), PTs (X.blk s H scope (compEnvC scope cl C X.env) fp) ifs tt)
    (he : ∀ (s : Shared) (H : Hp) (C : Addr) (cl : List (Str × Addr)) (fp : List Addr), PE (X.blk s H scope (compEnvC scope cl C X.env) fp) elt te) (hs : ∀ x, foldedSetIterable l X.env x = pure x)
    (h : tLc (iList X.K tl) g tt te (own.map (·.2)) σ H Q)
    (out : ∀ (D C : Addr) (s' : Shared) (m : Str → Option Value) (H' : Hp), Inv X pins σ H' s' → Q (.ref D) H' → s'.heap.Ns C m → FpOk X pins H' C → compPost (model X.prog X.w) X.A X.xe use Qf (.ref D) C (.ok .next) s') :
    wpAny (model X.prog X.w) X.A (comprehension (.ListComp elt [⟨tg, l, ifs, 0⟩] scope pos) scope X.env pos' (newList []) false (eval l X.env) use) Qf X.xe s := by
  have cells : ∀ y ∈ scope.names, y.2 = .free → ∃ c, X.env.cells.lookup y.1 = some c := fun y hy e => (ok.free y hy e).elim (fun k => I.ok.has _ (.inl k)) (fun k => I.ok.has _ (.inr k))
  refine wpAny_comprehension_free (use := use) rfl hs (closure_ok cells) ok.kind (fun y hy e => by rw [ok.uniq y hy, e]) (thn (hl.run pins s σ H _ I h) fun v s1 hv => ?_)
  obtain ⟨x, H1, I1, rx, a, rfl, ⟨xs, hxs⟩, q⟩ := hv
  cases (show v = Value.ref a from rx)
  obtain ⟨us, rv, pl, hz⟩ := I1.list hxs
  refine wpAny_pyIter_list pl.isList ?_
  -- the iterator
  have Ii : Inv X pins σ H1 { s1 with heap := s1.heap.push { cls := .type "list_iterator", data := .fields #[.ref a, .int 0 0] } } := I1.kept (t' := s1.toks) fun b o e => Heap.get?_push_of_some _ e
  generalize hit : s1.heap.objs.size = it
  have fi : FpOk X pins H1 it := by rw [← hit]; exact I1.fpOk (Nat.le_refl _) (I1.hok.fresh (Nat.le_refl _))
  have ti : (s1.heap.push { cls := .type "list_iterator", data := .fields #[.ref a, .int 0 0] }).IsListIter it a 0 := by rw [← hit]; exact ⟨_, Heap.get?_push_size _ rfl, rfl, rfl⟩
  generalize hs2 : ({ s1 with heap := s1.heap.push { cls := .type "list_iterator", data := .fields #[.ref a, .int 0 0] } } : Shared) = s2 at Ii
  have h2 : s2.heap = s1.heap.push { cls := .type "list_iterator", data := .fields #[.ref a, .int 0 0] } := by rw [← hs2]
  rw [← h2] at ti
  refine wpAny_newObj_type (newEnv_comp ?_) (by show 0 ≤ sizeLine; decide)
  generalize hD : s2.heap.objs.size = D
  have nD : H1 D = none := Ii.hok.fresh (Nat.le_of_eq hD)
  obtain ⟨W, ⟨m0, w0⟩, turn⟩ := q D nD
  -- the new list
  generalize hs3 : ({ s2 with heap := s2.heap.push { cls := .type "list", data := .seq ([] : List Value).toArray } } : Shared) = s3
  have h3 : s3.heap = s2.heap.push { cls := .type "list", data := .seq ([] : List Value).toArray } := by rw [← hs3]
  have I3 : Inv X pins σ (upd H1 D (.lst [])) s3 := by
    rw [← hs3]
    refine Ii.laid (t' := s2.toks) (fun b o e => Heap.get?_push_of_some _ e) (Nat.le_of_eq hD) ⟨Nat.zero_le _, [], 0, .nil, ?_⟩
    rw [← hD]
    exact Heap.get?_push_size _ rfl
  have lit : it < s2.heap.objs.size := by obtain ⟨o, e, _⟩ := ti; exact Heap.lt_size e
  have f3 : FpOk X pins (upd H1 D (.lst [])) it ∧ it < s3.heap.objs.size := by
    refine ⟨⟨?_, fi.2⟩, by rw [h3, Heap.size_push]; exact Nat.lt_succ_of_lt lit⟩
    rw [upd_ne (by rw [← hD]; exact Nat.ne_of_lt lit)]
    exact fi.1
  have t3 : s3.heap.IsListIter it a 0 := by
    rw [h3]
    obtain ⟨o, e, c, d⟩ := ti
    exact ⟨o, Heap.get?_push_of_some _ e, c, d⟩
  have f3' : ∀ b ∈ [it], FpOk X pins (upd H1 D (.lst [])) b ∧ b < s3.heap.objs.size := fun b hb => by rw [List.mem_singleton.mp hb]; exact f3
  have I4 := block_start I3 ok hN f3'
  have pp := I3.pin p (List.mem_append_left _ hin)
  have hb : HotB (X.blk s3 (upd H1 D (.lst [])) scope (compEnvC scope (cellsFrom (s3.heap.objs.size + 1) scope.names (cloFrom X.env.cells scope.names [])) s3.heap.objs.size X.env) [it]) p :=
    ⟨hp, pp.1, pp.2.1, fun hm => (List.mem_cons.mp (I3.stkSub p.1 hm)).elim pp.2.2.1 pp.2.2.2.1, fun z => f3.1.2.2.2.2.2 p (List.mem_append_left _ hin) (List.mem_singleton.mp z)⟩
  have pg := hg s3 (upd H1 D (.lst [])) s3.heap.objs.size (cellsFrom (s3.heap.objs.size + 1) scope.names (cloFrom X.env.cells scope.names [])) [it] hb
  have pt := ht s3 (upd H1 D (.lst [])) s3.heap.objs.size (cellsFrom (s3.heap.objs.size + 1) scope.names (cloFrom X.env.cells scope.names [])) [it]
  have pe := he s3 (upd H1 D (.lst [])) s3.heap.objs.size (cellsFrom (s3.heap.objs.size + 1) scope.names (cloFrom X.env.cells scope.names [])) [it]
  generalize hce : compEnvC scope (cellsFrom (s3.heap.objs.size + 1) scope.names (cloFrom X.env.cells scope.names [])) s3.heap.objs.size X.env = ce at I4 hb pg pt pe
  have cL : ce.locals = s3.heap.objs.size := by rw [← hce]; rfl
  have nit : (upd H1 D (.lst [])) it = none := f3.1.1
  generalize hH3 : upd H1 D (.lst []) = H3 at I3 I4 hb pg pt pe w0 nit f3 f3'
  generalize hs4 : ({ s3 with heap := pushCells (s3.heap.push { cls := .type "dict", data := .dict #[] }) scope.names } : Shared) = s4 at I4
  have t4 : s4.heap.IsListIter it a 0 := by
    obtain ⟨o, e, c, d⟩ := t3
    rw [← hs4]
    exact ⟨o, pushCells_keeps _ _ _ _ (Heap.get?_push_of_some _ e), c, d⟩
  have fpk : ∀ {σ' : L2.St} {H' : Hp} {s' : Shared}, Inv (X.blk s3 H3 scope ce [it]) [] σ' H' s' → H' it = none → FpOk (X.blk s3 H3 scope ce [it]) [] H' it := fun {σ' H' s'} I' hn =>
    ⟨hn, (I'.ok.exf it (List.mem_singleton.mpr rfl)).1, I'.ok.exfs it (List.mem_singleton.mpr rfl), .inl (List.mem_singleton.mpr rfl), fun x c e => (I'.ok.exf it (List.mem_singleton.mpr rfl)).2 x c e, fun r hr => absurd (show r ∈ ([] : List (Addr × Obj)) ++ [] from hr) (by simp)⟩
  have loop : codeAny (model X.prog X.w) X.A (.compLoop (.ListComp elt [⟨tg, l, ifs, 0⟩] scope pos) 0 (.ref it) (.ref D) ce) (compPost (model X.prog X.w) X.A X.xe use Qf (.ref D) s3.heap.objs.size) s4 := by
    refine compLoop_any (fun n s' => ∃ i H', Inv (X.blk s3 H3 scope ce [it]) [] (wipe σ (own.map (·.2))) H' s' ∧ s'.heap.IsListIter it a i ∧ H' it = none ∧ W i n H') ?_ m0 ⟨0, H3, I4, t4, nit, w0⟩
    rintro n s5 ⟨i, H5, I5, t5, n5, w5⟩
    rcases turn i n H5 w5 with ⟨⟨ys, hys, hle⟩, qq⟩ | ⟨⟨ys, y, hys, hy⟩, Nx, hNx, step⟩
    · -- the list is used up
      obtain ⟨vs, r5, p5, _⟩ := I5.list hys
      obtain ⟨g0, g1, g2, g3, g4, g5⟩ := fpk I5 n5
      refine thnF (list_end_hot (E := fun _ _ => False) (hb.at I5) t5 p5.isList (by have := r5.length; simp; omega) (Q := fun r s6 => r = none ∧ Inv (X.blk s3 H3 scope ce [it]) [] (wipe σ (own.map (·.2))) H5 s6) fun h' eb => ⟨rfl, I5.turned (t' := s5.toks) (fun b o k e => eb b o k e) g0 g1 g3 g4 g5⟩) fun r s6 hr => ?_
      obtain ⟨rfl, I6⟩ := hr
      have I7 : Inv X pins σ H5 s6 := I3.call' (ch := [it]) I6.os I6.base I6.hok I6.bare fun b hb => ⟨(f3' b hb).1.2.2.2.1, (f3' b hb).1.2.1, (f3' b hb).1.2.2.2.2.1, (f3' b hb).1.2.2.2.2.2⟩
      have nC : H5 s3.heap.objs.size = none := cL ▸ I6.free
      obtain ⟨m, hn, _⟩ := I6.loc
      have hn : s6.heap.Ns ce.locals m := hn
      rw [cL] at hn
      exact out D s3.heap.objs.size s6 m H5 I7 qq hn (I3.fpOk (Nat.le_refl _) nC)
    · -- one more
      obtain ⟨vs, r5, p5, _⟩ := I5.list hys
      obtain ⟨u, hu, ru⟩ := r5.get hy
      obtain ⟨g0, g1, g2, g3, g4, g5⟩ := fpk I5 n5
      refine thnF (wpAny_pyNext_list_item (E := fun _ _ => False) t5 p5.isList (x := u) (by simpa using hu) (Q := fun r s6 => r = some u ∧ Inv (X.blk s3 H3 scope ce [it]) [] (wipe σ (own.map (·.2))) H5 s6 ∧ s6.heap.IsListIter it a (i + 1)) fun h' st' sb => ⟨rfl, I5.turned (t' := s5.toks) (fun b o hb e => (sb.2 b hb).trans e) g0 g1 g3 g4 g5, st'⟩) fun r s6 hr => ?_
      obtain ⟨rfl, I6, t6⟩ := hr
      obtain ⟨o6, e6, c6, d6⟩ := id t6
      refine go_of e6 c6 d6 (by decide) ?_
      have I6' := I6.pinned (fp := [it]) (fun b hb => by rw [List.mem_singleton.mp hb]; exact fpk I6 n5) (fun b hb => by rw [List.mem_singleton.mp hb]; exact ⟨o6, e6, fun v z => by rw [d6] at z; cases z⟩)
      have mine : (it, o6) ∈ ([] : List (Addr × Obj)) ++ pinsAt [it] s6.heap := List.mem_append_right _ (mem_pinsAt (List.mem_singleton.mpr rfl) e6)
      refine thnF (pg.run _ s6 _ H5 y u _ I6' ru (step y H5 ⟨rfl, fun zs hzs => by rw [I5.list_inj hzs hys]; exact hy⟩)) fun _ s8 ⟨σ8, H8, I8, hw8, q8⟩ => ?_
      refine thnF (pt.run _ s8 σ8 H8 _ I8 q8) fun b s9 ⟨H9, I9, q9⟩ => ?_
      have fin : ∀ {s' : Shared} {H' : Hp}, Inv (X.blk s3 H3 scope ce [it]) ([] ++ pinsAt [it] s6.heap) σ8 H' s' → Nx H' → ∃ m, m < n ∧ ∃ i H', Inv (X.blk s3 H3 scope ce [it]) [] (wipe σ (own.map (·.2))) H' s' ∧ s'.heap.IsListIter it a i ∧ H' it = none ∧ W i m H' := fun {s' H'} I' nx => by
        obtain ⟨m', hm, w'⟩ := hNx H' nx
        have kept := I'.pin (it, o6) (List.mem_append_right _ mine)
        have hl : (wipe σ (own.map (·.2))).length = σ8.length := by rw [← hw8, wipe_length]
        refine ⟨m', hm, i + 1, H', (I'.unpinned (pins := [])).weak hl (fun j v e => ?_), ⟨o6, kept.1, c6, d6⟩, kept.2.1, w'⟩
        rw [← hw8] at e
        exact (wipe_some e).1
      cases b with
      | false =>
        simp only [Bool.false_eq_true, if_false] at q9 ⊢
        exact fin I9 q9
      | true =>
        simp only [if_true] at q9 ⊢
        refine thnF (pe.run _ s9 σ8 H9 _ I9 q9) fun z s10 ⟨yv, H10, I10, r10, acc, hD10, hz10, nx⟩ => ?_
        exact app_ok (X := X.blk s3 H3 scope ce [it]) I10 hD10 hz10 r10 fun s11 I11 => fin I11 nx
  rw [← hce] at loop
  exact codeAny_compStart_list loop (wpAny_pyIter_listiter t4 loop)
/-- as a value -/
theorem pe_lcH {elt tg l : Expr} {ifs : List Expr} {scope : Scope} {own : List (Str × Nat)} {pos : Pos} {tl : TE} {g : TG} {tt : TT} {te : TE} (hp : Hot1 X.A p) (hin : p ∈ X.pn) (hN : X.N.Nodup) (hl : PE X l tl) (ok : BlkOk X.N X.env.scope scope own)
    (hg : ∀ (s : Shared) (H : Hp) (C : Addr) (cl : List (Str × Addr)) (fp : List Addr), HotB (X.blk s H scope (compEnvC scope cl C X.env) fp) p → PG (X.blk s H scope (compEnvC scope cl C X.env) fp) tg g)
    (ht : ∀ (s : Shared) (H : Hp) (C : Addr) (cl : List (Str × Addr)) (fp : List Addr), PTs (X.blk s H scope (compEnvC scope cl C X.env) fp) ifs tt)
    (he : ∀ (s : Shared) (H : Hp) (C : Addr) (cl : List (Str × Addr)) (fp : List Addr), PE (X.blk s H scope (compEnvC scope cl C X.env) fp) elt te) (hs : ∀ x, foldedSetIterable l X.env x = pure x := by intro _; rfl) :
    PE X (.ListComp elt [⟨tg, l, ifs, 0⟩] scope pos) (tLc (iList X.K tl) g tt te (own.map (·.2))) := by
  refine ⟨fun pins s σ H Q I h => ?_⟩
  rw [eval_ListComp]
  refine lcH hp hin hN I hl ok hg ht he hs h fun D C s' m H' I' q hn f => ⟨m, hn, fun h'' sb => ?_⟩
  obtain ⟨k0, k1, k2, k3, k4, k5⟩ := f
  exact ⟨.ref D, H', I'.turned (t' := s'.toks) (fun b o hb e => (sb.2 b hb).trans e) k0 k1 k3 k4 k5, rfl, q⟩
end
end GH
set_option Elab.async false
set_option linter.all false
set_option maxRecDepth 100000
set_option maxHeartbeats 4000000
namespace GH
open PySem PySem.Spec PyProof.Rows L2 L2H HotX
/-- what a def promises where just the error p is handled -/
structure FnAt (p : Addr × Obj) (P : Program) (w : World) (K : PySem.W.Frag) (mg : Str → Option Value) (base : Heap) (k : Nat) (f : Addr) (fd : FuncData) (ps : List Str) (sp : Sp) : Prop where
  len : ∀ vs H Q E, sp vs H Q E → vs.length = ps.length
  run : ∀ (A : Around) (outer : List Env) (s : Shared) (H : Hp) (args : Args) (us : List Value) (vs : List V) (Q : VK), RoomH k A → Hot1 A p → PinOk outer H s p → Env0 P w K mg base A outer s H → BindsTo s fd args (ps.zip us) → Vals vs us → sp vs H Q (fun _ _ _ => False) →
    codeAny (model P w) A (.call (.ref f) args) (CR CX0 outer P w H s Q fun _ _ _ => False) s
theorem fnAt_of {p : Addr × Obj} {P : Program} {w : World} {K : PySem.W.Frag} {mg : Str → Option Value} {base : Heap} {k : Nat} {x qual : Str} {params : Arguments} {body : List Stmt} {scope : Scope} {f : Addr} {fd : FuncData} {N ps : List Str} {sp : Sp}
    (F : FunD K x qual params body scope [] [] f fd) (S : FnScope N ps scope) (len : ∀ vs H Q E, sp vs H Q E → vs.length = ps.length)
    (hbody : ∀ (cdv : Value) (A : Around) (outer : List Env) (s : Shared) (H : Hp) (vs : List V) (Q : VK), Hot1 A p → RoomH k (A.deeper (envOfC qual scope s.heap.objs.size f cdv)) → sp vs H Q (fun _ _ _ => False) →
      ∃ t, PSs (cxH CX0 P w K mg base N qual scope f cdv A outer s H (fun _ _ _ => False) p) body t ∧ t { nx := fun _ H' => Q .non H', rt := Q } (L2.start N vs) H) : FnAt p P w K mg base (k + 1) f fd ps sp := by
  obtain ⟨oc, od, dV, kV, doc, pm, an, cdv, ct, osl, e, lk, hcd, _, _⟩ := F.ex
  subst e
  refine ⟨len, fun A outer s H args us vs Q hr hot hpin e0 hb r hsp => ?_⟩
  have up : ∀ b o, base.get? b = some o → s.heap.get? b = some o := fun b o e => (e0.bs b o e).1
  have KX := e0.mod.kin.keeps up
  have lim := e0.mod.nolimit.keeps up
  have kinds : ∀ y ∈ ps.zip us, scope.names.lookup y.1 = some .local ∨ (scope.names.lookup y.1 = some .cell ∧ ((cellsFrom (s.heap.objs.size + 1) scope.names []).lookup y.1).isSome = true) := by
    rintro ⟨n, v⟩ hy
    refine (S.par n (List.of_mem_zip hy).1).imp id fun q => ⟨q, ?_⟩
    exact PySem.W.cellsFrom_some _ _ _ (.inl q)
  refine codeAny_call_function hr.depth (KX _ _ lk) rfl S.co S.gen rfl (PySem.W.codeRec_of KX hcd) (hb _ _ _ _ ?_)
  refine wpAny_newFunctionEnv_cells S.kind kinds fun env he s1 inC => ?_
  subst he
  refine ⟨lim.keeps inC.toInCall.keep, codeAny_func ?_⟩
  obtain ⟨t, ht, hq⟩ := hbody cdv A outer s H vs Q hot (hr.deeper _) hsp
  have I : Inv (cxH CX0 P w K mg base N qual scope f cdv A outer s H (fun _ _ _ => False) p) [] (L2.start N vs) H s1 := inv_startH S hpin e0 (len _ _ _ _ hsp) r inC
  refine wpAny_mono (ht.run [] s1 (L2.start N vs) H _ I hq) (fun fl s' hs => ?_) fun e s' hs => hs
  cases fl with
  | ret u =>
    obtain ⟨v, σ', H', J, rv, q⟩ := hs
    exact ⟨v, H', J.os, J.bare, J.base, J.hok, rv, q⟩
  | next =>
    obtain ⟨σ', H', J, q⟩ := hs
    exact ⟨.non, H', J.os, J.bare, J.base, J.hok, rfl, q⟩
  | brk => exact hs.elim fun _ z => z.elim fun _ z => z.2.elim
  | cont => exact hs.elim fun _ z => z.elim fun _ z => z.2.elim
section
variable {X : Cx} {p : Addr × Obj} {k : Nat} {f : Addr} {fd : FuncData} {ps : List Str} {sp : Sp} {x : Str} {q pos : Pos} {e : Expr} {es : List Expr} {t : TA}
theorem pe_callAt (F : FnAt p X.prog X.w X.K X.mg X.base k f fd ps sp) (hr : RoomH k X.A) (hot : Hot1 X.A p) (hin : p ∈ X.pn) (hg : Gl X x) (hm : X.mg x = some (.ref f)) (hk : PySem.W.keepIn X.K (.ref f) = true) (hb : Binds X.K fd ps [])
    (ha : PA X (e :: es) t) (hdb : (x == ("__debug__" : Str)) = false := by decide) (he : starEach (e :: es) X.env = (false, eval e X.env) :: starEach es X.env := by rfl) (hpl : (backTo pos (starEach es X.env)).any (·.1) = false := by rfl) :
    PE X (.Call (.Name x q) (e :: es) [] pos) (tCall sp [] (fun _ _ _ => False) t) := by
  refine ⟨fun pins s σ H Q I h => ?_⟩
  refine wpAny_Call_Name_kw (ld_glob I hg hm ?_ hdb)
  refine PySem.W.callWith_K (h₀ := X.base) I.ok.mod.kin hk (thn (ha.run pos pins s σ H _ I h) fun us s1 ⟨vs, H1, I1, r, h1⟩ => ⟨I1.kIn, ?_⟩) he hpl
  simp only [List.append_nil] at h1
  have hl : us.length = ps.length := by rw [← r.length]; exact F.len _ _ _ _ h1
  have b := hb s1 us I1.kIn (by rw [List.append_nil]; exact hl)
  rw [List.append_nil] at b
  have P1 := I1.pin p (List.mem_append_left _ hin)
  refine wpAny_call (codeAny_mono (F.run X.A X.stack s1 H1 ⟨us, []⟩ us vs Q hr hot ⟨P1.1, P1.2.1, fun hm => (List.mem_cons.mp (I1.stkSub p.1 hm)).elim P1.2.2.1 P1.2.2.2.1, P1.2.2.2.2⟩ I1.env0 b r h1) fun res s' hq => ?_)
  cases res with
  | error e => exact hq.elim
  | ok fl =>
    cases fl with
    | ret u => exact I1.after hq
    | next => exact hq.elim
    | brk => exact hq.elim
    | cont => exact hq.elim
/-- isinstance of the handled error -/
theorem call_isAt {D : Addr} (C : ExcC X.K D) (hz : Zc (.ref D) none p.2) (hf : ∃ vs, p.2.data = .fields vs) (hin : p ∈ X.pn) : CallR X (.builtin "isinstance") (rIsE X.K D p.1) := by
  intro pins s σ H xs us Q I r h
  obtain ⟨c, cv, b, rfl, hcv, e, q⟩ := h
  obtain ⟨u1, u2, rfl, rx, rt⟩ : ∃ u1 u2, us = [u1, u2] ∧ RelV (.ref p.1) u1 ∧ RelV c u2 := by
    cases r with
    | cons a r => cases r with
      | cons b r => cases r; exact ⟨_, _, rfl, a, b⟩
  cases (show u1 = Value.ref p.1 from rx)
  cases hcv _ rt
  have hget := (I.pin p (List.mem_append_left _ hin)).1
  have J : PySem.W.InstAt s.heap p.1 p.2 D none := by
    obtain ⟨⟨a, oc, od, oda, osl⟩, h1, h2, ⟨vs, hv⟩⟩ : ∃ z : Addr × Obj, z = p ∧ Zc (.ref D) none z.2 ∧ ∃ vs, z.2.data = .fields vs := ⟨p, rfl, hz, hf⟩
    subst h1
    obtain ⟨h2, h3⟩ := h2
    dsimp only at h2 h3 hv
    subst h2 h3 hv
    exact ⟨hget, rfl, rfl, trivial⟩
  exact PySem.W.kia_one (PySem.W.handS_kitx_exc C.hg C.hk C.hs C.hd C.ha C.hn C.ht C.hm) I.kIn J e (fun z => nomatch z) fun tk => ⟨.bl b, H, I.kept (t' := tk) fun _ _ z => z, rfl, q⟩
end
end GH
set_option Elab.async false
set_option linter.all false
set_option maxRecDepth 100000
set_option maxHeartbeats 4000000
namespace GH
open PySem PySem.Spec PyProof.Rows L2 L2H HotX
section
variable {X : Cx} {p : Addr × Obj}
/-- name = [..] on one line where an error is handled -/
theorem ps_setLcH {i : Nat} {y : Str} {py : Pos} {elt tg l : Expr} {ifs : List Expr} {scope : Scope} {own : List (Str × Nat)} {pos spos : Pos} {tl : TE} {g : TG} {tt : TT} {te : TE} (hp : Hot1 X.A p) (hin : p ∈ X.pn) (hN : X.N.Nodup) (hy : X.N[i]? = some y) (hyl : X.env.scope.names.lookup y = some .local)
    (hsw : swapsWith (.ListComp elt [⟨tg, l, ifs, 0⟩] scope pos) (some (.Name y py)) spos.line X.env = pure true) (hl : PE X l tl) (ok : BlkOk X.N X.env.scope scope own)
    (hg : ∀ (s : Shared) (H : Hp) (C : Addr) (cl : List (Str × Addr)) (fp : List Addr), HotB (X.blk s H scope (compEnvC scope cl C X.env) fp) p → PG (X.blk s H scope (compEnvC scope cl C X.env) fp) tg g)
    (ht : ∀ (s : Shared) (H : Hp) (C : Addr) (cl : List (Str × Addr)) (fp : List Addr), PTs (X.blk s H scope (compEnvC scope cl C X.env) fp) ifs tt)
    (he : ∀ (s : Shared) (H : Hp) (C : Addr) (cl : List (Str × Addr)) (fp : List Addr), PE (X.blk s H scope (compEnvC scope cl C X.env) fp) elt te) (hs : ∀ x, foldedSetIterable l X.env x = pure x := by intro _; rfl) :
    PS X (.Assign [.Name y py] (.ListComp elt [⟨tg, l, ifs, 0⟩] scope pos) spos) (tAsg (tLc (iList X.K tl) g tt te (own.map (·.2))) (gName i)) := by
  refine ⟨fun pins s σ H D I h => ?_⟩
  rw [exec_Assign_Name_used _ _ _ _ hsw]
  have h : tLc (iList X.K tl) g tt te (own.map (·.2)) σ H (fun x H1 => gName i x σ H1 D.nx) := h
  have store : ∀ (L C : Addr) (s' : Shared) (m : Str → Option Value) (H' : Hp), Inv X pins σ H' s' → gName i (.ref L) σ H' D.nx → s'.heap.Ns C m → FpOk X pins H' C → compPost (model X.prog X.w) X.A X.xe (some (assign (.Name y py) X.env)) (fun _ s' => SP X pins D .next s') (.ref L) C (.ok .next) s' := by
    intro L C s' m H' I' q hn f
    show wpAny _ _ (assign (.Name y py) X.env (.ref L)) _ _ _
    obtain ⟨f0, f1, f2, f3, f4, f5⟩ := f
    refine wpAny_assign_Name (store_ok2 (v := V.ref L) I' hN hy (.inl hyl) rfl (fun s2 I2 ⟨a, sb, ha⟩ => ?_) (.inr hyl))
    have apart : C ≠ a := ha.elim (fun z => z ▸ f1) fun z e => f4 y a z e.symm
    exact ⟨m, hn.sameBut sb apart, fun h3 sb3 => ⟨_, H', I2.turned (t' := s2.toks) (fun b o hb e => (sb3.2 b hb).trans e) f0 f1 f3 f4 f5, q⟩⟩
  refine wpAny_bind (wpAny_standAt (wpAny_bind ?_))
  show wpAny _ X.A (do
    let _ ← comprehension (.ListComp elt [⟨tg, l, ifs, 0⟩] scope pos) scope X.env (firstIterPos [⟨tg, l, ifs, 0⟩] pos) (newList []) false (eval l X.env) (some (assign (.Name y py) X.env))
    _) _ _ s
  exact wpAny_bind (thn (lcH (Qf := fun _ s' => SP X pins D .next s') hp hin hN I hl ok hg ht he hs h store) fun _ s' hq => wpAny_pure (wpAny_pure hq))
end
end GH
set_option Elab.async false
set_option linter.all false
set_option maxRecDepth 100000
set_option maxHeartbeats 4000000
namespace Bo
open PySem PySem.Spec PyProof.Rows L2 GE GH
/-- the classes of error, in the law's order -/
structure Err (K : PySem.W.Frag) (ca : Nat → Addr) : Prop where
  exc : ∀ i, i < 4 → ExcC K (ca i)
  kit : ∀ i j, i < 4 → j < 5 → PySem.W.kitOne K (.ref (ca i)) (.ref (ca j)) = Option.some (decide (i = j))
  ve : ∀ i, i < 4 → PySem.W.kitOne K (.ref (ca i)) (.type "ValueError") = Option.some true
def word : Nat → Str
  | 0 => "letters" | 1 => "pattern" | 2 => "great" | 3 => "text" | _ => "room"
def spKi (i : Nat) (a : Addr) : Sp := fun vs H Q _ => vs = [.ref a] ∧ ∀ r H', H r = Option.none → Ext H H' → H' r = Option.some (.lst [.str (word i)]) → Q (.ref r) H'
section
variable {P : Program} {w : World} {K : PySem.W.Frag} {mg : Str → Option Value} {base : Heap}
theorem scKi : FnScope ["_law_error", "_law_found", "_law_word", "_law_is_one"] ["_law_error"] (defScope sLawKind) := ⟨rfl, rfl, rfl, by decide +kernel, rfl, by decide +kernel, by decide +kernel⟩
theorem ki_ok {f : Addr} {fd : FuncData} {p : Addr × Obj} {ca : Nat → Addr} {i : Nat} (F : FnP K "_law_kind" sLawKind f fd) (er : Err K ca) (hi : i < 4) (hz : Zc (.ref (ca i)) Option.none p.2) (hf : ∃ vs, p.2.data = .fields vs)
    (m0 : mg "NoLetters" = Option.some (.ref (ca 0))) (m1 : mg "NoPattern" = Option.some (.ref (ca 1))) (m2 : mg "TooGreat" = Option.some (.ref (ca 2))) (m3 : mg "NoText" = Option.some (.ref (ca 3))) (m4 : mg "NoRoom" = Option.some (.ref (ca 4)))
    (mi : mg "isinstance" = none) (mn : mg "int" = none) (ml : mg "len" = none) (mv : mg "ValueError" = none) : FnAt p P w K mg base 1 f fd ["_law_error"] (spKi i p.1) := by
  refine fnAt_of F scKi (fun vs H Q E h => ?_) (fun cdv A outer s H vs Q hot hr h => ?_)
  · obtain ⟨rfl, _⟩ := h
    rfl
  obtain ⟨rfl, q⟩ := h
  have is_ : ∀ {X : Cx}, X.K = K → p ∈ X.pn → CallR X (.builtin "isinstance") (rIsE X.K (ca i) p.1) := fun hK hin => call_isAt (hK ▸ er.exc i hi) hz hf hin
  have pin : ∀ {X : Cx}, X.pn = [p] → p ∈ X.pn := fun h => h ▸ List.mem_singleton.mpr rfl
  refine ⟨_, pss_cons (ps_set (i := 1) scKi.nd rfl (Or.inl rfl) (pe_lst (pa_cons (pe_tup (pa_cons pe_str (pa_cons (pe_callB (is_ rfl (pin rfl)) rfl mi (by decide +kernel) (pa_cons (pv 0) (pa_cons (pe_glob (v := .ref (ca 0)) rfl m0 rfl) pa_nil))) pa_nil)))
      (pa_cons (pe_tup (pa_cons pe_str (pa_cons (pe_callB (is_ rfl (pin rfl)) rfl mi (by decide +kernel) (pa_cons (pv 0) (pa_cons (pe_glob (v := .ref (ca 1)) rfl m1 rfl) pa_nil))) pa_nil))) pa_nil))))
    (pss_cons (ps_set (i := 1) scKi.nd rfl (Or.inl rfl) (pe_op op_cat (pv 1) (pe_lst (pa_cons (pe_tup (pa_cons pe_str (pa_cons (pe_callB (is_ rfl (pin rfl)) rfl mi (by decide +kernel) (pa_cons (pv 0) (pa_cons (pe_glob (v := .ref (ca 2)) rfl m2 rfl) pa_nil))) pa_nil)))
      (pa_cons (pe_tup (pa_cons pe_str (pa_cons (pe_callB (is_ rfl (pin rfl)) rfl mi (by decide +kernel) (pa_cons (pv 0) (pa_cons (pe_glob (v := .ref (ca 3)) rfl m3 rfl) pa_nil))) pa_nil))) pa_nil)))))
    (pss_cons (ps_setLcH (i := 1) (own := [("_law_word", 2), ("_law_is_one", 3)]) (g := gTup K 2 (gCons (gName 2) (gCons (gName 3) gNil))) (tt := tB (tVar 3)) (te := tVar 2) hot (pin rfl) scKi.nd rfl rfl (sw_true rfl rfl rfl (by decide +kernel))
      (pe_op op_cat (pv 1) (pe_lst (pa_cons (pe_tup (pa_cons pe_str (pa_cons (pe_callB (is_ rfl (pin rfl)) rfl mi (by decide +kernel) (pa_cons (pv 0) (pa_cons (pe_glob (v := .ref (ca 4)) rfl m4 rfl) pa_nil))) pa_nil))) pa_nil)))
      (blkOk_by (N := ["_law_error", "_law_found", "_law_word", "_law_is_one"]) (sc := defScope sLawKind) (by decide +kernel))
      (fun _ _ _ _ _ hb => pg_tupH hb (pgs_cons (pg_name (i := 2) scKi.nd rfl (Or.inl rfl) (Or.inr rfl)) (pgs_cons (pg_name (i := 3) scKi.nd rfl (Or.inl rfl) (Or.inr rfl)) pgs_nil)))
      (fun _ _ _ _ _ => pts_one (pt_val (pv 3))) (fun _ _ _ _ _ => pv 2))
    (pss_one (ps_ret (pe_op op_rep (pv 1) (pe_callTy call_int1 rfl mn boot_int (pa_cons (pe_and (pe_cmpR op_eq (pe_callB call_len rfl ml PySem.boot_len (pa_cons (pv 1) pa_nil)) pe_int (nomark _))
      (pe_one (pe_callB (is_ rfl (pin rfl)) rfl mi (by decide +kernel) (pa_cons (pv 0) (pa_cons (pe_bltn (v := .ty "ValueError") (u := .type "ValueError") rfl mv (by decide +kernel) rfl) pa_nil))))) pa_nil))))))), ?_⟩
  have isi : ∀ (j : Nat), j < 5 → ∀ {σ : L2.St} {H' : Hp} {R : VK}, σ[0]? = Option.some (Option.some (.ref p.1)) → R (.bl (decide (i = j))) H' → tCB (rIsE K (ca i) p.1) (tCons (tVar 0) (tCons (tC (.ref (ca j))) tNil)) σ H' R := fun j hj σ H' R h0 r =>
    ⟨_, h0, .ref (ca j), .ref (ca j), _, rfl, fun u h => h, er.kit i j hi hj, r⟩
  have z2 : 2 ≤ sizeLine := by decide
  refine t_set (isi 0 (by omega) rfl ⟨z2, fun q0 y0 => isi 1 (by omega) rfl ⟨z2, fun q1 y1 => ⟨z2, fun l1 x1 => ?_⟩⟩⟩)
  have e1 := Ext.new (o := .tup [V.str "letters", .bl (decide (i = 0))]) y0
  have e2 := Ext.new (o := .tup [V.str "pattern", .bl (decide (i = 1))]) y1
  have e3 := Ext.new (o := .lst [.ref q0, .ref q1]) x1
  refine t_set ⟨_, rfl, isi 2 (by omega) rfl ⟨z2, fun q2 y2 => isi 3 (by omega) rfl ⟨z2, fun q3 y3 => ⟨z2, fun l2 x2 => ?_⟩⟩⟩⟩
  have e4 := Ext.new (o := .tup [V.str "great", .bl (decide (i = 2))]) y2
  have e5 := Ext.new (o := .tup [V.str "text", .bl (decide (i = 3))]) y3
  have e6 := Ext.new (o := .lst [.ref q2, .ref q3]) x2
  refine ⟨l1, l2, _, _, rfl, rfl, (e4.trans (e5.trans e6)).lst upd_same, upd_same, by show 4 ≤ sizeLine; decide, fun l3 x3 => ?_⟩
  have e7 := Ext.new (o := .lst ([V.ref q0, .ref q1] ++ [V.ref q2, .ref q3])) x3
  refine t_set ⟨_, rfl, isi 4 (by omega) rfl ⟨z2, fun q4 y4 => ⟨by show 1 ≤ sizeLine; decide, fun l4 x4 => ?_⟩⟩⟩
  have e8 := Ext.new (o := .tup [V.str "room", .bl (decide (i = 4))]) y4
  have e9 := Ext.new (o := .lst [.ref q4]) x4
  refine ⟨l3, l4, _, _, rfl, rfl, (e8.trans e9).lst upd_same, upd_same, by show 5 ≤ sizeLine; decide, fun l5 x5 => ?_⟩
  have e10 := Ext.new (o := .lst ([V.ref q0, .ref q1] ++ [V.ref q2, .ref q3] ++ [V.ref q4])) x5
  have all := e1.trans (e2.trans (e3.trans (e4.trans (e5.trans (e6.trans (e7.trans (e8.trans (e9.trans e10))))))))
  refine ⟨l5, rfl, ⟨_, SqL.of upd_same⟩, fun D hD => ?_⟩
  have t4 := (e9.trans e10).tup (show upd _ q4 _ q4 = _ from upd_same)
  have t3 := (e6.trans (e7.trans (e8.trans (e9.trans e10)))).tup (show upd _ q3 _ q3 = _ from upd_same)
  have t2 := (e5.trans (e6.trans (e7.trans (e8.trans (e9.trans e10))))).tup (show upd _ q2 _ q2 = _ from upd_same)
  have t1 := (e3.trans (e4.trans (e5.trans (e6.trans (e7.trans (e8.trans (e9.trans e10))))))).tup (show upd _ q1 _ q1 = _ from upd_same)
  have t0 := (e2.trans (e3.trans (e4.trans (e5.trans (e6.trans (e7.trans (e8.trans (e9.trans e10)))))))).tup (show upd _ q0 _ q0 = _ from upd_same)
  have t5 : upd (upd (upd (upd (upd (upd (upd (upd (upd (upd H q0 (.tup [V.str "letters", .bl (decide (i = 0))])) q1 (.tup [V.str "pattern", .bl (decide (i = 1))])) l1 (.lst [.ref q0, .ref q1])) q2 (.tup [V.str "great", .bl (decide (i = 2))])) q3 (.tup [V.str "text", .bl (decide (i = 3))])) l2 (.lst [.ref q2, .ref q3])) l3 (.lst ([V.ref q0, .ref q1] ++ [V.ref q2, .ref q3]))) q4 (.tup [V.str "room", .bl (decide (i = 4))])) l4 (.lst [.ref q4])) l5 (.lst ([V.ref q0, .ref q1] ++ [V.ref q2, .ref q3] ++ [V.ref q4])) l5 = Option.some (.lst [.ref q0, .ref q1, .ref q2, .ref q3, .ref q4]) := upd_same
  generalize hG : upd (upd (upd (upd (upd (upd (upd (upd (upd (upd H q0 (.tup [V.str "letters", .bl (decide (i = 0))])) q1 (.tup [V.str "pattern", .bl (decide (i = 1))])) l1 (.lst [.ref q0, .ref q1])) q2 (.tup [V.str "great", .bl (decide (i = 2))])) q3 (.tup [V.str "text", .bl (decide (i = 3))])) l2 (.lst [.ref q2, .ref q3])) l3 (.lst ([V.ref q0, .ref q1] ++ [V.ref q2, .ref q3]))) q4 (.tup [V.str "room", .bl (decide (i = 4))])) l4 (.lst [.ref q4])) l5 (.lst ([V.ref q0, .ref q1] ++ [V.ref q2, .ref q3] ++ [V.ref q4])) = G at hD t0 t1 t2 t3 t4 t5 all ⊢
  clear e1 e2 e3 e4 e5 e6 e7 e8 e9 e10
  refine lc_list (K := K) (a := l5) (xs := [.ref q0, .ref q1, .ref q2, .ref q3, .ref q4]) (fun m H' => Ext G H' ∧ H' D = Option.some (.lst (((List.range m).filter fun j => decide (i = j)).map fun j => V.str (word j)))) ⟨(Ext.refl _).wr hD, upd_same⟩ (fun m H' _ s => SqL.of (s.1.lst t5)) ?_ ?_
  · rintro m x H' hx ⟨e, hDm⟩
    obtain ⟨hm5, qm, rfl, hqm⟩ : m < 5 ∧ ∃ qm, x = .ref qm ∧ G qm = Option.some (.tup [.str (word m), .bl (decide (i = m))]) := by
      rcases m with _ | _ | _ | _ | _ | m
      · exact ⟨by omega, q0, (Option.some.inj hx).symm, t0⟩
      · exact ⟨by omega, q1, (Option.some.inj hx).symm, t1⟩
      · exact ⟨by omega, q2, (Option.some.inj hx).symm, t2⟩
      · exact ⟨by omega, q3, (Option.some.inj hx).symm, t3⟩
      · exact ⟨by omega, q4, (Option.some.inj hx).symm, t4⟩
      · cases hx
    refine g_pair (e.tup hqm) ⟨rfl, _, rfl, _, rfl, ?_⟩
    by_cases h9 : i = m
    · refine iffT (decide_eq_true h9) ⟨_, rfl, _, hDm, ?_, e.wr hD, ?_⟩
      · rw [List.length_map]
        have h8 := List.length_filter_le (fun j => decide (i = j)) (List.range m)
        rw [List.length_range] at h8
        exact Nat.lt_of_le_of_lt h8 (Nat.lt_of_lt_of_le hm5 (by decide))
      · rw [upd_same, List.range_succ, List.filter_append, List.map_append]
        simp [List.filter, h9]
    · refine iffF (decide_eq_false h9) ⟨e, ?_⟩
      rw [List.range_succ, List.filter_append, List.map_append]
      simpa [List.filter, h9] using hDm
  · rintro H1 ⟨e, hD5⟩
    have h5 : (((List.range ([.ref q0, .ref q1, .ref q2, .ref q3, .ref q4] : List V).length).filter fun j => decide (i = j)).map fun j => V.str (word j)) = [V.str (word i)] := by
      have : i = 0 ∨ i = 1 ∨ i = 2 ∨ i = 3 := by omega
      rcases this with rfl | rfl | rfl | rfl <;> rfl
    rw [h5] at hD5
    refine ⟨_, rfl, _, rfl, .ref D, _, rfl, .inl ⟨_, SqL.of hD5, rfl⟩, rfl, _, rfl, iffT (decide_eq_true rfl) ?_⟩
    refine ⟨_, rfl, .ty "ValueError", .type "ValueError", _, rfl, fun u h => h, er.ve i hi, .inr ⟨_, rfl, D, 1, _, rfl, rfl, hD5, by decide, by decide, by show 1 * 1 ≤ sizeLine; decide, fun r hr => ?_⟩⟩
    exact q r _ ((all.trans e).free hr) ((all.trans e).trans (Ext.new hr)) upd_same
end
end Bo
set_option Elab.async false
set_option linter.all false
set_option maxRecDepth 100000
set_option maxHeartbeats 8000000
namespace Bo
open PySem PySem.Spec PyProof.Rows L2 GE GH
/-- what the law is told of letters and a thing -/
structure ToldIs (lv tv : V) (d : PyData) : Prop where
  bad : goodV lv = false → d = dLetters
  no : goodV lv = true → (∀ z, tv ≠ .str z) → d = dText
  str : ∀ L z, lv = .str L → goodS L = true → tv = .str (txt z) → z.length ≤ 1000 ∧ (400 < z.length → d = dGreat) ∧ (z.length ≤ 400 → d = due L z)
def spTd (K : PySem.W.Frag) (T : Addr) : Sp := fun vs H Q _ => ∃ (lv tv : V) (d : PyData), vs = [lv, tv] ∧ LV K H lv ∧ (∃ Ty, Kn K H tv Ty) ∧ GxR.TabG H T ∧ ToldIs lv tv d ∧ ∀ v H', Ext H H' → Dp K H' v d → Q v H'
section
variable {P : Program} {w : World} {K : PySem.W.Frag} {mg : Str → Option Value} {base : Heap}
def tsK (i : Nat) (ca : Nat → Addr) (a : Addr) (cls : Value) (d : Option Addr) : TS := fun D σ H => ∃ j, j < 4 ∧ cls = .ref (ca j) ∧ d = Option.none ∧ tRet (tCall (spKi j a) [] (fun _ _ _ => False) (tCons (tVar i) tNil)) D σ H
theorem scTl : FnScope ["_law_letters_here", "_law_text", "_law_error"] ["_law_letters_here", "_law_text"] (defScope sLawTold) := ⟨rfl, rfl, rfl, by decide +kernel, rfl, by decide +kernel, by decide +kernel⟩
theorem tl_ok {f g k : Addr} {fd gd kd : FuncData} {ca : Nat → Addr} {PE_ : Addr} {T : Addr} (F : FnP K "_law_told" sLawTold f fd) (er : Err K ca) (exm : ∀ i, i < 4 → PySem.W.exmOne K (.ref (ca i)) (.ref PE_) = Option.some true) (mP : mg "PatternError" = Option.some (.ref PE_))
    (G : FnOk P w K mg base (L2N.CX P w) 7 g gd ["letters", "text"] (spRd K (ca 0) (ca 3) (ca 2) T)) (bG : Binds K gd ["letters", "text"] []) (kG : PySem.W.keepIn K (.ref g) = true) (mG : mg "read" = Option.some (.ref g))
    (J : FnP K "_law_kind" sLawKind k kd) (bJ : Binds K kd ["_law_error"] []) (mJ : mg "_law_kind" = Option.some (.ref k))
    (m0 : mg "NoLetters" = Option.some (.ref (ca 0))) (m1 : mg "NoPattern" = Option.some (.ref (ca 1))) (m2 : mg "TooGreat" = Option.some (.ref (ca 2))) (m3 : mg "NoText" = Option.some (.ref (ca 3))) (m4 : mg "NoRoom" = Option.some (.ref (ca 4)))
    (mi : mg "isinstance" = none) (mn : mg "int" = none) (ml : mg "len" = none) (mv : mg "ValueError" = none) : FnOk P w K mg base CX0 8 f fd ["_law_letters_here", "_law_text"] (spTd K T) := by
  refine okX F scTl (fun vs H Q E h => ?_) (fun cdv A outer s H vs Q E hr h => ?_)
  · obtain ⟨lv, v, d, rfl, _⟩ := h
    rfl
  obtain ⟨lv, tv, d, rfl, hL, hK, hT, hd, q⟩ := h
  refine ⟨_, pss_one (L2N.ps_try_as (Wout := fun _ _ _ _ => False) (ts := tsK 2 ca) (i := 2) (c := .ref PE_) rfl rfl scTl.nd rfl rfl ⟨rfl, by decide, .inl mP⟩ (fun u s' ⟨_, _, _, _, _, _, _, _, _, _, _, _, _, _, _, _, w⟩ => w.elim)
    (fun W pn xe tk _ => pss_one (ps_ret (pe_callS G hr rfl mG kG bG (fun σ => L2N.passAt tk σ) (pa_cons (pv 0) (pa_cons (pv 1) pa_nil)))))
    (fun a oe cls d pn hzn hf => ⟨fun pins s σ H D I h => ?_⟩)), ?_⟩
  · obtain ⟨i, hi, rfl, rfl, q⟩ := h
    obtain ⟨vs, hv⟩ := id hf
    refine PSs.run (t := tRet (tCall (spKi i a) [] (fun _ _ _ => False) (tCons (tVar 2) tNil))) ?_ pins s σ H D I q
    refine pss_one (ps_ret (pe_callAt (p := (a, oe)) (k := 1) (ki_ok J er hi hzn.zc hf m0 m1 m2 m3 m4 mi mn ml mv) ⟨?_, ?_⟩ ⟨rfl, vs, hv, hzn.2.2 vs hv⟩ List.mem_cons_self rfl mJ J.kp bJ (pa_cons (pv 2) pa_nil)))
    · have := hr.dp
      show A.depth + 1 + 3 * 1 + 5 < recursionLimit
      have h9 : A.depth + 1 + 3 * 7 + 5 < recursionLimit := this
      omega
    · have := hr.un
      show A.units + 3 + 16 * 1 + 200 < cLine
      have h9 : A.units + 3 + 16 * 7 + 200 < cLine := this
      omega
  have tell : ∀ i, i < 4 → d = .list [.str (word i)] → ∀ H', Ext H H' → wAs K (.ref PE_) 2 (tsK 2 ca) (fun _ _ _ _ => False) { nx := fun _ H' => Q .non H', rt := Q } (.ref (ca i)) Option.none [Option.some lv, Option.some tv, Option.none] H' := fun i hi e H' e1 =>
    ⟨true, exm i hi, fun _ a ha => ⟨i, hi, rfl, rfl, _, rfl, rfl, fun r H'' n e2 hr => q _ H'' (e1.trans e2) (e ▸ dp_word hr)⟩, fun h => by cases h⟩
  refine ⟨_, rfl, _, rfl, lv, tv, rfl, hT, hL, hK, fun b H' e' => tell 0 (by omega) (hd.bad b) H' e', fun g n H' e' => tell 3 (by omega) (hd.no g n) H' e', fun L z e1 g e2 => ?_⟩
  obtain ⟨h1, h2, h3⟩ := hd.str L z e1 g e2
  refine ⟨h1, fun h H' e' => tell 2 (by omega) (h2 h) H' e', fun h => ⟨fun p hp => ⟨fun h60 H' e' => tell 2 (by omega) ?_ H' e', fun h60 v H' e' hv => q v H' e' ?_⟩, fun no H' e' => tell 3 (by omega) ?_ H' e'⟩⟩
  · rw [h3 h, due_reads hp, if_pos h60]; rfl
  · rw [h3 h, due_reads hp, if_neg (by omega)]; exact pd_dp p v hv
  · rw [h3 h, due_none no]; rfl
end
end Bo
set_option Elab.async false
set_option linter.all false
set_option maxRecDepth 100000
set_option maxHeartbeats 8000000
namespace Bo
open PySem PySem.Spec PyProof.Rows L2 GE
theorem fold_signs (c : Nat) : ∀ (m : Nat) (acc : Array Nat), ((List.replicate m (sgn c).cps).foldl (· ++ ·) acc).toList = acc.toList ++ List.replicate m c
  | 0, acc => by simp
  | m + 1, acc => by
    rw [List.replicate_succ, List.foldl_cons, fold_signs c m, List.replicate_succ]
    simp [sgn]
theorem mul_sgn (c n : Nat) : Txt.mul (sgn c) (n : Int) = txt (List.replicate n c) := by
  unfold Txt.mul
  by_cases h : n = 0
  · subst h; rfl
  rw [if_neg (by omega)]
  by_cases h1 : n = 1
  · subst h1; rfl
  rw [if_neg (by
    rw [show (sgn c).length = 1 from rfl, Bool.or_eq_true, beq_iff_eq, beq_iff_eq]
    omega)]
  refine congrArg Str.mk ?_
  rw [← Array.toArray_toList (xs := (List.replicate (n : Int).toNat (sgn c).cps).foldl (· ++ ·) #[])]
  refine congrArg List.toArray ?_
  rw [Int.toNat_natCast]
  exact fold_signs c n #[]
def rRepS : R2 := fun x y H Q => ∃ c n : Nat, x = .str (sgn c) ∧ y = .int (n : Int) ∧ n ≤ 500 ∧ Q (.str (txt (List.replicate n c))) H
theorem op_repS {X : Cx} : OpR X (binaryOp .Mult) rRepS := by
  intro pins s σ H x y v u Q I rx ry h
  obtain ⟨c, n, rfl, rfl, hn, q⟩ := h
  obtain ⟨t, rfl⟩ := rx
  obtain ⟨t', rfl⟩ := ry
  refine SB.mul (mulOk_of 1 500 (Nat.le_refl _) (by omega) (by omega) (by decide) (by decide)) fun t2 k => ?_
  rw [mul_sgn]
  exact ⟨.str _, H, I.tok _, ⟨_, rfl⟩, q⟩
theorem cut_last1 {vs : List V} {v : V} : cutV (vs ++ [v]) none (Option.some (-1)) = vs := by
  unfold cutV
  rw [HT.sIx_none, List.drop_zero]
  have e : HT.sIx (vs ++ [v]).length (vs ++ [v]).length (Option.some (-1)) = vs.length := by
    show (if (-1 : Int) < 0 then ((-1 : Int) + ((vs ++ [v]).length : Int)).toNat else min (-1 : Int).toNat (vs ++ [v]).length) = vs.length
    rw [if_pos (by decide), List.length_append, List.length_singleton]
    omega
  rw [e, Nat.sub_zero, List.take_left]
theorem cut_last2 {vs : List V} {u v : V} : cutV (vs ++ [u, v]) none (Option.some (-2)) = vs := by
  unfold cutV
  rw [HT.sIx_none, List.drop_zero]
  have e : HT.sIx (vs ++ [u, v]).length (vs ++ [u, v]).length (Option.some (-2)) = vs.length := by
    show (if (-2 : Int) < 0 then ((-2 : Int) + ((vs ++ [u, v]).length : Int)).toNat else min (-2 : Int).toNat (vs ++ [u, v]).length) = vs.length
    rw [if_pos (by decide), List.length_append]
    simp only [List.length_cons, List.length_nil]
    omega
  rw [e, Nat.sub_zero, List.take_left]
theorem atI_last2 {α : Type} (xs : List α) (u v : α) : atI (xs ++ [u, v]) (-2) = some u := by
  have hl : (xs ++ [u, v]).length = xs.length + 2 := by simp
  have e : ixN (xs ++ [u, v]).length (-2) = some xs.length := by
    unfold ixN
    rw [hl, if_neg (by decide), if_pos (by omega)]
    congr 1
    omega
  unfold atI
  rw [e]
  simp
theorem atI_lastB {α : Type} (xs : List α) (u v : α) : atI (xs ++ [u, v]) (-1) = some v := by
  have := atI_last (xs ++ [u]) v
  rwa [List.append_assoc] at this
theorem two_last {α : Type} {zs : List α} (h : 1 < zs.length) : ∃ zs0 x y, zs = zs0 ++ [x, y] := by
  rcases List.eq_nil_or_concat zs with rfl | ⟨ys, y, rfl⟩
  · simp at h
  rcases List.eq_nil_or_concat ys with rfl | ⟨xs, x, rfl⟩
  · simp at h
  exact ⟨xs, x, y, by simp⟩
theorem one_last {α : Type} {zs : List α} (h : zs ≠ []) : ∃ zs0 x, zs = zs0 ++ [x] := by
  rcases List.eq_nil_or_concat zs with rfl | ⟨ys, y, rfl⟩
  · exact absurd rfl h
  exact ⟨ys, y, by simp⟩
theorem slen (a b : Str) : (a ++ b).length = a.length + b.length := (Array.size_append : (a.cps ++ b.cps).size = _)
theorem cL : ("(" : Str).length = 1 := by decide
theorem cR : (")" : Str).length = 1 := by decide
def tot (zs : List Str) : Nat := (zs.map Str.length).sum
theorem tot_app (a b : List Str) : tot (a ++ b) = tot a + tot b := by unfold tot; rw [List.map_append, List.sum_append]
theorem tot_one (a : Str) : tot [a] = a.length := by unfold tot; simp
theorem tot_two (a b : Str) : tot [a, b] = a.length + b.length := by unfold tot; simp
theorem txt_len (l : List Nat) : (txt l).length = l.length := List.size_toArray
theorem good_len {L : Str} (h : goodS L = true) : 1 ≤ L.cps.size ∧ L.cps.size ≤ 4 := by
  unfold goodS at h
  simp only [Bool.and_eq_true, decide_eq_true_eq] at h
  exact ⟨h.1.1.1, h.1.1.2⟩
def spGr : Sp := fun vs H Q _ => ∃ (L : Str) (a : Addr) (zs : List Str) (c : Int), vs = [.str L, .ref a, .int c] ∧ goodS L = true ∧ H a = some (.lst (zs.map V.str)) ∧ zs.length ≤ 20 ∧ tot zs ≤ 100 ∧
  ∀ (zs' : List Str) (r : Addr) (H' : Hp), zs'.length ≤ zs.length + 1 → tot zs' ≤ tot zs + 5 → Ext H H' → H' r = some (.lst (zs'.map V.str)) → Q (.ref r) H'
section
variable {P : Program} {w : World} {K : PySem.W.Frag} {mg : Str → Option Value} {base : Heap}
theorem scGr : FnScope ["_law_letters_here", "_law_texts", "_law_cell", "_law_rest"] ["_law_letters_here", "_law_texts", "_law_cell"] (defScope sLawGrown) := ⟨rfl, rfl, rfl, by decide +kernel, rfl, by decide +kernel, by decide +kernel⟩
theorem gr_ok {f : Addr} {fd : FuncData} (F : FnP K "_law_grown" sLawGrown f fd) (ml : mg "len" = none) : FnOk P w K mg base CX0 1 f fd ["_law_letters_here", "_law_texts", "_law_cell"] spGr := by
  refine okD F scGr (fun vs H Q E h => ?_) (fun cdv A outer s H vs Q E hr h => ?_)
  · obtain ⟨L, a, zs, c, rfl, _⟩ := h
    rfl
  obtain ⟨L, a, zs, c, rfl, hL, ha, hlen, htot, q⟩ := h
  refine ⟨_, (pss_cons (ps_set (i := 3) scGr.nd rfl (Or.inl rfl) (pe_op op_fdiv (pv 2) pe_int)) (pss_cons (ps_if (PW.pt (pw_and (pt_cmpR op_eq (pe_op op_mod (pv 2) pe_int) pe_int (nomark _)) (pw_and1 (pt_cmpR op_gt (pe_callB call_len rfl ml PySem.boot_len (pa_cons (pv 1) pa_nil)) pe_int (nomark _)))))
      (pss_one (ps_ret (pe_op op_cat (pe_slice sl_list (pv 1) po_none (po_some (pe_un un_neg pe_int))) (pe_lst (pa_cons (pe_op op_add_str (pe_op op_add_str (pe_op op_add_str (pe_op op_add_str pe_str (pe_ix ix_list (pv 1) (pe_un un_neg pe_int) (fun _ _ => rfl))) (pe_ix ix_list (pe_lst (pa_cons pe_str (pa_cons pe_str (pa_cons pe_str pa_nil)))) (pe_op op_mod (pv 3) pe_int) (fun _ _ => rfl))) (pe_ix ix_list (pv 1) (pe_un un_neg pe_int) (fun _ _ => rfl))) pe_str) pa_nil))))) pss_nil) (pss_cons (ps_if (PW.pt (pw_and (pt_cmpR op_eq (pe_op op_mod (pv 2) pe_int) pe_int (nomark _)) (pw_and1 (pt_cmpR op_gt (pe_callB call_len rfl ml PySem.boot_len (pa_cons (pv 1) pa_nil)) pe_int (nomark _)))))
      (pss_one (ps_ret (pe_op op_cat (pe_slice sl_list (pv 1) po_none (po_some (pe_un un_neg pe_int))) (pe_lst (pa_cons (pe_op op_add_str (pe_op op_add_str (pe_op op_add_str (pe_op op_add_str (pe_op op_add_str pe_str (pe_ix ix_list (pv 1) (pe_un un_neg pe_int) (fun _ _ => rfl))) (pe_ix ix_list (pe_lst (pa_cons pe_str (pa_cons pe_str pa_nil))) (pe_op op_mod (pv 3) pe_int) (fun _ _ => rfl))) (pe_ix ix_list (pv 1) (pe_un un_neg pe_int) (fun _ _ => rfl))) pe_str) (pe_op op_repS pe_str (pe_op op_mod (pv 3) pe_int))) pa_nil))))) pss_nil) (pss_cons (ps_if (PW.pt (pw_and (pt_cmpR op_eq (pe_op op_mod (pv 2) pe_int) pe_int (nomark _)) (pw_and1 (pt_cmpR (op_neNil hr.units) (pv 1) (pe_lst pa_nil) (by rfl)))))
      (pss_one (ps_ret (pe_op op_cat (pe_slice sl_list (pv 1) po_none (po_some (pe_un un_neg pe_int))) (pe_lst (pa_cons (pe_op op_add_str (pe_op op_repS pe_str (pe_op op_add pe_int (pe_op op_mod (pv 3) pe_int))) (pe_ix ix_list (pv 1) (pe_un un_neg pe_int) (fun _ _ => rfl))) pa_nil))))) pss_nil) (pss_cons (ps_if (PW.pt (pw_and (pt_cmpR op_eq (pe_op op_mod (pv 2) pe_int) pe_int (nomark _)) (pw_and1 (pt_cmpR (op_neNil hr.units) (pv 1) (pe_lst pa_nil) (by rfl)))))
      (pss_one (ps_ret (pe_op op_cat (pe_slice sl_list (pv 1) po_none (po_some (pe_un un_neg pe_int))) (pe_lst (pa_cons (pe_op op_add_str (pe_op op_add_str (pe_op op_add_str pe_str (pe_ix ix_list (pv 1) (pe_un un_neg pe_int) (fun _ _ => rfl))) pe_str) (pe_op op_repS pe_str (pe_op op_mod (pv 3) pe_int))) pa_nil))))) pss_nil) (pss_cons (ps_if (pt_cmpR op_eq (pe_op op_mod (pv 2) pe_int) pe_int (nomark _))
      (pss_one (ps_ret (pe_op op_cat (pv 1) (pe_lst (pa_cons (pe_ix ix_list (pe_lst (pa_cons pe_str (pa_cons pe_str (pa_cons pe_str (pa_cons pe_str (pa_cons pe_str (pa_cons pe_str pa_nil))))))) (pe_op op_mod (pv 3) pe_int) (fun _ _ => rfl)) pa_nil))))) pss_nil) (pss_one (ps_ret (pe_op op_cat (pv 1) (pe_lst (pa_cons (pe_ix ix_str (pv 0) (pe_op op_mod (pv 3) (pe_callB call_len rfl ml PySem.boot_len (pa_cons (pv 0) pa_nil))) (fun _ _ => rfl)) pa_nil))))))))))), ?_⟩
  have l9 : ∀ n : Nat, n ≤ 500 → n ≤ sizeLine := fun n h => Nat.le_trans h (by decide)
  have sq : ∀ H', Ext H H' → SqL K H' a (zs.map V.str) := fun H' e => SqL.of (e.lst ha)
  have fin : ∀ (zs0 : List Str) (y : Str) (p1 p4 : Addr) (H5 : Hp), Ext H H5 → H5 p1 = some (.lst (zs0.map V.str)) → H5 p4 = some (.lst [.str y]) → zs0.length ≤ zs.length → tot zs0 + y.length ≤ tot zs + 5 → rCat (.ref p1) (.ref p4) H5 Q := fun zs0 y p1 p4 H5 e h1 h4 hl ht =>
    ⟨p1, p4, _, _, rfl, rfl, h1, h4, l9 _ (by rw [List.length_map, List.length_singleton]; omega), fun p x => q (zs0 ++ [y]) p _ (by rw [List.length_append, List.length_singleton]; omega) (by rw [tot_app, tot_one]; exact ht) (e.trans (Ext.new x)) (by rw [upd_same, List.map_append]; rfl)⟩
  refine t_set ⟨_, rfl, _, _, rfl, rfl, show (0 : Int) < 9 ∧ (9 : Int) < 1073741824 by decide, ?_⟩
  refine seq_fall (cond := c % 9 = 4 ∧ 1 < zs.length) (fun R qT qF => ?_) (fun ⟨k1, k2⟩ H1 e1 => ?_) (fun n1 H1 e1 => ?_)
  · refine ⟨_, rfl, _, _, rfl, rfl, show (0 : Int) < 9 by decide, rfl, _, rfl, ?_⟩
    rw [dec_int]
    by_cases a1 : c % 9 = 4
    · rw [show (c % 9 == 4) = true from beq_iff_eq.mpr a1]
      refine iffT rfl ⟨_, rfl, .ref a, _, rfl, .inl ⟨_, sq _ (Ext.refl _), rfl⟩, _, _, rfl, rfl, _, rfl, ?_⟩
      rw [List.length_map]
      by_cases a3 : 1 < zs.length
      · rw [decide_eq_true (by omega)]; exact qT ⟨a1, a3⟩ _ (Ext.refl _)
      · rw [decide_eq_false (by omega)]; exact qF (fun h => a3 h.2) _ (Ext.refl _)
    · rw [show (c % 9 == 4) = false from beq_eq_false_iff_ne.mpr a1]
      exact iffF rfl (qF (fun h => a1 h.1) _ (Ext.refl _))
  · obtain ⟨zs0, x, y, rfl⟩ := two_last k2
    obtain ⟨wd, hw, hwl⟩ : ∃ wd : Str, atI [V.str "", V.str "|", V.str "&"] (c / 9 % 3) = some (.str wd) ∧ wd.length ≤ 1 := by
      have : c / 9 % 3 = 0 ∨ c / 9 % 3 = 1 ∨ c / 9 % 3 = 2 := by omega
      rcases this with h | h | h <;> rw [h]
      · exact ⟨"", rfl, by decide⟩
      · exact ⟨"|", rfl, by decide⟩
      · exact ⟨"&", rfl, by decide⟩
    rw [tot_app, tot_two] at htot fin
    rw [List.length_append] at fin hlen
    rw [List.map_append] at sq ha
    have sq : ∀ H', Ext H H' → SqL K H' a (zs0.map V.str ++ [.str x, .str y]) := sq
    refine ⟨_, rfl, _, rfl, _, rfl, a, _, rfl, sq _ e1, fun p1 x1 => ?_⟩
    have f1 := e1.trans (Ext.new (o := .lst (cutV (zs0.map V.str ++ [.str x, .str y]) none (some (-2)))) x1)
    refine ⟨_, rfl, _, rfl, a, _, _, _, rfl, rfl, sq _ f1, atI_last2 _ _ _, _, _, rfl, rfl, l9 _ (by rw [cL]; omega), ?_⟩
    refine ⟨l9 3 (by omega), fun p2 x2 => ⟨_, rfl, _, _, rfl, rfl, show (0 : Int) < 3 by decide, p2, _, _, _, rfl, rfl, SqL.of upd_same, hw, _, _, rfl, rfl, l9 _ (by rw [slen, cL]; omega), ?_⟩⟩
    have f2 := f1.trans (Ext.new (o := .lst [V.str "", V.str "|", V.str "&"]) x2)
    refine ⟨_, rfl, _, rfl, a, _, _, _, rfl, rfl, sq _ f2, atI_lastB _ _ _, _, _, rfl, rfl, l9 _ (by rw [slen, slen, cL]; omega), _, _, rfl, rfl, l9 _ (by rw [slen, slen, slen, cL, cR]; omega), l9 1 (by omega), fun p3 x3 => ?_⟩
    have f3 := f2.trans (Ext.new (o := .lst [.str ("(" ++ x ++ wd ++ y ++ ")")]) x3)
    have g1 := ((Ext.new (o := .lst [V.str "", V.str "|", V.str "&"]) x2).trans (Ext.new (o := .lst [.str ("(" ++ x ++ wd ++ y ++ ")")]) x3)).lst (upd_same (H := H1) (a := p1) (o := .lst (cutV (zs0.map V.str ++ [.str x, .str y]) none (some (-2)))))
    exact fin zs0 _ p1 p3 _ f3 (g1.trans (by rw [cut_last2])) upd_same (by omega) (by rw [slen, slen, slen, slen, cL, cR]; omega)
  refine seq_fall (cond := c % 9 = 5 ∧ 1 < zs.length) (fun R qT qF => ?_) (fun ⟨k1, k2⟩ H2 e2 => ?_) (fun n2 H2 e2 => ?_)
  · refine ⟨_, rfl, _, _, rfl, rfl, show (0 : Int) < 9 by decide, rfl, _, rfl, ?_⟩
    rw [dec_int]
    by_cases a1 : c % 9 = 5
    · rw [show (c % 9 == 5) = true from beq_iff_eq.mpr a1]
      refine iffT rfl ⟨_, rfl, .ref a, _, rfl, .inl ⟨_, sq _ e1, rfl⟩, _, _, rfl, rfl, _, rfl, ?_⟩
      rw [List.length_map]
      by_cases a3 : 1 < zs.length
      · rw [decide_eq_true (by omega)]; exact qT ⟨a1, a3⟩ _ (Ext.refl _)
      · rw [decide_eq_false (by omega)]; exact qF (fun h => a3 h.2) _ (Ext.refl _)
    · rw [show (c % 9 == 5) = false from beq_eq_false_iff_ne.mpr a1]
      exact iffF rfl (qF (fun h => a1 h.1) _ (Ext.refl _))
  · obtain ⟨zs0, x, y, rfl⟩ := two_last k2
    obtain ⟨wd, hw, hwl⟩ : ∃ wd : Str, atI [V.str "&", V.str "|"] (c / 9 % 2) = some (.str wd) ∧ wd.length ≤ 1 := by
      have : c / 9 % 2 = 0 ∨ c / 9 % 2 = 1 := by omega
      rcases this with h | h <;> rw [h]
      · exact ⟨"&", rfl, by decide⟩
      · exact ⟨"|", rfl, by decide⟩
    obtain ⟨n, hn⟩ : ∃ n : Nat, c / 9 % 3 = (n : Int) := ⟨(c / 9 % 3).toNat, by omega⟩
    have hn2 : n ≤ 2 := by omega
    have e12 := e1.trans e2
    rw [tot_app, tot_two] at htot fin
    rw [List.length_append] at fin hlen
    rw [List.map_append] at sq ha
    have sq : ∀ H', Ext H H' → SqL K H' a (zs0.map V.str ++ [.str x, .str y]) := sq
    refine ⟨_, rfl, _, rfl, _, rfl, a, _, rfl, sq _ e12, fun p1 x1 => ?_⟩
    have f1 := e12.trans (Ext.new (o := (.lst (cutV (zs0.map V.str ++ [.str x, .str y]) none (some (-2))))) x1)
    refine ⟨_, rfl, _, rfl, a, _, _, _, rfl, rfl, sq _ f1, atI_last2 _ _ _, _, _, rfl, rfl, l9 _ (by rw [cL]; omega), ?_⟩
    refine ⟨l9 2 (by omega), fun p2 x2 => ⟨_, rfl, _, _, rfl, rfl, show (0 : Int) < 2 by decide, p2, _, _, _, rfl, rfl, SqL.of upd_same, hw, _, _, rfl, rfl, l9 _ (by rw [slen, cL]; omega), ?_⟩⟩
    have f2 := f1.trans (Ext.new (o := .lst [V.str "&", V.str "|"]) x2)
    refine ⟨_, rfl, _, rfl, a, _, _, _, rfl, rfl, sq _ f2, atI_lastB _ _ _, _, _, rfl, rfl, l9 _ (by rw [slen, slen, cL]; omega), _, _, rfl, rfl, l9 _ (by rw [slen, slen, slen, cL, cR]; omega), _, rfl, _, _, rfl, rfl, show (0 : Int) < 3 by decide, 42, n, rfl, congrArg V.int hn, by omega, _, _, rfl, rfl, l9 _ (by rw [slen, slen, slen, slen, cL, cR, txt_len, List.length_replicate]; omega), l9 1 (by omega), fun p3 x3 => ?_⟩
    have f3 := f2.trans (Ext.new (o := .lst [.str ("(" ++ x ++ wd ++ y ++ ")" ++ txt (List.replicate n 42))]) x3)
    have g1 := ((Ext.new (o := .lst [V.str "&", V.str "|"]) x2).trans (Ext.new (o := .lst [.str ("(" ++ x ++ wd ++ y ++ ")" ++ txt (List.replicate n 42))]) x3)).lst (upd_same (H := H2) (a := p1) (o := (.lst (cutV (zs0.map V.str ++ [.str x, .str y]) none (some (-2))))))
    exact fin zs0 _ p1 p3 _ f3 (g1.trans (by rw [cut_last2])) upd_same (by omega) (by rw [slen, slen, slen, slen, slen, cL, cR, txt_len, List.length_replicate]; omega)
  refine seq_fall (cond := c % 9 = 6 ∧ zs ≠ []) (fun R qT qF => ?_) (fun ⟨k1, k2⟩ H3 e3 => ?_) (fun n3 H3 e3 => ?_)
  · refine ⟨_, rfl, _, _, rfl, rfl, show (0 : Int) < 9 by decide, rfl, _, rfl, ?_⟩
    rw [dec_int]
    by_cases a1 : c % 9 = 6
    · rw [show (c % 9 == 6) = true from beq_iff_eq.mpr a1]
      refine iffT rfl ⟨_, rfl, Nat.zero_le _, fun p x => ⟨a, p, _, rfl, rfl, sq _ ((e1.trans e2).trans (Ext.new x)), SqL.of upd_same, _, rfl, ?_⟩⟩
      by_cases a2 : zs = []
      · have : (zs.map V.str).isEmpty = true := by rw [a2]; rfl
        rw [this]; exact qF (fun h => h.2 a2) _ (Ext.new x)
      · have : (zs.map V.str).isEmpty = false := by cases zs with | nil => exact absurd rfl a2 | cons => rfl
        rw [this]; exact qT ⟨a1, a2⟩ _ (Ext.new x)
    · rw [show (c % 9 == 6) = false from beq_eq_false_iff_ne.mpr a1]
      exact iffF rfl (qF (fun h => a1 h.1) _ (Ext.refl _))
  · obtain ⟨zs0, x, rfl⟩ := one_last k2
    obtain ⟨n, hn⟩ : ∃ n : Nat, 1 + c / 9 % 3 = (n : Int) := ⟨(1 + c / 9 % 3).toNat, by omega⟩
    have hn2 : n ≤ 3 := by omega
    have e12 := (e1.trans e2).trans e3
    rw [tot_app, tot_one] at htot fin
    rw [List.length_append] at fin hlen
    rw [List.map_append] at sq ha
    have sq : ∀ H', Ext H H' → SqL K H' a (zs0.map V.str ++ [.str x]) := sq
    refine ⟨_, rfl, _, rfl, _, rfl, a, _, rfl, sq _ e12, fun p1 x1 => ?_⟩
    have f1 := e12.trans (Ext.new (o := (.lst (cutV (zs0.map V.str ++ [.str x]) none (some (-1))))) x1)
    refine ⟨_, rfl, _, _, rfl, rfl, show (0 : Int) < 3 by decide, _, _, rfl, rfl, 33, n, rfl, congrArg V.int hn, by omega, ?_⟩
    refine ⟨_, rfl, _, rfl, a, _, _, _, rfl, rfl, sq _ f1, atI_last _ _, _, _, rfl, rfl, l9 _ (by rw [txt_len, List.length_replicate]; omega), l9 1 (by omega), fun p3 x3 => ?_⟩
    have f3 := f1.trans (Ext.new (o := .lst [.str (txt (List.replicate n 33) ++ x)]) x3)
    have g1 := (Ext.new (o := .lst [.str (txt (List.replicate n 33) ++ x)]) x3).lst (upd_same (H := H3) (a := p1) (o := (.lst (cutV (zs0.map V.str ++ [.str x]) none (some (-1))))))
    exact fin zs0 _ p1 p3 _ f3 (g1.trans (by rw [cut_last1])) upd_same (by omega) (by rw [slen, txt_len, List.length_replicate]; omega)
  refine seq_fall (cond := c % 9 = 7 ∧ zs ≠ []) (fun R qT qF => ?_) (fun ⟨k1, k2⟩ H4 e4 => ?_) (fun n4 H4 e4 => ?_)
  · refine ⟨_, rfl, _, _, rfl, rfl, show (0 : Int) < 9 by decide, rfl, _, rfl, ?_⟩
    rw [dec_int]
    by_cases a1 : c % 9 = 7
    · rw [show (c % 9 == 7) = true from beq_iff_eq.mpr a1]
      refine iffT rfl ⟨_, rfl, Nat.zero_le _, fun p x => ⟨a, p, _, rfl, rfl, sq _ (((e1.trans e2).trans e3).trans (Ext.new x)), SqL.of upd_same, _, rfl, ?_⟩⟩
      by_cases a2 : zs = []
      · have : (zs.map V.str).isEmpty = true := by rw [a2]; rfl
        rw [this]; exact qF (fun h => h.2 a2) _ (Ext.new x)
      · have : (zs.map V.str).isEmpty = false := by cases zs with | nil => exact absurd rfl a2 | cons => rfl
        rw [this]; exact qT ⟨a1, a2⟩ _ (Ext.new x)
    · rw [show (c % 9 == 7) = false from beq_eq_false_iff_ne.mpr a1]
      exact iffF rfl (qF (fun h => a1 h.1) _ (Ext.refl _))
  · obtain ⟨zs0, x, rfl⟩ := one_last k2
    obtain ⟨n, hn⟩ : ∃ n : Nat, c / 9 % 4 = (n : Int) := ⟨(c / 9 % 4).toNat, by omega⟩
    have hn2 : n ≤ 3 := by omega
    have e12 := ((e1.trans e2).trans e3).trans e4
    rw [tot_app, tot_one] at htot fin
    rw [List.length_append] at fin hlen
    rw [List.map_append] at sq ha
    have sq : ∀ H', Ext H H' → SqL K H' a (zs0.map V.str ++ [.str x]) := sq
    refine ⟨_, rfl, _, rfl, _, rfl, a, _, rfl, sq _ e12, fun p1 x1 => ?_⟩
    have f1 := e12.trans (Ext.new (o := (.lst (cutV (zs0.map V.str ++ [.str x]) none (some (-1))))) x1)
    refine ⟨_, rfl, _, rfl, a, _, _, _, rfl, rfl, sq _ f1, atI_last _ _, _, _, rfl, rfl, l9 _ (by rw [cL]; omega), _, _, rfl, rfl, l9 _ (by rw [slen, cL, cR]; omega), ?_⟩
    refine ⟨_, rfl, _, _, rfl, rfl, show (0 : Int) < 4 by decide, 42, n, rfl, congrArg V.int hn, by omega, _, _, rfl, rfl, l9 _ (by rw [slen, slen, cL, cR, txt_len, List.length_replicate]; omega), l9 1 (by omega), fun p3 x3 => ?_⟩
    have f3 := f1.trans (Ext.new (o := .lst [.str ("(" ++ x ++ ")" ++ txt (List.replicate n 42))]) x3)
    have g1 := (Ext.new (o := .lst [.str ("(" ++ x ++ ")" ++ txt (List.replicate n 42))]) x3).lst (upd_same (H := H4) (a := p1) (o := (.lst (cutV (zs0.map V.str ++ [.str x]) none (some (-1))))))
    exact fin zs0 _ p1 p3 _ f3 (g1.trans (by rw [cut_last1])) upd_same (by omega) (by rw [slen, slen, slen, cL, cR, txt_len, List.length_replicate]; omega)
  refine seq_fall (cond := c % 9 = 8) (fun R qT qF => ?_) (fun k1 H5 e5 => ?_) (fun n5 H5 e5 => ?_)
  · refine ⟨_, rfl, _, _, rfl, rfl, show (0 : Int) < 9 by decide, rfl, _, rfl, ?_⟩
    rw [dec_int]
    by_cases a1 : c % 9 = 8
    · rw [show (c % 9 == 8) = true from beq_iff_eq.mpr a1]
      exact qT a1 _ (Ext.refl _)
    · rw [show (c % 9 == 8) = false from beq_eq_false_iff_ne.mpr a1]
      exact qF a1 _ (Ext.refl _)
  · obtain ⟨wd, hw, hwl⟩ : ∃ wd : Str, atI [V.str "()", V.str "[]", V.str "(())", V.str "([])*", V.str "()**", V.str "!()"] (c / 9 % 6) = some (.str wd) ∧ wd.length ≤ 5 := by
      have : c / 9 % 6 = 0 ∨ c / 9 % 6 = 1 ∨ c / 9 % 6 = 2 ∨ c / 9 % 6 = 3 ∨ c / 9 % 6 = 4 ∨ c / 9 % 6 = 5 := by omega
      rcases this with h | h | h | h | h | h <;> rw [h]
      · exact ⟨"()", rfl, by decide⟩
      · exact ⟨"[]", rfl, by decide⟩
      · exact ⟨"(())", rfl, by decide⟩
      · exact ⟨"([])*", rfl, by decide⟩
      · exact ⟨"()**", rfl, by decide⟩
      · exact ⟨"!()", rfl, by decide⟩
    have e15 := (((e1.trans e2).trans e3).trans e4).trans e5
    refine ⟨_, rfl, l9 6 (by omega), fun p2 x2 => ⟨_, rfl, _, _, rfl, rfl, show (0 : Int) < 6 by decide, p2, _, _, _, rfl, rfl, SqL.of upd_same, hw, l9 1 (by omega), fun p3 x3 => ?_⟩⟩
    have f2 := e15.trans (Ext.new (o := .lst [V.str "()", V.str "[]", V.str "(())", V.str "([])*", V.str "()**", V.str "!()"]) x2)
    have f3 := f2.trans (Ext.new (o := .lst [.str wd]) x3)
    exact fin zs wd a p3 _ f3 (f3.lst ha) upd_same (by omega) (by omega)
  · have e15 := (((e1.trans e2).trans e3).trans e4).trans e5
    obtain ⟨hL1, hL4⟩ := good_len hL
    have hcl : (cds L).length = L.cps.size := Array.length_toList
    have hm : 0 ≤ c / 9 % ((L.length : Nat) : Int) ∧ c / 9 % ((L.length : Nat) : Int) < ((L.length : Nat) : Int) := by
      have h0 : (0 : Int) < ((L.length : Nat) : Int) := by show (0 : Int) < ((L.cps.size : Nat) : Int); omega
      exact ⟨Int.emod_nonneg _ (by omega), Int.emod_lt_of_pos _ h0⟩
    obtain ⟨j, hj⟩ : ∃ j : Nat, c / 9 % ((L.length : Nat) : Int) = (j : Int) := ⟨_, (Int.toNat_of_nonneg hm.1).symm⟩
    have hjl : j < (cds L).length := by
      have := hm.2
      rw [hj] at this
      rw [hcl]
      show j < L.length
      omega
    have hlL : L.length ≤ sizeLine := Nat.le_trans hL4 (by decide)
    refine ⟨_, rfl, _, rfl, _, rfl, _, rfl, .str L, _, rfl, ⟨hlL, rfl⟩, _, _, rfl, rfl, ?_, L, _, (cds L)[j], rfl, rfl, hlL, ?_, l9 1 (by omega), fun p3 x3 => ?_⟩
    · show (0 : Int) < ((L.length : Nat) : Int)
      show (0 : Int) < ((L.cps.size : Nat) : Int)
      omega
    · rw [hj]; exact atI_nat (List.getElem?_eq_getElem hjl)
    have f3 := e15.trans (Ext.new (o := .lst [.str (sgn (cds L)[j])]) x3)
    exact fin zs (sgn (cds L)[j]) a p3 _ f3 (f3.lst ha) upd_same (by omega) (by show _ + 1 ≤ _; omega)
end
end Bo
set_option Elab.async false
set_option linter.all false
set_option maxRecDepth 100000
set_option maxHeartbeats 8000000
namespace Bo
open PySem PySem.Spec PyProof.Rows L2 GE
theorem lc_signs {g : TG} {tt : TT} {te : TE} {vs : List Nat} {σ : L2.St} {H1 : Hp} {D : Addr} {Qd : Hp → Prop} {x : Str} (Pv : Nat → Hp → Prop) (h0 : Pv 0 (upd H1 D (.lst [])))
    (hs : ∀ i c H, x.cps[i]? = Option.some c → Pv i H → g (.str ⟨#[c]⟩) (wipe σ vs) H fun σ2 H2 => wipe σ2 vs = wipe σ vs ∧ tt σ2 H2 fun b H3 =>
      if b = true then te σ2 H3 fun y H4 => ∃ acc, H4 D = Option.some (.lst acc) ∧ acc.length < sizeLine ∧ Pv (i + 1) (upd H4 D (.lst (acc ++ [y]))) else Pv (i + 1) H3) (hd : ∀ H, Pv x.cps.size H → Qd H) :
    ∃ W : Nat → Nat → Hp → Prop, (∃ m, W 0 m (upd H1 D (.lst []))) ∧ ∀ i m H, W i m H →
      ((Its x).stop i H ∧ Qd H) ∨ ((Its x).go i H ∧ ∃ Nx : Hp → Prop, (∀ H', Nx H' → ∃ m', m' < m ∧ W (i + 1) m' H') ∧ ∀ v H', (Its x).yld i H v H' → g v (wipe σ vs) H' fun σ2 H2 => wipe σ2 vs = wipe σ vs ∧ tt σ2 H2 fun b H3 =>
        if b = true then te σ2 H3 fun y H4 => ∃ acc, H4 D = Option.some (.lst acc) ∧ acc.length < sizeLine ∧ Nx (upd H4 D (.lst (acc ++ [y]))) else Nx H3) := by
  refine ⟨fun i m H => m = x.cps.size - i ∧ i ≤ x.cps.size ∧ Pv i H, ⟨x.cps.size, by simp, Nat.zero_le _, h0⟩, ?_⟩
  rintro i m H ⟨rfl, hi, p⟩
  by_cases hlt : i < x.cps.size
  · refine .inr ⟨hlt, Pv (i + 1), fun H' p' => ⟨x.cps.size - (i + 1), by omega, rfl, hlt, p'⟩, fun v H' y => ?_⟩
    obtain ⟨e, c, hc, rfl⟩ := y
    subst e
    exact hs i c H' hc p
  · have e : i = x.cps.size := by omega
    subst e
    exact .inl ⟨Nat.le_refl _, hd H p⟩
theorem cds_len (z : Str) : (cds z).length = z.cps.size := Array.length_toList
def offs (L : Str) : List Nat := (cds alphabet).filter fun c => !decide (c ∈ cds L)
theorem offs_ne {L : Str} (h : goodS L = true) : 0 < (offs L).length := by
  rcases Nat.eq_zero_or_pos (offs L).length with h0 | h0
  · have h1 : offs L = [] := List.length_eq_zero_iff.mp h0
    have h2 : ∀ c ∈ cds alphabet, c ∈ cds L := fun c hc => by
      have := List.filter_eq_nil_iff.mp h1 c hc
      simpa using this
    have h3 := nat_nodup_len (cds alphabet) (cds L) (by decide +kernel) h2
    rw [cds_len, cds_len] at h3
    have := (good_len h).2
    have h4 : alphabet.cps.size = 26 := by decide +kernel
    omega
  · exact h0
/-- the places ahead of a mark or at the end -/
def marks (T : Str) (n : Nat) : List Nat := (List.range n).filter fun k => decide (txt (((cds T).drop k).take 1) ∈ (["", "|", "&", ")"] : List Str))
theorem marks_ne (T : Str) : 0 < (marks T (T.length + 1)).length := by
  refine List.length_pos_of_mem (a := T.length) (List.mem_filter.mpr ⟨List.mem_range.mpr (Nat.lt_succ_self _), ?_⟩)
  rw [List.drop_eq_nil_of_le (show (cds T).length ≤ T.length from Nat.le_of_eq (cds_len T))]
  decide
theorem marks_le {T : Str} {n k : Nat} (h : k ∈ marks T n) : k < n := List.mem_range.mp (List.mem_filter.mp h).1
theorem cut_lenT (z : Str) (j : Nat) : (cutS z none (some (j : Int))).length ≤ j ∧ (cutS z none (some (j : Int))).length ≤ z.length := by
  have h : (cutS z none (some (j : Int))).length = min (min j z.length) z.length := by
    unfold cutS
    rw [HT.sIx_none, HT.sIx_nat]
    show (List.toArray _).size = _
    rw [List.size_toArray, List.length_take, List.length_drop]
    have : z.cps.toList.length = z.length := Array.length_toList
    omega
  omega
theorem cut_lenF (z : Str) (j : Nat) : (cutS z (some (j : Int)) none).length = z.length - j := by
  unfold cutS
  rw [HT.sIx_none, HT.sIx_nat]
  show (List.toArray _).size = _
  rw [List.size_toArray, List.length_take, List.length_drop]
  have : z.cps.toList.length = z.length := Array.length_toList
  omega
theorem range_filter_succ (p : Nat → Bool) (i : Nat) : (List.range (i + 1)).filter p = (List.range i).filter p ++ (if p i = true then [i] else []) := by
  rw [List.range_succ, List.filter_append]
  congr 1
  by_cases h : p i = true
  · rw [if_pos h]; simp [List.filter, h]
  · rw [if_neg h]; simp [List.filter, h]
def spEd : Sp := fun vs H Q _ => ∃ (L T : Str) (c : Int), vs = [.str L, .str T, .int c] ∧ goodS L = true ∧ T.length ≤ 100 ∧ ∀ (T' : Str) (H' : Hp), T'.length ≤ T.length + 1 → Ext H H' → Q (.str T') H'
theorem scEd : FnScope ["_law_letters_here", "_law_text", "_law_cell", "_law_number", "_law_others", "_law_other", "_law_some", "_law_sign", "_law_at", "_law_marks", "_law_k"] ["_law_letters_here", "_law_text", "_law_cell"] (defScope sLawEdited) := ⟨rfl, rfl, rfl, by decide +kernel, rfl, by decide +kernel, by decide +kernel⟩
section
variable {P : Program} {w : World} {K : PySem.W.Frag} {mg : Str → Option Value} {base : Heap}
theorem ed_ok {f : Addr} {fd : FuncData} (F : FnP K "_law_edited" sLawEdited f fd) (ml : mg "len" = none) (mr : mg "range" = none) (mab : mg "abs" = none) : FnOk P w K mg base CX0 1 f fd ["_law_letters_here", "_law_text", "_law_cell"] spEd := by
  refine okD F scEd (fun vs H Q E h => ?_) (fun cdv A outer s H vs Q E hr h => ?_)
  · obtain ⟨L, T, c, rfl, _⟩ := h
    rfl
  obtain ⟨L, T, c, rfl, hL, hT, q⟩ := h
  refine ⟨_, (pss_cons (ps_set (i := 3) scEd.nd rfl (Or.inl rfl) (pe_op op_mod (pe_op op_mul (pe_callB call_abs rfl mab (by decide +kernel) (pa_cons (pv 2) pa_nil)) pe_int) pe_int)) (pss_cons (ps_setLc (i := 4) (own := [("_law_sign", 7)]) (g := gName 7) rfl scEd.nd rfl rfl (sw_true rfl rfl rfl (by decide +kernel)) (pi_str pe_str)
      (blkOk_by (N := ["_law_letters_here", "_law_text", "_law_cell", "_law_number", "_law_others", "_law_other", "_law_some", "_law_sign", "_law_at", "_law_marks", "_law_k"]) (sc := defScope sLawEdited) (by decide +kernel))
      (fun _ _ _ _ _ => pg_name (i := 7) scEd.nd rfl (Or.inl rfl) (Or.inr rfl)) (fun _ _ _ _ _ => pts_one (pt_cmpR op_notIn_sign (pv 7) (pv 0) (by rfl))) (fun _ _ _ _ _ => pv 7)) (pss_cons (ps_set (i := 5) scEd.nd rfl (Or.inl rfl) (pe_ix ix_list (pv 4) (pe_op op_mod (pe_op op_fdiv (pv 3) pe_int) (pe_callB call_len rfl ml PySem.boot_len (pa_cons (pv 4) pa_nil))) (fun _ _ => rfl))) (pss_cons (ps_set (i := 6) scEd.nd rfl (Or.inl rfl) (pe_op op_add_str (pe_op op_add_str (pe_op op_add_str (pe_op op_add_str pe_str (pv 0)) pe_str) (pv 5)) (pv 5))) (pss_cons (ps_set (i := 7) scEd.nd rfl (Or.inl rfl) (pe_ix ix_str (pv 6) (pe_op op_mod (pe_op op_fdiv (pv 3) pe_int) (pe_callB call_len rfl ml PySem.boot_len (pa_cons (pv 6) pa_nil))) (fun _ _ => rfl))) (pss_cons (ps_set (i := 8) scEd.nd rfl (Or.inl rfl) (pe_op op_mod (pe_op op_fdiv (pv 3) pe_int) (pe_op op_add (pe_callB call_len rfl ml PySem.boot_len (pa_cons (pv 1) pa_nil)) pe_int))) (pss_cons (ps_if (pt_cmpR op_eq (pe_op op_mod (pv 3) pe_int) pe_int (nomark _))
      (pss_cons (ps_setLc (i := 9) (own := [("_law_k", 10)]) (g := gName 10) (tt := tTest (tOp (rIn K false) (tSl rSlS (tVar 1) (tPart (tVar 10)) (tPart (tOp (rI0 fun i j => .int (i + j)) (tVar 10) (tC (.int 1))))) (tLst (tCons (tC (.str "")) (tCons (tC (.str "|")) (tCons (tC (.str "&")) (tCons (tC (.str ")")) tNil))))))) rfl scEd.nd rfl rfl (sw_true rfl rfl rfl (by decide +kernel)) (pi_range1 rfl mr (pa_cons (pe_op op_add (pe_callB call_len rfl ml PySem.boot_len (pa_cons (pv 1) pa_nil)) pe_int) pa_nil))
        (blkOk_by (N := ["_law_letters_here", "_law_text", "_law_cell", "_law_number", "_law_others", "_law_other", "_law_some", "_law_sign", "_law_at", "_law_marks", "_law_k"]) (sc := defScope sLawEdited) (by decide +kernel))
        (fun _ _ _ _ _ => pg_name (i := 10) scEd.nd rfl (Or.inl rfl) (Or.inr rfl)) (fun _ _ _ _ _ => pts_one (pt_cmpR op_in_seq (pe_slice sl_str (pv 1) (po_some (pv 10)) (po_some (pe_op op_add (pv 10) pe_int))) (pe_lst (pa_cons pe_str (pa_cons pe_str (pa_cons pe_str (pa_cons pe_str pa_nil))))) (by rfl))) (fun _ _ _ _ _ => pv 10)) (pss_cons (ps_set (i := 8) scEd.nd rfl (Or.inl rfl) (pe_ix ix_list (pv 9) (pe_op op_mod (pe_op op_fdiv (pv 3) pe_int) (pe_callB call_len rfl ml PySem.boot_len (pa_cons (pv 9) pa_nil))) (fun _ _ => rfl))) (pss_one (ps_ret (pe_op op_add_str (pe_op op_add_str (pe_slice sl_str (pv 1) po_none (po_some (pv 8))) pe_str) (pe_slice sl_str (pv 1) (po_some (pv 8)) po_none)))))) pss_nil) (pss_cons (ps_if (pt_cmpR op_eq (pe_op op_mod (pv 3) pe_int) pe_int (nomark _))
      (pss_one (ps_ret (pe_op op_add_str (pe_op op_add_str (pe_slice sl_str (pv 1) po_none (po_some (pv 8))) (pv 7)) (pe_slice sl_str (pv 1) (po_some (pv 8)) po_none)))) pss_nil) (pss_one (ps_ret (pe_op op_add_str (pe_op op_add_str (pe_slice sl_str (pv 1) po_none (po_some (pv 8))) (pe_op op_repS (pv 7) (pe_op op_sub (pe_op op_mod (pv 3) pe_int) pe_int))) (pe_slice sl_str (pv 1) (po_some (pe_op op_add (pv 8) pe_int)) po_none)))))))))))), ?_⟩
  have l9 : ∀ n : Nat, n ≤ 500 → n ≤ sizeLine := fun n h => Nat.le_trans h (by decide)
  obtain ⟨hL1, hL4⟩ := good_len hL
  refine seq_to (fun σ' H' => ∃ n : Int, 0 ≤ n ∧ σ' = [some (.str L), some (.str T), some (.int c), some (.int n), none, none, none, none, none, none, none] ∧ H = H') (fun nx hnx => ?_) (fun σ' H' hst => ?_)
  · exact ⟨_, rfl, _, rfl, _, _, rfl, rfl, .inr ⟨by decide, by decide⟩, _, _, rfl, rfl, show (0 : Int) < 1000003 by decide, hnx _ _ ⟨_, Int.emod_nonneg _ (by decide), rfl, rfl⟩⟩
  obtain ⟨n, hn0, rfl, rfl⟩ := hst
  refine t_set ⟨alphabet, rfl, fun D hD => ?_⟩
  refine lc_signs (fun i H' => Ext H H' ∧ H' D = Option.some (.lst ((((cds alphabet).take i).filter fun c => !decide (c ∈ cds L)).map fun c => V.str (sgn c)))) ⟨(Ext.refl _).wr hD, upd_same⟩ ?_ ?_
  · rintro i ch H' hc ⟨e, hD1⟩
    have hc' : (cds alphabet)[i]? = Option.some ch := by rw [← hc]; exact Array.getElem?_toList
    have htk : (cds alphabet).take (i + 1) = (cds alphabet).take i ++ [ch] := by rw [List.take_succ, hc']; rfl
    have hi : i < 26 := Nat.lt_of_lt_of_le (List.getElem?_eq_some_iff.mp hc').1 (by decide +kernel)
    refine ⟨rfl, _, rfl, _, rfl, ch, L, rfl, rfl, _, rfl, ?_⟩
    by_cases hm : ch ∈ cds L
    · refine iffF (by show (!decide (ch ∈ cds L)) = false; rw [decide_eq_true hm]; rfl) ⟨e, ?_⟩
      rw [htk, List.filter_append, List.map_append]
      simpa [List.filter, hm] using hD1
    · refine iffT (by show (!decide (ch ∈ cds L)) = true; rw [decide_eq_false hm]; rfl) ⟨_, rfl, _, hD1, ?_, e.wr hD, ?_⟩
      · rw [List.length_map]
        have h8 := List.length_filter_le (fun c => !decide (c ∈ cds L)) ((cds alphabet).take i)
        rw [List.length_take] at h8
        exact Nat.lt_of_le_of_lt h8 (Nat.lt_of_lt_of_le (show min i (cds alphabet).length < 27 by omega) (by decide))
      · rw [upd_same, htk, List.filter_append, List.map_append]
        simp [List.filter, hm, sgn]
  rintro H1 ⟨e1, hD1⟩
  rw [← cds_len, List.take_length] at hD1
  have hol := offs_ne hL
  -- the number
  have pick : ∀ (m k : Nat), 0 < m → ∃ j : Nat, n / (k : Int) % (m : Int) = (j : Int) ∧ j < m := fun m k hm => by
    have h0 := Int.emod_nonneg (n / (k : Int)) (show (m : Int) ≠ 0 by omega)
    have h1 := Int.emod_lt_of_pos (n / (k : Int)) (show (0 : Int) < (m : Int) by omega)
    exact ⟨(n / (k : Int) % (m : Int)).toNat, by omega, by omega⟩
  obtain ⟨j, hj, hjl⟩ := pick (offs L).length 7 hol
  generalize hoc : (offs L)[j] = oc
  refine t_set ⟨_, rfl, _, rfl, _, _, rfl, rfl, show (0 : Int) < 7 ∧ (7 : Int) < 1073741824 by decide, _, rfl, .ref D, _, rfl, .inl ⟨_, SqL.of hD1, rfl⟩, _, _, rfl, rfl, ?_, D, _, _, .str (sgn oc), rfl, rfl, SqL.of hD1, ?_, ?_⟩
  · rw [List.length_map]; show (0 : Int) < (((offs L).length : Nat) : Int); omega
  · rw [List.length_map]
    show atI ((offs L).map fun c => V.str (sgn c)) (n / 7 % (((offs L).length : Nat) : Int)) = _
    rw [show n / 7 % (((offs L).length : Nat) : Int) = (j : Int) from hj]
    refine atI_nat ?_
    rw [List.getElem?_map, List.getElem?_eq_getElem hjl, hoc]; rfl
  have c8 : ("()[]|&!*" : Str).length = 8 := by decide
  have c3 : (" A-" : Str).length = 3 := by decide
  have o1 : (sgn oc).length = 1 := rfl
  have hL4' : L.length ≤ 4 := hL4
  refine t_set ⟨_, rfl, _, _, rfl, rfl, l9 _ (by rw [c8]; omega), _, _, rfl, rfl, l9 _ (by rw [slen, c8, c3]; omega), _, rfl, _, _, rfl, rfl, l9 _ (by rw [slen, slen, c8, c3, o1]; omega), _, rfl, _, _, rfl, rfl, l9 _ (by rw [slen, slen, slen, c8, c3, o1]; omega), ?_⟩
  have hsm : ("()[]|&!*" ++ L ++ " A-" ++ sgn oc ++ sgn oc : Str).length = 13 + L.length := by rw [slen, slen, slen, slen, c8, c3, o1]; omega
  obtain ⟨some_, hsome⟩ : ∃ y : Str, ("()[]|&!*" ++ L ++ " A-" ++ sgn oc ++ sgn oc : Str) = y := ⟨_, rfl⟩
  rw [hsome] at hsm
  obtain ⟨j2, hj2, hjl2⟩ := pick some_.length 15 (by omega)
  have hjl3 : j2 < (cds some_).length := by rw [cds_len]; exact hjl2
  generalize hch : (cds some_)[j2] = ch
  refine t_set ⟨_, rfl, _, rfl, _, _, rfl, rfl, show (0 : Int) < 15 ∧ (15 : Int) < 1073741824 by decide, _, rfl, .str some_, _, congrArg (fun y => [V.str y]) hsome, ⟨l9 _ (by omega), rfl⟩, _, _, rfl, rfl, ?_, some_, _, ch, congrArg V.str hsome, rfl, l9 _ (by omega), ?_, ?_⟩
  · show (0 : Int) < ((some_.length : Nat) : Int); omega
  · show atI (cds some_) (n / 15 % ((some_.length : Nat) : Int)) = _
    rw [show n / 15 % ((some_.length : Nat) : Int) = (j2 : Int) from hj2]
    exact atI_nat (by rw [List.getElem?_eq_getElem hjl3, hch])
  obtain ⟨j3, hj3, hjl4⟩ := pick (T.length + 1) 300 (by omega)
  refine seq_to (fun σ' H' => ∃ (j3 : Nat) (o5 o6 : Option V), j3 ≤ T.length ∧ σ' = [some (.str L), some (.str T), some (.int c), some (.int n), some (.ref D), o5, o6, some (.str (sgn ch)), some (nV j3), none, none] ∧ H1 = H') (fun nx hnx => ?_) (fun σ' H' hst => ?_)
  · refine ⟨_, rfl, _, _, rfl, rfl, show (0 : Int) < 300 ∧ (300 : Int) < 1073741824 by decide, _, rfl, .str T, _, rfl, ⟨l9 _ (by omega), rfl⟩, _, _, rfl, rfl, _, _, rfl, rfl, ?_, ?_⟩
    · show (0 : Int) < ((T.length : Nat) : Int) + 1; omega
    have hat : n / 300 % (((T.length : Nat) : Int) + 1) = (j3 : Int) := hj3
    refine hnx _ _ ⟨j3, some (.str (sgn oc)), some (.str ("()[]|&!*" ++ L ++ " A-" ++ sgn oc ++ sgn oc)), by omega, ?_, rfl⟩
    have hv : V.int (n / 300 % (((T.length : Nat) : Int) + 1)) = nV j3 := congrArg V.int hat
    rw [← hv]
    rfl
  clear hj3 hjl4
  obtain ⟨j3, o5, o6, hj3l, rfl, rfl⟩ := hst
  have slT : ∀ i : Nat, i ≤ T.length → cutS T (some (i : Int)) (some ((i : Int) + 1)) = txt (((cds T).drop i).take 1) := fun i hi => by
    have h := sl1 (z := cds T) (i := i) (by rw [cds_len]; exact hi)
    rwa [txt_cds] at h
  have eqt : ∀ (m k : Int) (R : Bool → Hp → Prop) (H' : Hp), (n % m = k → R true H') → (¬ n % m = k → R false H') → R (decide (V.int (n % m) = V.int k)) H' := fun m k R H' h1 h2 => by
    rw [dec_int]
    by_cases h : n % m = k
    · rw [show (n % m == k) = true from beq_iff_eq.mpr h]; exact h1 h
    · rw [show (n % m == k) = false from beq_eq_false_iff_ne.mpr h]; exact h2 h
  have hTs : T.length ≤ sizeLine := l9 _ (by omega)
  have g1 := cut_lenT T j3
  have g2 := cut_lenF T j3
  have g3 : (cutS T (some (((j3 : Nat) : Int) + 1)) none).length = T.length - (j3 + 1) := cut_lenF T (j3 + 1)
  refine seq_fall (cond := n % 5 = 4) (fun R qT qF => ?_) (fun k1 H2 e2 => ?_) (fun n1 H2 e2 => seq_fall (cond := n % 3 = 0) (fun R qT qF => ?_) (fun k1 H3 e3 => ?_) (fun n3 H3 e3 => ?_))
  · exact ⟨_, rfl, _, _, rfl, rfl, show (0 : Int) < 5 by decide, rfl, _, rfl, eqt 5 4 R H1 (fun h => qT h _ (Ext.refl _)) (fun h => qF h _ (Ext.refl _))⟩
  · refine t_set ⟨_, rfl, .str T, _, rfl, ⟨hTs, rfl⟩, _, _, rfl, rfl, _, rfl, ?_, ?_, fun D2 hD2 => ?_⟩
    · omega
    · omega
    refine lc_range (fun i H' => Ext H2 H' ∧ H' D2 = some (.lst ((marks T i).map nV))) ⟨(Ext.refl _).wr hD2, upd_same⟩ ?_ ?_
    · rintro k H' hk ⟨e, hD3⟩
      refine ⟨rfl, ?_⟩
      refine ⟨_, rfl, _, rfl, _, rfl, _, rfl, _, _, rfl, rfl, _, rfl, T, rfl, hTs, l9 4 (by omega), fun p np => ⟨p, _, rfl, .inl (SqL.of upd_same), rfl, by decide, _, rfl, ?_⟩⟩
      have hk' : k ≤ T.length := by omega
      have z0 : (0 : Int) + (k : Int) = (k : Int) := Int.zero_add _
      have hcut : cutS T (some ((0 : Int) + (k : Int))) (some ((0 : Int) + (k : Int) + 1)) = txt (((cds T).drop k).take 1) := by rw [z0]; exact slT k hk'
      have hin : inV (V.str (cutS T (some ((0 : Int) + (k : Int))) (some ((0 : Int) + (k : Int) + 1)))) [V.str "", V.str "|", V.str "&", V.str ")"] = decide (txt (((cds T).drop k).take 1) ∈ (["", "|", "&", ")"] : List Str)) := by
        rw [hcut]; exact inV_str (txt (((cds T).drop k).take 1)) ["", "|", "&", ")"]
      have hml : (marks T k).length ≤ k := by
        have := List.length_filter_le (fun k => decide (txt (((cds T).drop k).take 1) ∈ (["", "|", "&", ")"] : List Str))) (List.range k)
        rwa [List.length_range] at this
      have hms := range_filter_succ (fun k => decide (txt (((cds T).drop k).take 1) ∈ (["", "|", "&", ")"] : List Str))) k
      have hms : marks T (k + 1) = marks T k ++ (if decide (txt (((cds T).drop k).take 1) ∈ (["", "|", "&", ")"] : List Str)) = true then [k] else []) := hms
      have en := Ext.new (o := .lst [V.str "", V.str "|", V.str "&", V.str ")"]) np
      by_cases hm : txt (((cds T).drop k).take 1) ∈ (["", "|", "&", ")"] : List Str)
      · refine iffT (hin.trans (decide_eq_true hm)) ⟨_, rfl, _, en.lst hD3, ?_, (e.trans en).wr hD2, ?_⟩
        · rw [List.length_map]; exact Nat.lt_of_le_of_lt (show (marks T k).length ≤ 101 by omega) (by decide)
        · rw [upd_same, hms, if_pos (decide_eq_true hm), List.map_append, z0]; rfl
      · refine iffF (hin.trans (decide_eq_false hm)) ⟨e.trans en, ?_⟩
        rw [hms, if_neg (by rw [decide_eq_false hm]; decide), List.append_nil]
        exact en.lst hD3
    · rintro H4 ⟨e, hD4⟩
      rw [show (((T.length : Nat) : Int) + 1).toNat = T.length + 1 by omega] at hD4
      have hmn := marks_ne T
      obtain ⟨j5, hj5, hjl5⟩ := pick (marks T (T.length + 1)).length 5 hmn
      have hmk := marks_le (List.getElem_mem hjl5)
      generalize hkk : (marks T (T.length + 1))[j5] = kk at hmk
      refine t_set ⟨_, rfl, _, rfl, _, _, rfl, rfl, show (0 : Int) < 5 ∧ (5 : Int) < 1073741824 by decide, _, rfl, .ref D2, _, rfl, .inl ⟨_, SqL.of hD4, rfl⟩, _, _, rfl, rfl, ?_, D2, _, _, nV kk, rfl, rfl, SqL.of hD4, ?_, ?_⟩
      · rw [List.length_map]; show (0 : Int) < (((marks T (T.length + 1)).length : Nat) : Int); omega
      · rw [List.length_map]
        show atI ((marks T (T.length + 1)).map nV) (n / 5 % (((marks T (T.length + 1)).length : Nat) : Int)) = _
        rw [show n / 5 % (((marks T (T.length + 1)).length : Nat) : Int) = (j5 : Int) from hj5]
        refine atI_nat ?_
        rw [List.getElem?_map, List.getElem?_eq_getElem hjl5, hkk]; rfl
      have h1 := cut_lenT T kk
      have h2 := cut_lenF T kk
      have cb : ("!" : Str).length = 1 := by decide
      refine ⟨_, rfl, _, rfl, _, rfl, T, rfl, hTs, _, _, rfl, rfl, l9 _ (by rw [cb]; omega), _, rfl, _, rfl, _, rfl, T, rfl, hTs, _, _, rfl, rfl, l9 _ (by rw [slen, cb]; omega), ?_⟩
      exact q _ _ (by rw [slen, slen, cb]; omega) ((e1.trans e2).trans e)
  · exact ⟨_, rfl, _, _, rfl, rfl, show (0 : Int) < 3 by decide, rfl, _, rfl, eqt 3 0 R H2 (fun h => qT h _ (Ext.refl _)) (fun h => qF h _ (Ext.refl _))⟩
  · have cc : (sgn ch).length = 1 := rfl
    refine ⟨_, rfl, _, rfl, _, rfl, T, rfl, hTs, _, rfl, _, _, rfl, rfl, l9 _ (by rw [cc]; omega), _, rfl, _, rfl, _, rfl, T, rfl, hTs, _, _, rfl, rfl, l9 _ (by rw [slen, cc]; omega), ?_⟩
    exact q _ _ (by rw [slen, slen, cc]; omega) ((e1.trans e2).trans e3)
  · obtain ⟨m, hm⟩ : ∃ m : Nat, n % 3 - 1 = (m : Int) := ⟨(n % 3 - 1).toNat, by omega⟩
    have hm1 : m ≤ 1 := by omega
    refine ⟨_, rfl, _, rfl, _, rfl, T, rfl, hTs, _, rfl, _, rfl, _, _, rfl, rfl, show (0 : Int) < 3 by decide, _, _, rfl, rfl, ch, m, rfl, congrArg V.int hm, by omega, _, _, rfl, rfl, l9 _ (by rw [txt_len, List.length_replicate]; omega), _, rfl, _, rfl, _, _, rfl, rfl, _, rfl, T, rfl, hTs, _, _, rfl, rfl, l9 _ (by rw [slen, txt_len, List.length_replicate]; omega), ?_⟩
    exact q _ _ (by rw [slen, slen, txt_len, List.length_replicate]; omega) ((e1.trans e2).trans e3)
end
end Bo
set_option Elab.async false
set_option linter.all false
set_option maxRecDepth 100000
set_option maxHeartbeats 8000000
namespace Bo
open PySem PySem.Spec PyProof.Rows L2 GE
/-! the odd texts -/
theorem tok_one {L : Str} {c : Nat} (r : List Nat) (n1 : c ≠ 40) (n2 : c ≠ 91) : tokz L (c :: r) = one1 L c :: tokz L r := by
  cases r with
  | nil => rfl
  | cons d r => rw [tokz, if_neg (fun k => n1 k.1), if_neg (fun k => n2 k.1)]
theorem tok_rep {L : Str} {c : Nat} (n1 : c ≠ 40) (n2 : c ≠ 91) (r : List Nat) : ∀ n, tokz L (List.replicate n c ++ r) = List.replicate n (one1 L c) ++ tokz L r
  | 0 => rfl
  | n + 1 => by
    rw [List.replicate_succ, List.cons_append, tok_one _ n1 n2, tok_rep n1 n2 r n, List.replicate_succ]; rfl
theorem run_sgn (c : Nat) (s : List Lv) : ∀ (n : Nat) (l : Lv), l.n = 0 → runT (List.replicate n (.sgn c)) (s, l) = some (s, { l with row := l.row ++ List.replicate n (0, .sign c) })
  | 0, l, _ => by simp [runT]
  | n + 1, l, h => by
    rw [List.replicate_succ]
    show runT (List.replicate n (.sgn c)) (s, l.takeAtom (.sign c)) = _
    rw [run_sgn c s n _ rfl]
    unfold Lv.takeAtom
    rw [h, List.replicate_succ]
    cases l
    simp at h
    subst h
    simp
theorem run_bang (s : List Lv) : ∀ (n : Nat) (l : Lv), runT (List.replicate n .bang) (s, l) = some (s, { l with n := l.n + n })
  | 0, l => by simp [runT]
  | n + 1, l => by
    rw [List.replicate_succ]
    show runT (List.replicate n .bang) (s, l.takeNot) = _
    rw [run_bang s n]
    unfold Lv.takeNot
    rw [show l.n + 1 + n = l.n + (n + 1) by omega]
def manyN : Nat → Pat → Pat
  | 0, p => p
  | n + 1, p => manyN n (.many p)
theorem manyN_size : ∀ (n : Nat) (p : Pat), (manyN n p).size = n + p.size
  | 0, p => (Nat.zero_add _).symm
  | n + 1, p => by show (manyN n (.many p)).size = _; rw [manyN_size n]; show n + (p.size + 1) = _; omega
def one (p : Pat) : Lv := ⟨[], [], [(0, p)], 0⟩
theorem one_said (p : Pat) : (one p).said = p := rfl
theorem one_ready (p : Pat) : (one p).ready = true := rfl
theorem run_star (s : List Lv) : ∀ (n : Nat) (p : Pat), runT (List.replicate n .star) (s, one p) = some (s, one (manyN n p))
  | 0, p => rfl
  | n + 1, p => by
    rw [List.replicate_succ]
    show runT (List.replicate n .star) (s, one (.many p)) = _
    rw [run_star s n]; rfl
theorem run_lp : ∀ (n : Nat) (s : List Lv), runT (List.replicate n .lp) (s, .new) = some (List.replicate n .new ++ s, .new)
  | 0, s => rfl
  | n + 1, s => by
    rw [List.replicate_succ]
    show runT (List.replicate n .lp) (.new :: s, .new) = _
    rw [run_lp n (.new :: s), List.replicate_succ', List.append_assoc]; rfl
theorem run_rp : ∀ (n : Nat) (s : List Lv) (p : Pat), runT (List.replicate n .rp) (List.replicate n .new ++ s, one p) = some (s, one p)
  | 0, s, p => rfl
  | n + 1, s, p => by
    rw [List.replicate_succ, List.replicate_succ]
    show runT (List.replicate n .rp) (List.replicate n .new ++ s, one p) = _
    exact run_rp n s p
end Bo
set_option Elab.async false
set_option linter.all false
set_option maxRecDepth 100000
set_option maxHeartbeats 8000000
namespace Bo
open PySem PySem.Spec PyProof.Rows L2 GE
theorem good_az {L : Str} (h : goodS L = true) {c : Nat} (hc : c ∈ cds L) : 97 ≤ c ∧ c ≤ 122 := by
  unfold goodS at h
  simp only [Bool.and_eq_true] at h
  exact of_decide_eq_true (List.all_eq_true.mp h.1.2 c hc)
theorem tok_nil (L : Str) : tokz L [] = [] := rfl
theorem sizeL_rep (n c : Nat) : sizeL (List.replicate n (Pat.sign c)) = n := by
  induction n with
  | zero => rfl
  | succ n ih => rw [List.replicate_succ, sizeL, ih]; show 1 + n = _; omega
theorem reads_row {n c : Nat} (hn : 2 ≤ n) : Reads1 (List.replicate n (.sgn c)) (.row (List.replicate n (.sign c))) := by
  refine ⟨⟨[], [], List.replicate n (0, .sign c), 0⟩, ?_, ?_, ?_⟩
  · have := run_sgn c [] n .new rfl
    rw [this]; rfl
  · refine ready_of ?_
    intro e
    have := congrArg List.length e
    rw [List.length_replicate] at this
    simp at this; omega
  · have e : (List.replicate n ((0, .sign c) : Nat × Pat)).map ntq = List.replicate n (.sign c) := by rw [List.map_replicate]; rfl
    show tog .or [tog .and [tog .row ((List.replicate n ((0, .sign c) : Nat × Pat)).map ntq)]] = _
    rw [e]
    show tog .row (List.replicate n (.sign c)) = _
    obtain ⟨m, rfl⟩ : ∃ m, n = m + 2 := ⟨n - 2, by omega⟩
    rw [List.replicate_succ, List.replicate_succ]; rfl
section
variable {L : Str} {c : Nat} (hL : goodS L = true) (hc : c ∈ cds L)
include hL hc
theorem tok_c (r : List Nat) : tokz L (c :: r) = .sgn c :: tokz L r := by
  have az := good_az hL hc
  rw [tok_one r (by omega) (by omega), one1_sgn hc az]
theorem tok_cs (n : Nat) : tokz L (List.replicate n c) = List.replicate n (.sgn c) := by
  have az := good_az hL hc
  have h := tok_rep (L := L) (c := c) (by omega) (by omega) [] n
  rw [List.append_nil, tok_nil, List.append_nil, one1_sgn hc az] at h
  exact h
theorem row_reads {n : Nat} (hn : 2 ≤ n) : Reads1 (tokz L (List.replicate n c)) (.row (List.replicate n (.sign c))) := by
  rw [tok_cs hL hc]; exact reads_row hn
theorem stars_reads (n : Nat) : Reads1 (tokz L (c :: List.replicate n 42)) (manyN n (.sign c)) := by
  rw [tok_c hL hc]
  have h2 := tok_rep (L := L) (c := 42) (by omega) (by omega) [] n
  rw [List.append_nil, tok_nil, List.append_nil] at h2
  rw [h2]
  exact ⟨one (manyN n (.sign c)), run_star [] n (.sign c), one_ready _, one_said _⟩
theorem bangs_reads (n : Nat) : Reads1 (tokz L (List.replicate n 33 ++ [c])) (nt n (.sign c)) := by
  rw [tok_rep (L := L) (c := 33) (by omega) (by omega) [c] n, tok_c hL hc, tok_nil]
  refine ⟨⟨[], [], [(n, .sign c)], 0⟩, ?_, rfl, rfl⟩
  rw [runT_app]
  have e : one1 L 33 = .bang := rfl
  rw [e, run_bang [] n .new]
  show some (([], (⟨[], [], [] ++ [(0 + n, .sign c)], 0⟩ : Lv)) : List Lv × Lv) = _
  rw [Nat.zero_add]; rfl
end
end Bo
set_option Elab.async false
set_option linter.all false
set_option maxRecDepth 100000
set_option maxHeartbeats 8000000
namespace Bo
open PySem PySem.Spec PyProof.Rows L2 GE
theorem tok_lp1 {L : Str} {d : Nat} (r : List Nat) (hd : d ≠ 41) : tokz L (40 :: d :: r) = .lp :: tokz L (d :: r) := by
  rw [tokz, if_neg (fun k => hd k.2), if_neg (fun k => absurd k.1 (by decide))]; rfl
theorem tok_lp {L : Str} {d : Nat} (r : List Nat) (hd : d ≠ 41) : ∀ n, tokz L (List.replicate n 40 ++ d :: r) = List.replicate n .lp ++ tokz L (d :: r)
  | 0 => rfl
  | n + 1 => by
    have ih := tok_lp (L := L) r hd n
    cases n with
    | zero => exact tok_lp1 r hd
    | succ n =>
      rw [List.replicate_succ, List.replicate_succ, List.cons_append, List.cons_append, tok_lp1 _ (by decide)]
      rw [List.replicate_succ, List.cons_append] at ih
      rw [ih]; rfl
theorem tok_rp {L : Str} (r : List Nat) (n : Nat) : tokz L (List.replicate n 41 ++ r) = List.replicate n .rp ++ tokz L r := by
  rw [tok_rep (by decide) (by decide) r n]; rfl
theorem reads_deep (n : Nat) (p : Pat) (t : Tok) (ht : ∀ s l, stepT t (s, l) = some (s, l.takeAtom p)) : runT (List.replicate n .lp ++ t :: List.replicate n .rp) ([], .new) = some ([], one p) := by
  rw [runT_app, run_lp n []]
  show (stepT t (List.replicate n .new ++ [], .new)).bind (runT (List.replicate n .rp)) = _
  rw [ht]
  exact run_rp n [] p
theorem empty_reads (L : Str) (n : Nat) : Reads1 (tokz L (List.replicate n 40 ++ 40 :: 41 :: List.replicate n 41)) .empty := by
  rw [tok_lp _ (by decide)]
  have e : tokz L (40 :: 41 :: List.replicate n 41) = .unit :: List.replicate n .rp := by
    have h2 := tok_rp (L := L) [] n
    rw [List.append_nil, tok_nil, List.append_nil] at h2
    rw [tokz, if_pos ⟨rfl, rfl⟩, h2]
  rw [e]
  exact ⟨one .empty, reads_deep n .empty .unit (fun _ _ => rfl), rfl, rfl⟩
theorem two_reads {L : Str} {c : Nat} (hL : goodS L = true) (hc : c ∈ cds L) (n : Nat) : Reads1 (tokz L (List.replicate n 40 ++ c :: (List.replicate n 41 ++ [c]))) (.row [.sign c, .sign c]) := by
  have az := good_az hL hc
  rw [tok_lp _ (by omega), tok_c hL hc, tok_rp, tok_c hL hc, tok_nil]
  refine ⟨⟨[], [], [(0, .sign c), (0, .sign c)], 0⟩, ?_, rfl, rfl⟩
  have e : List.replicate n Tok.lp ++ Tok.sgn c :: (List.replicate n .rp ++ [.sgn c]) = (List.replicate n .lp ++ .sgn c :: List.replicate n .rp) ++ [.sgn c] := by simp
  rw [e, runT_app, reads_deep n (.sign c) (.sgn c) (fun _ _ => rfl)]
  rfl
end Bo
set_option Elab.async false
set_option linter.all false
set_option maxRecDepth 100000
set_option maxHeartbeats 8000000
namespace Bo
open PySem PySem.Spec PyProof.Rows L2 GE
mutual
theorem dp_ext {K : PySem.W.Frag} {H H' : Hp} (e : Ext H H') : ∀ (d : PyData) (v : V), Dp K H v d → Dp K H' v d
  | .none, _, h => by cases h; exact .non
  | .bool b, _, h => by cases h; exact .bl b
  | .int i, _, h => by cases h; exact .int i
  | .str x, _, h => by cases h; exact .str x
  | .list ds, _, h => by
    cases h with
    | lst hs ha => exact .lst (e.sqL hs) (dpAll_ext e ds _ ha)
  | .tuple ds, _, h => by
    cases h with
    | tup hs ha => exact .tup (e.sqT _ _ hs) (dpAll_ext e ds _ ha)
  | .dict _, _, h => by cases h
theorem dpAll_ext {K : PySem.W.Frag} {H H' : Hp} (e : Ext H H') : ∀ (ds : List PyData) (vs : List V), DpAll K H vs ds → DpAll K H' vs ds
  | [], _, h => by cases h; exact .nil
  | d :: ds, _, h => by
    cases h with
    | cons h1 h2 => exact .cons (dp_ext e d _ h1) (dpAll_ext e ds _ h2)
end
/-- an entry of the odd texts: what is handed in, and what is due -/
def Ent (K : PySem.W.Frag) (L : Str) (H : Hp) (v : V) : Prop := ∃ (r : Addr) (tv dv : V) (d : PyData), v = .ref r ∧ H r = some (.tup [tv, dv]) ∧ (∃ Ty, Kn K H tv Ty) ∧ Dp K H dv d ∧ ToldIs (.str L) tv d ∧ DOk d
theorem Ent.ext {K : PySem.W.Frag} {L : Str} {H H' : Hp} {v : V} (e : Ext H H') (h : Ent K L H v) : Ent K L H' v := by
  obtain ⟨r, tv, dv, d, h1, h2, ⟨Ty, h3⟩, h4, h5, h6⟩ := h
  exact ⟨r, tv, dv, d, h1, e.tup h2, ⟨Ty, kn_ext e h3⟩, dp_ext e _ _ h4, h5, h6⟩
def Ents (K : PySem.W.Frag) (L : Str) (H : Hp) (vs : List V) : Prop := ∀ v ∈ vs, Ent K L H v
theorem Ents.ext {K : PySem.W.Frag} {L : Str} {H H' : Hp} {vs : List V} (e : Ext H H') (h : Ents K L H vs) : Ents K L H' vs := fun v hv => (h v hv).ext e
theorem Ents.app {K : PySem.W.Frag} {L : Str} {H : Hp} {vs us : List V} (h : Ents K L H vs) (g : Ents K L H us) : Ents K L H (vs ++ us) := fun v hv => (List.mem_append.mp hv).elim (h v) (g v)
theorem Ents.nil {K : PySem.W.Frag} {L : Str} {H : Hp} : Ents K L H [] := fun v hv => by cases hv
theorem Ents.cons {K : PySem.W.Frag} {L : Str} {H : Hp} {v : V} {us : List V} (h : Ent K L H v) (g : Ents K L H us) : Ents K L H (v :: us) := fun x hx => (List.mem_cons.mp hx).elim (fun e => e ▸ h) (g x)
/-- what an expression's value is, the heap grown -/
def Gives (te : TE) (σ : L2.St) (H : Hp) (G : V → Hp → Prop) : Prop := ∀ R : VK, (∀ v H1, Ext H H1 → G v H1 → R v H1) → te σ H R
theorem r_ent {K : PySem.W.Frag} {L : Str} {σ : L2.St} {H : Hp} {Q : VK} {ta tb : TE} {d : PyData} (hd : DOk d) (h1 : Gives ta σ H fun tv H1 => (∃ Ty, Kn K H1 tv Ty) ∧ ToldIs (.str L) tv d) (h2 : ∀ H1, Ext H H1 → Gives tb σ H1 fun dv H2 => Dp K H2 dv d)
    (q : ∀ v H', Ext H H' → Ent K L H' v → Q v H') : tTup (tCons ta (tCons tb tNil)) σ H Q := by
  refine h1 _ fun tv H1 e1 ⟨⟨Ty, hk⟩, ht⟩ => h2 H1 e1 _ fun dv H2 e2 hv => ⟨by show 2 ≤ sizeLine; decide, fun p hp => ?_⟩
  have f := Ext.new (o := .tup [tv, dv]) hp
  exact q _ _ (e1.trans (e2.trans f)) ⟨p, tv, dv, d, rfl, upd_same, ⟨Ty, kn_ext (e2.trans f) hk⟩, dp_ext f _ _ hv, ht, hd⟩
theorem r_entC {K : PySem.W.Frag} {L : Str} {σ : L2.St} {H : Hp} {Q : List V → Hp → Prop} {ta tb : TE} {tr : TA} {d : PyData} (hd : DOk d) (h1 : Gives ta σ H fun tv H1 => (∃ Ty, Kn K H1 tv Ty) ∧ ToldIs (.str L) tv d) (h2 : ∀ H1, Ext H H1 → Gives tb σ H1 fun dv H2 => Dp K H2 dv d)
    (q : ∀ v H', Ext H H' → Ent K L H' v → tr σ H' fun xs H2 => Q (v :: xs) H2) : tCons (tTup (tCons ta (tCons tb tNil))) tr σ H Q := r_ent (K := K) (L := L) hd h1 h2 q
theorem r_lst {σ : L2.St} {H : Hp} {Q : VK} {t : TA} (h : t σ H fun xs H1 => xs.length ≤ sizeLine ∧ ∀ p, H1 p = none → Q (.ref p) (upd H1 p (.lst xs))) : tLst t σ H Q := h
theorem r_catL {σ : L2.St} {H : Hp} {Q : VK} {i : Nat} {v : V} {t : TE} (h0 : σ[i]? = some (some v)) (h : t σ H fun y H2 => rCat v y H2 Q) : tOp rCat (tVar i) t σ H Q := ⟨_, h0, h⟩
theorem r_asg {σ : L2.St} {H : Hp} {D : Ends} {i : Nat} {te : TE} (h : te σ H fun x H1 => D.nx (σ.set i (some x)) H1) : tAsg te (gName i) D σ H := h
theorem gv_word {K : PySem.W.Frag} {σ : L2.St} {H : Hp} (x : Str) : Gives (tLst (tCons (tC (.str x)) tNil)) σ H fun v H1 => Dp K H1 v (.list [.str x]) := fun R q =>
  ⟨by show 1 ≤ sizeLine; decide, fun p hp => q _ _ (Ext.new hp) (dp_word upd_same)⟩
theorem gv_bad {L : Str} {X : Prop} (hL : goodS L = true) (h : goodV (.str L) = false) : X := by
  rw [show goodV (.str L) = goodS L from rfl, hL] at h
  cases h
theorem told_of {L : Str} (hL : goodS L = true) {z : List Nat} {d : PyData} (h1 : z.length ≤ 1000) (h2 : 400 < z.length → d = dGreat) (h3 : z.length ≤ 400 → d = due L z) : ToldIs (.str L) (.str (txt z)) d :=
  ⟨fun h => gv_bad hL h, fun _ n => absurd rfl (n (txt z)), fun L' z' e1 _ e2 => by
    have e1 : L = L' := by injection e1
    have e2 : txt z = txt z' := by injection e2
    subst e1
    cases txt_inj e2
    exact ⟨h1, h2, h3⟩⟩
theorem told_no {L : Str} (hL : goodS L = true) {tv : V} (n : ∀ z, tv ≠ .str z) : ToldIs (.str L) tv dText :=
  ⟨fun h => gv_bad hL h, fun _ _ => rfl, fun L' z' _ _ e2 => absurd e2 (n _)⟩
section
variable {L : Str} {c : Nat} (hL : goodS L = true) (hc : c ∈ cds L)
include hL
theorem told_long {n : Nat} (b : Nat) (h : 400 < n) (h2 : n ≤ 1000) : ToldIs (.str L) (.str (txt (List.replicate n b))) dGreat :=
  told_of hL (by rw [List.length_replicate]; exact h2) (fun _ => rfl) (fun k => by rw [List.length_replicate] at k; omega)
theorem told_deep {n : Nat} (h : n ≤ 190) : ToldIs (.str L) (.str (txt (List.replicate (n + 1) 40 ++ List.replicate (n + 1) 41))) (pd .empty) := by
  have e : List.replicate (n + 1) 40 ++ List.replicate (n + 1) 41 = List.replicate n 40 ++ 40 :: 41 :: List.replicate n 41 := by
    rw [List.replicate_succ' (a := 40), List.replicate_succ (a := 41), List.append_assoc]; rfl
  have hl : (List.replicate (n + 1) 40 ++ List.replicate (n + 1) 41).length ≤ 400 := by rw [List.length_append, List.length_replicate, List.length_replicate]; omega
  refine told_of hL (by omega) (fun k => by omega) (fun _ => ?_)
  rw [e, due_reads (empty_reads L n)]
  rfl
include hc
theorem told_row {n : Nat} (h : n ≤ 59) (h2 : 2 ≤ n) : ToldIs (.str L) (.str (txt (List.replicate n c))) (pd (.row (List.replicate n (.sign c)))) := by
  refine told_of hL (by rw [List.length_replicate]; omega) (fun k => by rw [List.length_replicate] at k; omega) (fun _ => ?_)
  rw [due_reads (row_reads hL hc h2), if_neg]
  show ¬ 60 < sizeL _ + 1
  rw [sizeL_rep]; omega
theorem told_row2 {n : Nat} (h : 60 ≤ n) (h2 : n ≤ 400) : ToldIs (.str L) (.str (txt (List.replicate n c))) dGreat := by
  refine told_of hL (by rw [List.length_replicate]; omega) (fun _ => rfl) (fun _ => ?_)
  rw [due_reads (row_reads hL hc (by omega)), if_pos]
  show 60 < sizeL _ + 1
  rw [sizeL_rep]; omega
theorem told_bangs {n : Nat} (h : 60 ≤ n) (h2 : n ≤ 300) : ToldIs (.str L) (.str (txt (List.replicate n 33 ++ [c]))) dGreat := by
  have hl : (List.replicate n 33 ++ [c]).length = n + 1 := by rw [List.length_append, List.length_replicate]; rfl
  refine told_of hL (by omega) (fun k => by omega) (fun _ => ?_)
  rw [due_reads (bangs_reads hL hc n), if_pos]
  rw [nt_size]
  show 60 < n + 1
  omega
theorem told_stars {n : Nat} (h : 60 ≤ n) (h2 : n ≤ 300) : ToldIs (.str L) (.str (txt (c :: List.replicate n 42))) dGreat := by
  have hl : (c :: List.replicate n 42).length = n + 1 := by simp
  refine told_of hL (by omega) (fun k => by omega) (fun _ => ?_)
  rw [due_reads (stars_reads hL hc n), if_pos]
  rw [manyN_size]
  show 60 < n + 1
  omega
theorem told_two {n : Nat} (h : n ≤ 199) : ToldIs (.str L) (.str (txt (List.replicate n 40 ++ c :: (List.replicate n 41 ++ [c])))) (pd (.row [.sign c, .sign c])) := by
  have hl : (List.replicate n 40 ++ c :: (List.replicate n 41 ++ [c])).length = n + (n + 1 + 1) := by rw [List.length_append, List.length_cons, List.length_append, List.length_replicate, List.length_replicate]; rfl
  refine told_of hL (by omega) (fun k => by omega) (fun _ => ?_)
  rw [due_reads (two_reads hL hc n)]
  rfl
end
theorem patsQ_rep {K : PySem.W.Frag} {H : Hp} {p : Pat} {v : V} (h : PatQ K H p v) : ∀ n, PatsQ K H (List.replicate n p) (List.replicate n [v]).flatten
  | 0 => rfl
  | n + 1 => by
    rw [List.replicate_succ, List.replicate_succ]
    exact ⟨v, _, rfl, h, patsQ_rep h n⟩
theorem tk_lst {K : PySem.W.Frag} {H : Hp} {l : Addr} {xs : List V} {o : HO} (h : H l = some (.lst xs)) : Tk K H (upd H l o) :=
  (Upd.wr (S := [l]) List.mem_cons_self ⟨_, h⟩).tk (fun x hx => .inl ⟨xs, by rw [List.mem_singleton.mp hx]; exact h⟩)
theorem r_rep {σ : L2.St} {H : Hp} {Q : VK} {i : Nat} {c : Nat} (n : Nat) (hn : n ≤ 500) (h0 : σ[i]? = some (some (.str (sgn c)))) (q : Q (.str (txt (List.replicate n c))) H) : tOp rRepS (tVar i) (tC (.int (n : Int))) σ H Q := ⟨_, h0, c, n, rfl, rfl, hn, q⟩
theorem r_repC {σ : L2.St} {H : Hp} {Q : VK} {c : Nat} (n : Nat) (hn : n ≤ 500) (q : Q (.str (txt (List.replicate n c))) H) : tOp rRepS (tC (.str (sgn c))) (tC (.int (n : Int))) σ H Q := ⟨c, n, rfl, rfl, hn, q⟩
theorem txt_sgn (a : List Nat) (c : Nat) : txt a ++ sgn c = txt (a ++ [c]) := txt_app a [c]
theorem sgn_txt (a : List Nat) (c : Nat) : sgn c ++ txt a = txt (c :: a) := txt_app [c] a
def spOdd (K : PySem.W.Frag) : Sp := fun vs H Q _ => ∃ (L : Str) (c : Int), vs = [.str L, .int c] ∧ goodS L = true ∧ ∀ v H', Ext H H' → Ent K L H' v → Q v H'
section
variable {P : Program} {w : World} {K : PySem.W.Frag} {mg : Str → Option Value} {base : Heap}
theorem scOd : FnScope ["_law_letters_here", "_law_cell", "_law_sign", "_law_some", "_law_one"] ["_law_letters_here", "_law_cell"] (defScope sLawOdd) := ⟨rfl, rfl, rfl, by decide +kernel, rfl, by decide +kernel, by decide +kernel⟩
theorem od_ok {f : Addr} {fd : FuncData} (F : FnP K "_law_odd" sLawOdd f fd) (ml : mg "len" = none) : FnOk P w K mg base CX0 1 f fd ["_law_letters_here", "_law_cell"] (spOdd K) := by
  refine okD F scOd (fun vs H Q E h => ?_) (fun cdv A outer s H vs Q E hr h => ?_)
  · obtain ⟨L, c, rfl, _⟩ := h
    rfl
  obtain ⟨L, cell, rfl, hL, q⟩ := h
  refine ⟨_, (pss_cons (ps_set (i := 2) scOd.nd rfl (Or.inl rfl) (pe_ix ix_str (pv 0) (pe_op op_mod (pe_op op_fdiv (pv 1) pe_int) (pe_callB call_len rfl ml PySem.boot_len (pa_cons (pv 0) pa_nil))) (fun _ _ => rfl))) (pss_cons (ps_set (i := 3) scOd.nd rfl (Or.inl rfl) (pe_lst (pa_cons (pe_tup (pa_cons (pe_op op_repS (pv 2) pe_int) (pa_cons (pe_lst (pa_cons pe_str pa_nil)) pa_nil))) (pa_cons (pe_tup (pa_cons (pe_op op_repS pe_str pe_int) (pa_cons (pe_lst (pa_cons pe_str pa_nil)) pa_nil))) (pa_cons (pe_tup (pa_cons (pe_op op_repS (pv 2) pe_int) (pa_cons (pe_lst (pa_cons pe_str pa_nil)) pa_nil))) (pa_cons (pe_tup (pa_cons (pe_op op_add_str (pe_op op_repS pe_str pe_int) (pv 2)) (pa_cons (pe_lst (pa_cons pe_str pa_nil)) pa_nil))) pa_nil)))))) (pss_cons (ps_set (i := 3) scOd.nd rfl (Or.inl rfl) (pe_op op_cat (pv 3) (pe_lst (pa_cons (pe_tup (pa_cons (pe_op op_add_str (pv 2) (pe_op op_repS pe_str pe_int)) (pa_cons (pe_lst (pa_cons pe_str pa_nil)) pa_nil))) (pa_cons (pe_tup (pa_cons (pe_op op_add_str (pe_op op_repS pe_str pe_int) (pe_op op_repS pe_str pe_int)) (pa_cons (pe_tup (pa_cons pe_str pa_nil)) pa_nil))) (pa_cons (pe_tup (pa_cons pe_non (pa_cons (pe_lst (pa_cons pe_str pa_nil)) pa_nil))) pa_nil)))))) (pss_cons (ps_set (i := 3) scOd.nd rfl (Or.inl rfl) (pe_op op_cat (pv 3) (pe_lst (pa_cons (pe_tup (pa_cons pe_int (pa_cons (pe_lst (pa_cons pe_str pa_nil)) pa_nil))) (pa_cons (pe_tup (pa_cons (pe_lst (pa_cons (pv 2) pa_nil)) (pa_cons (pe_lst (pa_cons pe_str pa_nil)) pa_nil))) (pa_cons (pe_tup (pa_cons (pe_op op_repS (pv 2) pe_int) (pa_cons (pe_tup (pa_cons pe_str (pa_cons (pe_op op_repT (pe_tup (pa_cons (pe_tup (pa_cons pe_str (pa_cons (pv 2) pa_nil))) pa_nil)) pe_int) pa_nil))) pa_nil))) pa_nil)))))) (pss_cons (ps_set (i := 4) scOd.nd rfl (Or.inl rfl) (pe_tup (pa_cons pe_str (pa_cons (pv 2) pa_nil)))) (pss_cons (ps_expr (pe_bm PySem.F.plainAttrs_list PySem.F.slot_list_append PySem.F.type_list_append mt_append (pv 3) (pa_cons (pe_tup (pa_cons (pe_op op_add_str (pe_op op_add_str (pe_op op_add_str (pe_op op_repS pe_str pe_int) (pv 2)) (pe_op op_repS pe_str pe_int)) (pv 2)) (pa_cons (pe_tup (pa_cons pe_str (pa_cons (pe_tup (pa_cons (pv 4) (pa_cons (pv 4) pa_nil))) pa_nil))) pa_nil))) pa_nil))) (pss_one (ps_ret (pe_ix ix_list (pv 3) (pe_op op_mod (pv 1) pe_int) (fun _ _ => rfl)))))))))), ?_⟩
  have l9 : ∀ n : Nat, n ≤ 1000 → n ≤ sizeLine := fun n h => Nat.le_trans h (by decide)
  obtain ⟨hL1, hL4⟩ := good_len hL
  have hcl : (cds L).length = L.cps.size := Array.length_toList
  have hm : 0 ≤ cell / 11 % ((L.length : Nat) : Int) ∧ cell / 11 % ((L.length : Nat) : Int) < ((L.length : Nat) : Int) := by
    have h0 : (0 : Int) < ((L.length : Nat) : Int) := by show (0 : Int) < ((L.cps.size : Nat) : Int); omega
    exact ⟨Int.emod_nonneg _ (by omega), Int.emod_lt_of_pos _ h0⟩
  obtain ⟨j, hj⟩ : ∃ j : Nat, cell / 11 % ((L.length : Nat) : Int) = (j : Int) := ⟨_, (Int.toNat_of_nonneg hm.1).symm⟩
  have hjl : j < (cds L).length := by
    have := hm.2
    rw [hj] at this
    rw [hcl]
    show j < L.length
    omega
  have hlL : L.length ≤ sizeLine := l9 _ (Nat.le_trans hL4 (by decide))
  have hcm : (cds L)[j] ∈ cds L := List.getElem_mem hjl
  have hat : atI (cds L) (cell / 11 % ((L.length : Nat) : Int)) = some (cds L)[j] := by rw [hj]; exact atI_nat (List.getElem?_eq_getElem hjl)
  generalize (cds L)[j] = c at hcm hat
  have p1 : (0 : Int) < ((L.length : Nat) : Int) := by show (0 : Int) < ((L.cps.size : Nat) : Int); omega
  refine t_set ⟨_, rfl, _, rfl, _, _, rfl, rfl, show (0 : Int) < 11 ∧ (11 : Int) < 1073741824 by decide, _, rfl, .str L, _, rfl, ⟨hlL, rfl⟩, _, _, rfl, rfl, p1, L, _, c, rfl, rfl, hlL, hat, ?_⟩
  have gv : ∀ {te : TE} {σ : L2.St} {H1 : Hp} {z : List Nat} {d : PyData}, (∀ R : VK, R (.str (txt z)) H1 → te σ H1 R) → ToldIs (.str L) (.str (txt z)) d → Gives te σ H1 fun tv H1 => (∃ Ty, Kn K H1 tv Ty) ∧ ToldIs (.str L) tv d := fun h ht R q => h R (q _ _ (Ext.refl _) ⟨⟨_, Kn.ofStr _ _ _⟩, ht⟩)
  have lr : ∀ (n b : Nat), (txt (List.replicate n b)).length = n := fun n b => by rw [txt_len, List.length_replicate]
  have ls : (sgn c).length = 1 := rfl
  have fin : ∀ (vs us : List V) (H1 : Hp) (p : Addr), Ents K L H1 vs → Ents K L H1 us → H1 p = none → Ents K L (upd H1 p (.lst (vs ++ us))) (vs ++ us) := fun vs us H1 p h g hp => (h.app g).ext (Ext.new hp)
  -- four
  refine seq_to (fun σ' H' => ∃ a vs, σ' = [some (.str L), some (.int cell), some (.str (sgn c)), some (.ref a), none] ∧ Ext H H' ∧ H' a = some (.lst vs) ∧ vs.length = 4 ∧ Ents K L H' vs) (fun nx hnx => ?_) (fun σ' H1 hst => ?_)
  · refine r_asg (r_lst ?_)
    refine r_entC (K := K) (L := L) dok_great (gv (fun R q => r_rep (c := c) 401 (by omega) rfl q) (told_long hL c (by omega) (by omega))) (fun H1 e1 => gv_word "great") fun v1 H1 e1 g1 => ?_
    refine r_entC (K := K) (L := L) dok_great (gv (fun R q => r_repC (c := 40) 401 (by omega) q) (told_long hL 40 (by omega) (by omega))) (fun H1 e1 => gv_word "great") fun v2 H2 e2 g2 => ?_
    refine r_entC (K := K) (L := L) dok_great (gv (fun R q => r_rep (c := c) 60 (by omega) rfl q) (told_row2 hL hcm (n := 60) (by omega) (by omega))) (fun H1 e1 => gv_word "great") fun v3 H3 e3 g3 => ?_
    refine r_entC (K := K) (L := L) dok_great (gv (fun R q => r_repC (c := 33) 60 (by omega) ⟨_, rfl, _, _, rfl, rfl, l9 _ (by rw [lr]; show 60 + 1 ≤ 1000; omega), (by rw [← txt_sgn] at q; exact q)⟩) (told_bangs hL hcm (n := 60) (by omega) (by omega))) (fun H1 e1 => gv_word "great") fun v4 H4 e4 g4 => ?_
    refine ⟨l9 4 (by omega), fun p hp => hnx _ _ ⟨p, [v1, v2, v3, v4], rfl, (e1.trans (e2.trans (e3.trans e4))).wr ((e1.trans (e2.trans (e3.trans e4))).free hp), upd_same, rfl, ?_⟩⟩
    refine Ents.ext (Ext.new hp) (.cons (g1.ext (e2.trans (e3.trans e4))) (.cons (g2.ext (e3.trans e4)) (.cons (g3.ext e4) (.cons g4 .nil))))
  obtain ⟨a, vs, rfl, e0, ha, hl, hE⟩ := hst
  -- seven
  refine seq_to (fun σ' H' => ∃ a vs, σ' = [some (.str L), some (.int cell), some (.str (sgn c)), some (.ref a), none] ∧ Ext H H' ∧ H' a = some (.lst vs) ∧ vs.length = 7 ∧ Ents K L H' vs) (fun nx hnx => ?_) (fun σ' H2 hst => ?_)
  · refine r_asg (r_catL rfl (r_lst ?_))
    refine r_entC (K := K) (L := L) dok_great (gv (fun R q => ⟨_, rfl, r_repC (c := 42) 60 (by omega) ⟨_, _, rfl, rfl, l9 _ (by rw [lr]; show 1 + 60 ≤ 1000; omega), (by rw [← sgn_txt] at q; exact q)⟩⟩) (told_stars hL hcm (n := 60) (by omega) (by omega))) (fun H1 e1 => gv_word "great") fun v1 H2 e1 g1 => ?_
    refine r_entC (K := K) (L := L) (d := pd .empty) ⟨by decide +kernel, by decide +kernel⟩ (gv (fun R q => r_repC (c := 40) 150 (by omega) (r_repC (c := 41) 150 (by omega) ⟨_, _, rfl, rfl, l9 _ (by rw [lr, lr]; omega), (by rw [← txt_app] at q; exact q)⟩)) (told_deep hL (n := 149) (by omega))) (fun H1 e1 R q => ⟨l9 1 (by omega), fun p hp => q _ _ (Ext.new hp) (.tup (SqT.of upd_same) (.cons (.str _) .nil))⟩) fun v2 H3 e2 g2 => ?_
    refine r_entC (K := K) (L := L) dok_text (fun R q => q .non H3 (Ext.refl _) ⟨⟨"NoneType", .base .non, by decide⟩, told_no hL (fun z h => by cases h)⟩) (fun H1 e1 => gv_word "text") fun v3 H4 e3 g3 => ?_
    have e14 := e1.trans (e2.trans e3)
    refine ⟨l9 3 (by omega), fun p hp => ⟨a, p, vs, [v1, v2, v3], rfl, rfl, (e14.trans (Ext.new hp)).lst ha, upd_same, l9 _ (by rw [hl]; show 4 + 3 ≤ _; omega), fun p2 hp2 => hnx _ _ ⟨p2, _, rfl, ?_, upd_same, by rw [List.length_append, hl]; rfl, ?_⟩⟩⟩
    · exact (e0.trans (e14.trans (Ext.new hp))).trans (Ext.new hp2)
    · exact fin _ _ _ _ (hE.ext (e14.trans (Ext.new hp))) (Ents.ext (Ext.new hp) (.cons (g1.ext (e2.trans e3)) (.cons (g2.ext e3) (.cons g3 .nil)))) hp2
  clear ha hl hE e0
  obtain ⟨a, vs, rfl, e0, ha, hl, hE⟩ := hst
  -- ten
  refine seq_to (fun σ' H' => ∃ a vs Hb, σ' = [some (.str L), some (.int cell), some (.str (sgn c)), some (.ref a), none] ∧ Ext H Hb ∧ Hb a = none ∧ Ext Hb H' ∧ H' a = some (.lst vs) ∧ vs.length = 10 ∧ Ents K L Hb vs) (fun nx hnx => ?_) (fun σ' H3 hst => ?_)
  · refine r_asg (r_catL rfl (r_lst ?_))
    refine r_entC (K := K) (L := L) dok_text (fun R q => q (.int 7) H2 (Ext.refl _) ⟨⟨"int", .base (.int 7), by decide⟩, told_no hL (fun z h => by cases h)⟩) (fun H1 e1 => gv_word "text") fun v1 H3 e1 g1 => ?_
    refine r_entC (K := K) (L := L) dok_text (fun R q => ⟨_, rfl, l9 1 (by omega), fun p hp => q _ _ (Ext.new hp) ⟨⟨"list", kn_lstA upd_same⟩, told_no hL (fun z h => by cases h)⟩⟩) (fun H1 e1 => gv_word "text") fun v2 H4 e2 g2 => ?_
    have ok59 : DOk (pd (.row (List.replicate 59 (.sign c)))) := by
      have h1 := pd_depth (.row (List.replicate 59 (.sign c)))
      have h2 := dep_size (.row (List.replicate 59 (.sign c)))
      have h3 : (Pat.row (List.replicate 59 (.sign c))).size = 59 + 1 := by show sizeL _ + 1 = _; rw [sizeL_rep]
      refine ⟨pd_lay hL _ (reads_ok (z := List.replicate 59 c) (row_reads hL hcm (by omega))), by omega⟩
    refine r_entC (K := K) (L := L) ok59 (gv (fun R q => r_rep (c := c) 59 (by omega) rfl q) (told_row hL hcm (by omega) (by omega))) (fun H1 e1 R q => ?_) fun v3 H5 e3 g3 => ?_
    · refine ⟨_, rfl, l9 2 (by omega), fun q1 x1 => ⟨l9 1 (by omega), fun q2 x2 => ⟨q2, 59, [.ref q1], rfl, rfl, SqT.of upd_same, by simp, by omega, by omega, by show 1 ≤ 1000; omega, fun q3 x3 => ⟨l9 2 (by omega), fun q4 x4 => ?_⟩⟩⟩⟩
      have f1 := Ext.new (o := .tup [V.str "sign", .str (sgn c)]) x1
      have f2 := Ext.new (o := .tup [V.ref q1]) x2
      have f3 := Ext.new (o := .tup (List.replicate (59 : Int).toNat [V.ref q1]).flatten) x3
      have f4 := Ext.new (o := .tup [V.str "row", .ref q3]) x4
      refine q _ _ (f1.trans (f2.trans (f3.trans f4))) (pd_dp (.row (List.replicate 59 (.sign c))) _ ?_)
      refine ⟨q4, q3, _, rfl, SqT.of upd_same, f4.sqT _ _ (SqT.of upd_same), ?_⟩
      exact patsQ_rep (p := .sign c) (v := .ref q1) ⟨q1, rfl, (f2.trans (f3.trans f4)).sqT _ _ (SqT.of upd_same)⟩ 59
    have e14 := e1.trans (e2.trans e3)
    refine ⟨l9 3 (by omega), fun p hp => ⟨a, p, vs, [v1, v2, v3], rfl, rfl, (e14.trans (Ext.new hp)).lst ha, upd_same, l9 _ (by rw [hl]; show 7 + 3 ≤ _; omega), fun p2 hp2 => hnx _ _ ⟨p2, _, _, rfl, e0.trans (e14.trans (Ext.new hp)), hp2, Ext.new hp2, upd_same, by rw [List.length_append, hl]; rfl, ?_⟩⟩⟩
    exact (hE.ext (e14.trans (Ext.new hp))).app (Ents.ext (Ext.new hp) (.cons (g1.ext (e2.trans e3)) (.cons (g2.ext e3) (.cons g3 .nil))))
  clear ha hl hE e0
  obtain ⟨a, vs, Hb, rfl, e0, hab, eb, ha, hl, hE⟩ := hst
  refine t_set ⟨_, rfl, l9 2 (by omega), fun q1 x1 => ?_⟩
  have f1 := Ext.new (o := .tup [V.str "sign", .str (sgn c)]) x1
  refine seq_to (fun σ' H' => ∃ vs o4, σ' = [some (.str L), some (.int cell), some (.str (sgn c)), some (.ref a), o4] ∧ Ext H H' ∧ H' a = some (.lst vs) ∧ vs.length = 11 ∧ Ents K L H' vs) (fun nx hnx => ?_) (fun σ' H2 hst => ?_)
  · refine ⟨_, rfl, .inl ⟨rfl, _, .inl (.inl (f1.lst ha))⟩, ?_⟩
    refine ⟨40, 199, rfl, rfl, by omega, .str (sgn c), rfl, _, sgn c, rfl, rfl, l9 _ (by rw [lr]; show 199 + 1 ≤ 1000; omega), 41, 199, rfl, rfl, by omega, _, _, rfl, rfl, l9 _ (by rw [slen, lr, lr]; show 199 + 1 + 199 ≤ 1000; omega), .str (sgn c), rfl, _, sgn c, rfl, rfl, l9 _ (by rw [slen, slen, lr, lr]; show 199 + 1 + 199 + 1 ≤ 1000; omega), ?_⟩
    rw [show txt (List.replicate 199 40) ++ sgn c ++ txt (List.replicate 199 41) ++ sgn c = txt (List.replicate 199 40 ++ c :: (List.replicate 199 41 ++ [c])) by
      rw [txt_sgn, txt_app, txt_sgn, List.append_assoc, List.append_assoc]; rfl]
    refine ⟨_, rfl, _, rfl, l9 2 (by omega), fun q2 x2 => ⟨l9 2 (by omega), fun q3 x3 => ⟨l9 2 (by omega), fun q4 x4 => ?_⟩⟩⟩
    have f2 := Ext.new (o := .tup [V.ref q1, .ref q1]) x2
    have f3 := Ext.new (o := .tup [V.str "row", .ref q2]) x3
    have f4 := Ext.new (o := .tup [V.str (txt (List.replicate 199 40 ++ c :: (List.replicate 199 41 ++ [c]))), .ref q3]) x4
    have f := f1.trans (f2.trans (f3.trans f4))
    have hq4 : upd (upd (upd (upd H3 q1 (.tup [V.str "sign", .str (sgn c)])) q2 (.tup [V.ref q1, .ref q1])) q3 (.tup [V.str "row", .ref q2])) q4 (.tup [V.str (txt (List.replicate 199 40 ++ c :: (List.replicate 199 41 ++ [c]))), .ref q3]) q4 = some (.tup [V.str (txt (List.replicate 199 40 ++ c :: (List.replicate 199 41 ++ [c]))), .ref q3]) := upd_same
    have hp : PatQ K (upd (upd (upd (upd H3 q1 (.tup [V.str "sign", .str (sgn c)])) q2 (.tup [V.ref q1, .ref q1])) q3 (.tup [V.str "row", .ref q2])) q4 (.tup [V.str (txt (List.replicate 199 40 ++ c :: (List.replicate 199 41 ++ [c]))), .ref q3])) (.row [.sign c, .sign c]) (.ref q3) := by
      have h1 : PatQ K (upd (upd (upd (upd H3 q1 (.tup [V.str "sign", .str (sgn c)])) q2 (.tup [V.ref q1, .ref q1])) q3 (.tup [V.str "row", .ref q2])) q4 (.tup [V.str (txt (List.replicate 199 40 ++ c :: (List.replicate 199 41 ++ [c]))), .ref q3])) (.sign c) (.ref q1) := ⟨q1, rfl, (f2.trans (f3.trans f4)).sqT _ _ (SqT.of upd_same)⟩
      exact ⟨q3, q2, _, rfl, f4.sqT _ _ (SqT.of upd_same), (f3.trans f4).sqT _ _ (SqT.of upd_same), _, _, rfl, h1, _, _, rfl, h1, rfl⟩
    have ha4 := f.lst ha
    generalize upd (upd (upd (upd H3 q1 (.tup [V.str "sign", .str (sgn c)])) q2 (.tup [V.ref q1, .ref q1])) q3 (.tup [V.str "row", .ref q2])) q4 (.tup [V.str (txt (List.replicate 199 40 ++ c :: (List.replicate 199 41 ++ [c]))), .ref q3]) = H4 at f hq4 hp ha4 ⊢
    refine ⟨a, vs, _, rfl, rfl, ha4, Nat.lt_of_lt_of_le (show vs.length < 1000 by omega) (by decide), hnx _ _ ⟨_, _, rfl, e0.trans ((eb.trans f).wr hab), upd_same, by rw [List.length_append, hl]; rfl, ?_⟩⟩
    refine (hE.ext ((eb.trans f).wr hab)).app (.cons ?_ .nil)
    have hne : q4 ≠ a := ne_of hq4 ha4 (by intro z; cases z)
    refine ⟨q4, _, _, pd (.row [.sign c, .sign c]), rfl, by rw [upd_ne hne]; exact hq4, ⟨_, Kn.ofStr _ _ _⟩, pd_dp _ _ (PatQ.ext (tk_lst ha4) _ _ hp), told_two hL hcm (n := 199) (by omega), ?_⟩
    have h1 := pd_depth (.row [.sign c, .sign c])
    exact ⟨pd_lay hL _ ⟨by show 2 ≤ 2; omega, hcm, hcm, trivial⟩, Nat.le_trans h1 (by show 2 * 2 ≤ 600; omega)⟩
  clear ha hl hE e0 hab eb
  obtain ⟨vs, o4, rfl, e0, ha, hl, hE⟩ := hst
  obtain ⟨k, hk⟩ : ∃ k : Nat, cell % 11 = (k : Int) := ⟨(cell % 11).toNat, by omega⟩
  have hkl : k < vs.length := by omega
  refine ⟨_, rfl, _, rfl, _, _, rfl, rfl, show (0 : Int) < 11 by decide, a, vs, _, vs[k], rfl, rfl, SqL.of ha, ?_, q _ _ e0 (hE _ (List.getElem_mem hkl))⟩
  rw [hk]; exact atI_nat (List.getElem?_eq_getElem hkl)
end
end Bo
set_option Elab.async false
set_option linter.all false
set_option maxRecDepth 100000
set_option maxHeartbeats 8000000
namespace Bo
open PySem PySem.Spec PyProof.Rows L2 GE
def spLw (K : PySem.W.Frag) (T : Addr) : Sp := fun vs H Q _ => ∃ (a : Addr) (ns : List Int), vs = [.ref a] ∧ ns.length ≤ 63 ∧ SqL K H a (ns.map V.int) ∧ GxR.TabG H T ∧ ∀ H', Q (.bl true) H'
theorem told_bad {lv tv : V} (h : goodV lv = false) : ToldIs lv tv dLetters :=
  ⟨fun _ => rfl, fun g => absurd (h.symm.trans g) Bool.false_ne_true, fun L z e g _ => gv_bad g (e ▸ h)⟩
theorem told_due {L : Str} (hL : goodS L = true) {T : Str} (h : T.length ≤ 400) : ToldIs (.str L) (.str T) (due L (cds T)) := by
  have e : T = txt (cds T) := (txt_cds T).symm
  have hl : (cds T).length = T.length := cds_len T
  have := told_of hL (z := cds T) (d := due L (cds T)) (by omega) (fun k => by omega) (fun _ => rfl)
  rwa [← e] at this
theorem lv_str (K : PySem.W.Frag) (H : Hp) {L : Str} (h : L.length ≤ 100) : LV K H (.str L) := ⟨⟨_, Kn.ofStr _ _ _⟩, fun z e => by cases e; exact h⟩
theorem tot_cons (z : Str) (zs : List Str) : tot (z :: zs) = z.length + tot zs := by unfold tot; rw [List.map_cons, List.sum_cons]
theorem join_len : ∀ zs : List Str, (Txt.join (Str.ofString "") zs).length = tot zs := by
  intro zs
  rw [TL.join_eq]
  have h : (TL.tl (Str.join (Str.ofString "") zs)).length = tot zs := by
    rw [TL.tl_join]
    induction zs with
    | nil => rfl
    | cons z zs ih =>
      cases zs with
      | nil => show (TL.tl z).length = tot [z]; rw [tot_one]; exact cds_len z
      | cons y zs =>
        show (TL.tl z ++ (TL.tl (Str.ofString "") ++ TL.joinL (TL.tl (Str.ofString "")) ((y :: zs).map TL.tl))).length = _
        rw [List.length_append, List.length_append, ih, tot_cons z (y :: zs)]
        rw [show (TL.tl z).length = z.length from cds_len z]
        show z.length + (0 + tot (y :: zs)) = _
        omega
  rw [← h]
  exact (cds_len _).symm
theorem cutT {zs : List Str} : ∃ ys : List Str, cutV (zs.map V.str) none (some 4) = ys.map V.str ∧ ys = zs.take 4 := by
  refine ⟨zs.take 4, ?_, rfl⟩
  unfold cutV
  rw [HT.sIx_none, List.drop_zero, show (4 : Int) = ((4 : Nat) : Int) from rfl, HT.sIx_nat, Nat.sub_zero, List.length_map, List.map_take]
  by_cases h : 4 ≤ zs.length
  · rw [Nat.min_eq_left h]
  · rw [Nat.min_eq_right (by omega), List.take_of_length_le (by rw [List.length_map]; omega), List.take_of_length_le (by rw [List.length_map]; omega)]
theorem cutD {zs : List Str} : ∃ ys : List Str, cutV (zs.map V.str) (some 4) none = ys.map V.str ∧ ys = zs.drop 4 := by
  refine ⟨zs.drop 4, ?_, rfl⟩
  unfold cutV
  rw [HT.sIx_none, show (4 : Int) = ((4 : Nat) : Int) from rfl, HT.sIx_nat, List.length_map, List.map_drop]
  by_cases h : 4 ≤ zs.length
  · rw [Nat.min_eq_left h, List.take_of_length_le (by rw [List.length_drop, List.length_map]; omega)]
  · rw [Nat.min_eq_right (by omega), List.drop_eq_nil_of_le (by rw [List.length_map]; omega), List.drop_eq_nil_of_le (by rw [List.length_map]; omega)]
    simp
theorem tot_cut (zs : List Str) (n : Nat) : tot (zs.take n) + tot (zs.drop n) = tot zs := by
  rw [← tot_app, List.take_append_drop]
section
variable {P : Program} {w : World} {K : PySem.W.Frag} {mg : Str → Option Value} {base : Heap}
theorem scLw : FnScope ["_law_script", "_law_letters_here", "_law_cell", "_law_text", "_law_due_here", "_law_texts", "_law_one"] ["_law_script"] (defScope sLaw) := ⟨rfl, rfl, rfl, by decide +kernel, rfl, by decide +kernel, by decide +kernel⟩
theorem law_ok {f gca glt god gtl ggr gdu ged : Addr} {fd dca dlt dod dtl dgr ddu ded : FuncData} {T : Addr} (F : FnP K "law" sLaw f fd)
    (Gca : FnOk P w K mg base CX0 1 gca dca ["_law_script", "_law_k"] (spCA K)) (bca : Binds K dca ["_law_script", "_law_k"] []) (kca : PySem.W.keepIn K (.ref gca) = true) (mca : mg "_law_cell_at" = Option.some (.ref gca))
    (Glt : FnOk P w K mg base CX0 1 glt dlt ["_law_cell"] spLt) (blt : Binds K dlt ["_law_cell"] []) (klt : PySem.W.keepIn K (.ref glt) = true) (mlt : mg "_law_letters" = Option.some (.ref glt))
    (God : FnOk P w K mg base CX0 1 god dod ["_law_letters_here", "_law_cell"] (spOdd K)) (bod : Binds K dod ["_law_letters_here", "_law_cell"] []) (kod : PySem.W.keepIn K (.ref god) = true) (mod_ : mg "_law_odd" = Option.some (.ref god))
    (Gtl : FnOk P w K mg base CX0 8 gtl dtl ["_law_letters_here", "_law_text"] (spTd K T)) (btl : Binds K dtl ["_law_letters_here", "_law_text"] []) (ktl : PySem.W.keepIn K (.ref gtl) = true) (mtl : mg "_law_told" = Option.some (.ref gtl))
    (Ggr : FnOk P w K mg base CX0 1 ggr dgr ["_law_letters_here", "_law_texts", "_law_cell"] spGr) (bgr : Binds K dgr ["_law_letters_here", "_law_texts", "_law_cell"] []) (kgr : PySem.W.keepIn K (.ref ggr) = true) (mgr : mg "_law_grown" = Option.some (.ref ggr))
    (Gdu : FnOk P w K mg base CX0 229 gdu ddu ["_law_letters_here", "_law_text"] (spDue K)) (bdu : Binds K ddu ["_law_letters_here", "_law_text"] []) (kdu : PySem.W.keepIn K (.ref gdu) = true) (mdu : mg "_law_due" = Option.some (.ref gdu))
    (Ged : FnOk P w K mg base CX0 1 ged ded ["_law_letters_here", "_law_text", "_law_cell"] spEd) (bed : Binds K ded ["_law_letters_here", "_law_text", "_law_cell"] []) (ked : PySem.W.keepIn K (.ref ged) = true) (med : mg "_law_edited" = Option.some (.ref ged)) :
    FnOk P w K mg base CX0 230 f fd ["_law_script"] (spLw K T) := by
  refine okD F scLw (fun vs H Q E h => ?_) (fun cdv A outer s H vs Q E hr h => ?_)
  · obtain ⟨a, ns, rfl, _⟩ := h
    rfl
  obtain ⟨a, ns, rfl, hns, hS, hT, q⟩ := h
  have r1 : Room 1 _ := hr.mono (show 1 ≤ 229 by decide)
  have r8 : Room 8 _ := hr.mono (show 8 ≤ 229 by decide)
  have hu := Nat.lt_of_le_of_lt (Nat.add_le_add_left (show 700 ≤ 16 * 229 + 200 by decide) _) (Nat.lt_of_le_of_lt (Nat.le_of_eq (Nat.add_assoc _ (16 * 229) 200).symm) hr.un)
  refine ⟨_, (pss_cons (ps_set (i := 1) scLw.nd rfl (Or.inl rfl) (pe_call Glt r1 rfl mlt klt blt .nil pass0 (pa_cons (pe_call Gca r1 rfl mca kca bca .nil pass0 (pa_cons (pv 0) (pa_cons pe_int pa_nil))) pa_nil))) (pss_cons (ps_set (i := 2) scLw.nd rfl (Or.inl rfl) (pe_call Gca r1 rfl mca kca bca .nil pass0 (pa_cons (pv 0) (pa_cons pe_int pa_nil)))) (pss_cons (ps_if (pt_cmpR op_eq (pe_op op_mod (pv 2) pe_int) pe_int (nomark _))
      (pss_cons (ps_asg (pe_call God r1 rfl mod_ kod bod .nil pass0 (pa_cons (pv 1) (pa_cons (pe_op op_fdiv (pv 2) pe_int) pa_nil))) (pg_tup (by rfl) (pgs_cons (pg_name (i := 3) scLw.nd rfl (Or.inl rfl)) (pgs_cons (pg_name (i := 4) scLw.nd rfl (Or.inl rfl)) pgs_nil)))) (pss_one (ps_ret (pe_and (pe_cmpR (op_eqS hu) (pe_call Gtl r8 rfl mtl ktl btl .nil pass0 (pa_cons (pv 1) (pa_cons (pv 3) pa_nil))) (pv 4) (by rfl)) (pe_one (pe_cmpR (op_eqS hu) (pe_call Gtl r8 rfl mtl ktl btl .nil pass0 (pa_cons pe_str (pa_cons (pv 3) pa_nil))) (pe_lst (pa_cons pe_str pa_nil)) (by rfl))))))) pss_nil) (pss_cons (ps_set (i := 5) scLw.nd rfl (Or.inl rfl) (pe_lst pa_nil)) (pss_cons (ps_for PassesOwn.never rfl (pi_list (pe_slice sl_list (pv 0) (po_some pe_int) (po_some pe_int))) (pg_name (i := 6) scLw.nd rfl (Or.inl rfl))
      (pss_one (ps_set (i := 5) scLw.nd rfl (Or.inl rfl) (pe_call Ggr r1 rfl mgr kgr bgr .nil pass0 (pa_cons (pv 1) (pa_cons (pv 5) (pa_cons (pv 6) pa_nil))))))) (pss_cons (ps_set (i := 3) scLw.nd rfl (Or.inl rfl) (pe_op op_add_str (pe_op op_add_str (pe_join pe_str (pe_slice sl_list (pv 5) po_none (po_some pe_int))) (pe_ix ix_list (pe_lst (pa_cons pe_str (pa_cons pe_str (pa_cons pe_str pa_nil)))) (pe_op op_mod (pe_op op_fdiv (pv 2) pe_int) pe_int) (fun _ _ => rfl))) (pe_join pe_str (pe_slice sl_list (pv 5) (po_some pe_int) po_none)))) (pss_cons (ps_if (pt_cmpR (op_neS hu) (pe_call Gtl r8 rfl mtl ktl btl .nil pass0 (pa_cons (pv 1) (pa_cons (pv 3) pa_nil))) (pe_call Gdu hr rfl mdu kdu bdu .nil pass0 (pa_cons (pv 1) (pa_cons (pv 3) pa_nil))) (by rfl)) (pss_one (ps_ret pe_bl)) pss_nil) (pss_cons (ps_if (pt_cmpR op_gt (pe_op op_mod (pv 2) pe_int) pe_int (nomark _))
      (pss_one (ps_set (i := 3) scLw.nd rfl (Or.inl rfl) (pe_call Ged r1 rfl med ked bed .nil pass0 (pa_cons (pv 1) (pa_cons (pv 3) (pa_cons (pe_call Gca r1 rfl mca kca bca .nil pass0 (pa_cons (pv 0) (pa_cons pe_int pa_nil))) pa_nil)))))) pss_nil) (pss_one (ps_ret (pe_and (pe_cmpR (op_eqS hu) (pe_call Gtl r8 rfl mtl ktl btl .nil pass0 (pa_cons (pv 1) (pa_cons (pv 3) pa_nil))) (pe_call Gdu hr rfl mdu kdu bdu .nil pass0 (pa_cons (pv 1) (pa_cons (pv 3) pa_nil))) (by rfl)) (pe_one (pe_cmpR (op_eqS hu) (pe_call Gtl r8 rfl mtl ktl btl .nil pass0 (pa_cons pe_str (pa_cons (pv 3) pa_nil))) (pe_lst (pa_cons pe_str pa_nil)) (by rfl)))))))))))))), ?_⟩
  have l9 : ∀ n : Nat, n ≤ 1000 → n ≤ sizeLine := fun n h => Nat.le_trans h (by decide)
  have sq : ∀ H', Ext H H' → SqL K H' a (ns.map V.int) := fun H' e => e.sqL hS
  refine t_set ⟨_, rfl, a, ns, 0, rfl, hS, _, rfl, fun H1 e1 => ?_⟩
  have hL := lets_good (ns.getD 0 0)
  generalize lets (ns.getD 0 0) = L at hL ⊢
  have hL4 : L.length ≤ 4 := (good_len hL).2
  have hLv : ∀ H', LV K H' (.str L) := fun H' => lv_str K H' (by omega)
  refine t_set ⟨_, rfl, a, ns, 1, rfl, sq _ e1, ?_⟩
  generalize ns.getD 1 0 = cell
  refine seq_fall (cond := cell % 9 = 4) (fun R qT qF => ?_) (fun k1 H2 e2 => ?_) (fun n1 H2 e2 => ?_)
  · refine ⟨_, rfl, _, _, rfl, rfl, show (0 : Int) < 9 by decide, rfl, _, rfl, ?_⟩
    rw [dec_int]
    by_cases h : cell % 9 = 4
    · rw [show (cell % 9 == 4) = true from beq_iff_eq.mpr h]; exact qT h _ (Ext.refl _)
    · rw [show (cell % 9 == 4) = false from beq_eq_false_iff_ne.mpr h]; exact qF h _ (Ext.refl _)
  · -- the odd ones
    have e12 := e1.trans e2
    refine t_seq ⟨_, rfl, _, rfl, _, _, rfl, rfl, ⟨by decide, by decide⟩, L, _, rfl, hL, fun v H3 e3 hv => ?_⟩
    obtain ⟨r, tv, dv, d, rfl, hr9, ⟨Ty, hk⟩, hd, ht, ok⟩ := hv
    have e13 := e12.trans e3
    refine ⟨r, [tv, dv], rfl, SqT.of hr9, rfl, tv, _, rfl, dv, _, rfl, rfl, ?_⟩
    refine ⟨_, rfl, _, rfl, .str L, tv, d, rfl, hLv _, ⟨Ty, hk⟩, e13.tab _ hT, ht, fun v H4 e4 hv => ⟨_, rfl, d, ok.1, ok.2, hv, dp_ext e4 _ _ hd, _, rfl, iffT rfl ?_⟩⟩
    refine ⟨_, rfl, .str "", tv, dLetters, rfl, lv_str K _ (by decide), ⟨Ty, kn_ext e4 hk⟩, (e13.trans e4).tab _ hT, told_bad (by decide), fun v H5 e5 hv => ⟨l9 1 (by omega), fun p hp => ?_⟩⟩
    exact ⟨dLetters, dok_letters.1, dok_letters.2, dp_ext (Ext.new hp) _ _ hv, dp_word upd_same, q _⟩
  have e12 := e1.trans e2
  refine t_set ⟨Nat.zero_le _, fun p1 x1 => ?_⟩
  have t1 := Ext.new (o := .lst []) x1
  have f1 := e12.trans t1
  obtain ⟨cs, hcs, hcl⟩ : ∃ ms : List Int, cutV (ns.map V.int) (Option.some 3) (Option.some 17) = ms.map V.int ∧ ms.length ≤ 14 := by
    refine ⟨(ns.drop (HT.sIx (ns.map V.int).length 0 (Option.some 3))).take (HT.sIx (ns.map V.int).length (ns.map V.int).length (Option.some 17) - HT.sIx (ns.map V.int).length 0 (Option.some 3)), ?_, ?_⟩
    · unfold cutV; rw [← List.map_drop, ← List.map_take]
    · rw [List.length_take, List.length_drop, List.length_map]
      have h3 : HT.sIx ns.length 0 (Option.some 3) = min 3 ns.length := HT.sIx_nat _ _ 3
      have h17 : HT.sIx ns.length ns.length (Option.some 17) = min 17 ns.length := HT.sIx_nat _ _ 17
      rw [h3, h17]
      omega
  refine t_seq ⟨_, rfl, _, rfl, _, rfl, a, _, rfl, sq _ f1, fun p4 x4 => ⟨p4, rfl, ⟨_, SqL.of upd_same⟩, ?_⟩⟩
  have t4 := Ext.new (o := .lst (cutV (ns.map V.int) (Option.some 3) (Option.some 17))) x4
  have f4 := f1.trans t4
  rw [hcs] at *
  have h4 : upd (upd H2 p1 (.lst [])) p4 (.lst (cs.map V.int)) p4 = some (.lst (cs.map V.int)) := upd_same
  have h1 := t4.lst (show upd H2 p1 (.lst []) p1 = some (.lst []) from upd_same)
  generalize upd (upd H2 p1 (.lst [])) p4 (.lst (cs.map V.int)) = H4 at f4 h4 h1 ⊢
  refine for_list (K := K) (a := p4) (xs := cs.map V.int) (fun i σ' H' => ∃ b zs c6, σ' = [Option.some (.ref a), Option.some (.str L), Option.some (.int cell), none, none, Option.some (.ref b), c6] ∧ Ext H4 H' ∧ H' b = Option.some (.lst (zs.map V.str)) ∧ i ≤ 14 ∧ zs.length ≤ i ∧ tot zs ≤ 5 * i) ?_ ?_ ?_ ?_
  · exact ⟨p1, [], none, rfl, Ext.refl _, h1, by omega, Nat.le_refl _, Nat.le_refl _⟩
  · rintro i σ' H' hi ⟨b, zs, c6, rfl, e, _⟩
    exact SqL.of (e.lst h4)
  · rintro i x σ' H' hx ⟨b, zs, c6, rfl, e, hb, hi, hzl, hzt⟩
    have hi14 : i < 14 := by
      have := (List.getElem?_eq_some_iff.mp hx).1
      rw [List.length_map] at this
      omega
    obtain ⟨z, rfl⟩ : ∃ z : Int, x = .int z := by
      rw [List.getElem?_map] at hx
      cases h9 : cs[i]? with
      | none => rw [h9] at hx; cases hx
      | some z => rw [h9] at hx; exact ⟨z, (Option.some.inj hx).symm⟩
    refine r_asg ⟨_, rfl, _, rfl, _, rfl, L, b, zs, z, rfl, hL, hb, by omega, by omega, fun zs' r H5 l5 t5 e5 hr5 => ?_⟩
    exact ⟨r, zs', _, rfl, e.trans e5, hr5, by omega, by omega, by omega⟩
  · rintro σ' H5 ⟨b, zs, c6, rfl, e5, hb, hi, hzl, hzt⟩
    dsimp only
    have f5 := f4.trans e5
    have ht70 : tot zs ≤ 70 := by omega
    obtain ⟨ys1, hy1, hy1'⟩ := cutT (zs := zs)
    obtain ⟨ys2, hy2, hy2'⟩ := cutD (zs := zs)
    have htt : tot ys1 + tot ys2 = tot zs := by rw [hy1', hy2']; exact tot_cut zs 4
    have hyl1 : ys1.length ≤ 14 := by rw [hy1', List.length_take]; omega
    have hyl2 : ys2.length ≤ 14 := by rw [hy2', List.length_drop]; omega
    obtain ⟨wd, hw, hwl⟩ : ∃ wd : Str, atI [V.str "", V.str "|", V.str "&"] (cell / 9 % 3) = some (.str wd) ∧ wd.length ≤ 1 := by
      have : cell / 9 % 3 = 0 ∨ cell / 9 % 3 = 1 ∨ cell / 9 % 3 = 2 := by omega
      rcases this with h | h | h <;> rw [h]
      · exact ⟨"", rfl, by decide⟩
      · exact ⟨"|", rfl, by decide⟩
      · exact ⟨"&", rfl, by decide⟩
    have e0 : (Str.ofString "").length = 0 := rfl
    refine seq_to (fun σ' H' => ∃ Tx c6 c5, σ' = [Option.some (.ref a), Option.some (.str L), Option.some (.int cell), Option.some (.str Tx), none, c5, c6] ∧ Ext H5 H' ∧ Tx.length ≤ 72) (fun nx hnx => ?_) (fun σ' H6 hst => ?_)
    · refine ⟨⟨_, rfl⟩, _, rfl, _, rfl, b, _, rfl, SqL.of hb, fun p6 x6 => ?_⟩
      rw [hy1]
      have t6 := Ext.new (o := .lst (ys1.map V.str)) x6
      refine ⟨"", p6, ys1, rfl, rfl, .inl (SqL.of upd_same), ?_, l9 3 (by omega), fun p7 x7 => ⟨_, rfl, _, _, rfl, rfl, ⟨by decide, by decide⟩, _, _, rfl, rfl, show (0 : Int) < 3 by decide, p7, _, _, _, rfl, rfl, SqL.of upd_same, hw, _, _, rfl, rfl, l9 _ ?_, ?_⟩⟩
      · show tot ys1 + ys1.length * 0 ≤ _; omega
      · show (Txt.join (Str.ofString "") ys1).length + _ ≤ _; rw [join_len]; omega
      have t7 := t6.trans (Ext.new (o := .lst [V.str "", V.str "|", V.str "&"]) x7)
      refine ⟨⟨_, rfl⟩, _, rfl, _, rfl, b, _, rfl, SqL.of (t7.lst hb), fun p8 x8 => ?_⟩
      rw [hy2]
      have t8 := t7.trans (Ext.new (o := .lst (ys2.map V.str)) x8)
      have hl1 : (Txt.join (Str.ofString "") ys1 ++ wd).length ≤ tot ys1 + 1 := by rw [slen, join_len]; omega
      refine ⟨"", p8, ys2, rfl, rfl, .inl (SqL.of upd_same), ?_, _, _, rfl, rfl, l9 _ ?_, hnx _ _ ⟨_, _, _, rfl, t8, ?_⟩⟩
      · show tot ys2 + ys2.length * 0 ≤ _; omega
      · show (Txt.join (Str.ofString "") ys1 ++ wd).length + (Txt.join (Str.ofString "") ys2).length ≤ _
        rw [join_len]; omega
      · show ((Txt.join (Str.ofString "") ys1 ++ wd) ++ (Txt.join (Str.ofString "") ys2)).length ≤ _
        rw [slen, join_len]; omega
    obtain ⟨Tx, c6', c5, rfl, e6, hTx⟩ := hst
    have f6 := f5.trans e6
    have hcd : ∀ {U : Str}, (cds U).length = U.length := fun {U} => cds_len U
    refine seq_fall (cond := False) (fun R qT qF => ?_) (fun k => k.elim) (fun _ H7 e7 => ?_)
    · refine ⟨_, rfl, _, rfl, .str L, .str Tx, due L (cds Tx), rfl, hLv _, ⟨_, Kn.ofStr _ _ _⟩, f6.tab _ hT, told_due hL (by omega), fun v H7 e7 hv => ⟨_, rfl, _, rfl, L, cds Tx, by rw [txt_cds]; rfl, hL, by rw [hcd]; omega, fun u H8 e8 hu8 => ?_⟩⟩
      obtain ⟨o1, o2⟩ := due_ok' hL (cds Tx)
      exact ⟨_, o1, o2, dp_ext e8 _ _ hv, hu8, _, rfl, qF (fun h => h) _ (e7.trans e8)⟩
    have f7 := f6.trans e7
    refine seq_to (fun σ' H' => ∃ Tx c6 c5, σ' = [Option.some (.ref a), Option.some (.str L), Option.some (.int cell), Option.some (.str Tx), none, c5, c6] ∧ Ext H7 H' ∧ Tx.length ≤ 73) (fun nx hnx => ?_) (fun σ' H8 hst => ?_)
    · refine ⟨_, rfl, _, _, rfl, rfl, show (0 : Int) < 3 by decide, _, _, rfl, rfl, _, rfl, ?_⟩
      by_cases h : cell % 3 > 0
      · refine iffT (decide_eq_true h) ⟨_, rfl, _, rfl, _, rfl, a, ns, 2, rfl, sq _ f7, L, Tx, _, rfl, hL, by omega, fun T' H8 l8 e8 => hnx _ _ ⟨T', _, _, rfl, e8, by omega⟩⟩
      · exact iffF (decide_eq_false h) (hnx _ _ ⟨Tx, _, _, rfl, Ext.refl _, by omega⟩)
    clear hTx
    obtain ⟨Tx, c6'', c5', rfl, e8, hTx⟩ := hst
    have f8 := f7.trans e8
    refine ⟨_, rfl, _, rfl, .str L, .str Tx, due L (cds Tx), rfl, hLv _, ⟨_, Kn.ofStr _ _ _⟩, f8.tab _ hT, told_due hL (by omega), fun v H9 e9 hv => ⟨_, rfl, _, rfl, L, cds Tx, by rw [txt_cds]; rfl, hL, by rw [hcd]; omega, fun u H10 e10 hu10 => ?_⟩⟩
    obtain ⟨o1, o2⟩ := due_ok' hL (cds Tx)
    refine ⟨_, o1, o2, dp_ext e10 _ _ hv, hu10, _, rfl, iffT rfl ?_⟩
    refine ⟨_, rfl, .str "Ab", .str Tx, dLetters, rfl, lv_str K _ (by decide), ⟨_, Kn.ofStr _ _ _⟩, ((f8.trans e9).trans e10).tab _ hT, told_bad (by decide), fun v H11 e11 hv => ⟨l9 1 (by omega), fun p hp => ?_⟩⟩
    exact ⟨dLetters, dok_letters.1, dok_letters.2, dp_ext (Ext.new hp) _ _ hv, dp_word upd_same, q _⟩
end
end Bo
set_option Elab.async false
set_option linter.all false
set_option maxRecDepth 100000
set_option maxHeartbeats 0
namespace Bo
open PySem PySem.Spec PyProof.Rows L2 GE GH
theorem code_is {K : PySem.W.Frag} {x : Str} {st : Stmt} {fd : FuncData} (F : FnP K x st (He.ga K x) fd) : fd.code = .ref (He.codeOf K (x, none)) := by
  obtain ⟨oc, od, dV, kV, doc, pm, an, cdv, ct, osl, e, lk, hcd, _, _⟩ := F.ex
  obtain ⟨c, hc⟩ := He.codeIn_ref hcd
  subst e
  subst hc
  exact congrArg Value.ref (He.codeOf_eq (p := (x, none)) lk rfl).symm
theorem ex_at {K : PySem.W.Frag} (h : ex K = true) (i : Nat) {b : Bool} (e : (exT K)[i]? = some b) : b = true := by
  unfold ex at h
  rw [Bool.and_eq_true] at h
  exact List.all_eq_true.mp h.1 b (List.mem_of_getElem? e)
theorem ex_err {K : PySem.W.Frag} (h : ex K = true) : Err K (fun i => He.ga K (cn i)) := by
  unfold ex at h
  rw [Bool.and_eq_true] at h
  have h := h.2
  unfold exE at h
  simp only [Bool.and_eq_true, List.all_eq_true, decide_eq_true_eq] at h
  obtain ⟨⟨h1, h2⟩, h3⟩ := h
  refine ⟨fun i hi => ?_, fun i j hi hj => h2 i (List.mem_range.mpr hi) j (List.mem_range.mpr hj), fun i hi => h3 i (List.mem_range.mpr hi)⟩
  have h9 := h1 i (List.mem_range.mpr hi)
  unfold excB at h9
  simp only [Bool.and_eq_true, decide_eq_true_eq] at h9
  obtain ⟨⟨⟨⟨⟨⟨⟨a1, a2⟩, a3⟩, a4⟩, a5⟩, a6⟩, a7⟩, a8⟩ := h9
  exact ⟨a1, a2, a3, a4, a5, a6, a7, a8⟩
section
variable {P : Program} {w : World} {K : PySem.W.Frag} {mg : Str → Option Value} {base : Heap}
theorem facts {h : Heap} {f : Addr} (X : K.In h) (G : h.Ns mainGlobals mg) (hfa : mg ("law" : Str) = some (.ref f)) (c : He.SaysX fa fn ts tf ex w h K) :
    ∃ fd : FuncData, (∀ (s : Shared) (v : Value), BindsTo s fd ⟨[v], []⟩ [("_law_script", v)]) ∧ ∀ base : Heap, K.In base → base.Ns mainGlobals mg → (∀ p ∈ tf.map (He.cT K), LamX.TabB base mg p.1 p.2) →
      FnOk P w K mg base CX0 230 f fd ["_law_script"] (spLw K (He.cT K ("need_letters", none)).2) := by
  obtain ⟨DDenied, FDenied⟩ := c.t.d.def_ 0 (d := dDenied) rfl
  have mDenied : mg "denied" = some (.ref (He.ga K "denied")) := He.glo_ok X G (c.t.d.fact 0 (f := .glo "denied") rfl)
  have FDenied' : FnP K "denied" sDenied (He.ga K "denied") DDenied := FDenied
  have bDenied : Binds K DDenied ["nots", "pattern"] [] := FDenied'.bindsN fun _ _ _ _ _ _ us hl => match us, hl with | [_, _], _ => rfl
  obtain ⟨DTogether, FTogether⟩ := c.t.d.def_ 1 (d := dTogether) rfl
  have mTogether : mg "together" = some (.ref (He.ga K "together")) := He.glo_ok X G (c.t.d.fact 1 (f := .glo "together") rfl)
  have FTogether' : FnP K "together" sTogether (He.ga K "together") DTogether := FTogether
  have bTogether : Binds K DTogether ["kind", "parts"] [] := FTogether'.bindsN fun _ _ _ _ _ _ us hl => match us, hl with | [_, _], _ => rfl
  obtain ⟨DNeedLetters, FNeedLetters⟩ := c.t.d.def_ 2 (d := dNeedLetters) rfl
  have mNeedLetters : mg "need_letters" = some (.ref (He.ga K "need_letters")) := He.glo_ok X G (c.t.d.fact 2 (f := .glo "need_letters") rfl)
  have FNeedLetters' : FnP K "need_letters" sNeedLetters (He.ga K "need_letters") DNeedLetters := FNeedLetters
  have bNeedLetters : Binds K DNeedLetters ["letters"] [] := FNeedLetters'.bindsN fun _ _ _ _ _ _ us hl => match us, hl with | [_], _ => rfl
  obtain ⟨DNodes, FNodes⟩ := c.t.d.def_ 3 (d := dNodes) rfl
  have mNodes : mg "nodes" = some (.ref (He.ga K "nodes")) := He.glo_ok X G (c.t.d.fact 3 (f := .glo "nodes") rfl)
  have FNodes' : FnP K "nodes" sNodes (He.ga K "nodes") DNodes := FNodes
  have bNodes : Binds K DNodes ["pattern"] [] := FNodes'.bindsN fun _ _ _ _ _ _ us hl => match us, hl with | [_], _ => rfl
  obtain ⟨DIsLetter, FIsLetter⟩ := c.t.d.def_ 4 (d := dIsLetter) rfl
  have mIsLetter : mg "is_letter" = some (.ref (He.ga K "is_letter")) := He.glo_ok X G (c.t.d.fact 4 (f := .glo "is_letter") rfl)
  have FIsLetter' : FnP K "is_letter" sIsLetter (He.ga K "is_letter") DIsLetter := FIsLetter
  have bIsLetter : Binds K DIsLetter ["letters", "thing"] [] := FIsLetter'.bindsN fun _ _ _ _ _ _ us hl => match us, hl with | [_, _], _ => rfl
  obtain ⟨DPartsOf, FPartsOf⟩ := c.t.d.def_ 5 (d := dPartsOf) rfl
  have mPartsOf : mg "parts_of" = some (.ref (He.ga K "parts_of")) := He.glo_ok X G (c.t.d.fact 5 (f := .glo "parts_of") rfl)
  have FPartsOf' : FnP K "parts_of" sPartsOf (He.ga K "parts_of") DPartsOf := FPartsOf
  have bPartsOf : Binds K DPartsOf ["pattern"] [] := FPartsOf'.bindsN fun _ _ _ _ _ _ us hl => match us, hl with | [_], _ => rfl
  obtain ⟨DRead, FRead⟩ := c.t.d.def_ 6 (d := dRead) rfl
  have mRead : mg "read" = some (.ref (He.ga K "read")) := He.glo_ok X G (c.t.d.fact 6 (f := .glo "read") rfl)
  have FRead' : FnP K "read" sRead (He.ga K "read") DRead := FRead
  have bRead : Binds K DRead ["letters", "text"] [] := FRead'.bindsN fun _ _ _ _ _ _ us hl => match us, hl with | [_, _], _ => rfl
  obtain ⟨DWritten, FWritten⟩ := c.t.d.def_ 7 (d := dWritten) rfl
  have mWritten : mg "written" = some (.ref (He.ga K "written")) := He.glo_ok X G (c.t.d.fact 7 (f := .glo "written") rfl)
  have FWritten' : FnP K "written" sWritten (He.ga K "written") DWritten := FWritten
  have bWritten : Binds K DWritten ["letters", "text"] [] := FWritten'.bindsN fun _ _ _ _ _ _ us hl => match us, hl with | [_, _], _ => rfl
  obtain ⟨DWords, FWords⟩ := c.t.d.def_ 8 (d := dWords) rfl
  have mWords : mg "words" = some (.ref (He.ga K "words")) := He.glo_ok X G (c.t.d.fact 8 (f := .glo "words") rfl)
  have FWords' : FnP K "words" sWords (He.ga K "words") DWords := FWords
  have bWords : Binds K DWords ["text"] [] := FWords'.bindsN fun _ _ _ _ _ _ us hl => match us, hl with | [_], _ => rfl
  obtain ⟨DCloseLevel, FCloseLevel⟩ := c.t.d.def_ 9 (d := dCloseLevel) rfl
  have mCloseLevel : mg "close_level" = some (.ref (He.ga K "close_level")) := He.glo_ok X G (c.t.d.fact 9 (f := .glo "close_level") rfl)
  have FCloseLevel' : FnP K "close_level" sCloseLevel (He.ga K "close_level") DCloseLevel := FCloseLevel
  have bCloseLevel : Binds K DCloseLevel ["levels"] [] := FCloseLevel'.bindsN fun _ _ _ _ _ _ us hl => match us, hl with | [_], _ => rfl
  obtain ⟨DTakeWord, FTakeWord⟩ := c.t.d.def_ 10 (d := dTakeWord) rfl
  have mTakeWord : mg "take_word" = some (.ref (He.ga K "take_word")) := He.glo_ok X G (c.t.d.fact 10 (f := .glo "take_word") rfl)
  have FTakeWord' : FnP K "take_word" sTakeWord (He.ga K "take_word") DTakeWord := FTakeWord
  have bTakeWord : Binds K DTakeWord ["letters", "level", "word"] [] := FTakeWord'.bindsN fun _ _ _ _ _ _ us hl => match us, hl with | [_, _, _], _ => rfl
  obtain ⟨DLawCellAt, FLawCellAt⟩ := c.t.d.def_ 11 (d := dLawCellAt) rfl
  have mLawCellAt : mg "_law_cell_at" = some (.ref (He.ga K "_law_cell_at")) := He.glo_ok X G (c.t.d.fact 11 (f := .glo "_law_cell_at") rfl)
  have FLawCellAt' : FnP K "_law_cell_at" sLawCellAt (He.ga K "_law_cell_at") DLawCellAt := FLawCellAt
  have bLawCellAt : Binds K DLawCellAt ["_law_script", "_law_k"] [] := FLawCellAt'.bindsN fun _ _ _ _ _ _ us hl => match us, hl with | [_, _], _ => rfl
  obtain ⟨DLawLetters, FLawLetters⟩ := c.t.d.def_ 12 (d := dLawLetters) rfl
  have mLawLetters : mg "_law_letters" = some (.ref (He.ga K "_law_letters")) := He.glo_ok X G (c.t.d.fact 12 (f := .glo "_law_letters") rfl)
  have FLawLetters' : FnP K "_law_letters" sLawLetters (He.ga K "_law_letters") DLawLetters := FLawLetters
  have bLawLetters : Binds K DLawLetters ["_law_cell"] [] := FLawLetters'.bindsN fun _ _ _ _ _ _ us hl => match us, hl with | [_], _ => rfl
  obtain ⟨DLawSize, FLawSize⟩ := c.t.d.def_ 13 (d := dLawSize) rfl
  have mLawSize : mg "_law_size" = some (.ref (He.ga K "_law_size")) := He.glo_ok X G (c.t.d.fact 13 (f := .glo "_law_size") rfl)
  have FLawSize' : FnP K "_law_size" sLawSize (He.ga K "_law_size") DLawSize := FLawSize
  have bLawSize : Binds K DLawSize ["_law_pattern"] [] := FLawSize'.bindsN fun _ _ _ _ _ _ us hl => match us, hl with | [_], _ => rfl
  obtain ⟨DLawKind, FLawKind⟩ := c.t.d.def_ 14 (d := dLawKind) rfl
  have mLawKind : mg "_law_kind" = some (.ref (He.ga K "_law_kind")) := He.glo_ok X G (c.t.d.fact 14 (f := .glo "_law_kind") rfl)
  have FLawKind' : FnP K "_law_kind" sLawKind (He.ga K "_law_kind") DLawKind := FLawKind
  have bLawKind : Binds K DLawKind ["_law_error"] [] := FLawKind'.bindsN fun _ _ _ _ _ _ us hl => match us, hl with | [_], _ => rfl
  obtain ⟨DLawOf, FLawOf⟩ := c.t.d.def_ 15 (d := dLawOf) rfl
  have mLawOf : mg "_law_of" = some (.ref (He.ga K "_law_of")) := He.glo_ok X G (c.t.d.fact 15 (f := .glo "_law_of") rfl)
  have FLawOf' : FnP K "_law_of" sLawOf (He.ga K "_law_of") DLawOf := FLawOf
  have bLawOf : Binds K DLawOf ["_law_word", "_law_patterns"] [] := FLawOf'.bindsN fun _ _ _ _ _ _ us hl => match us, hl with | [_, _], _ => rfl
  obtain ⟨DLawItem, FLawItem⟩ := c.t.d.def_ 16 (d := dLawItem) rfl
  have mLawItem : mg "_law_item" = some (.ref (He.ga K "_law_item")) := He.glo_ok X G (c.t.d.fact 16 (f := .glo "_law_item") rfl)
  have FLawItem' : FnP K "_law_item" sLawItem (He.ga K "_law_item") DLawItem := FLawItem
  have bLawItem : Binds K DLawItem ["_law_letters_here", "_law_text", "_law_at"] [] := FLawItem'.bindsN fun _ _ _ _ _ _ us hl => match us, hl with | [_, _, _], _ => rfl
  obtain ⟨DLawHalf, FLawHalf⟩ := c.t.d.def_ 17 (d := dLawHalf) rfl
  have mLawHalf : mg "_law_half" = some (.ref (He.ga K "_law_half")) := He.glo_ok X G (c.t.d.fact 17 (f := .glo "_law_half") rfl)
  have FLawHalf' : FnP K "_law_half" sLawHalf (He.ga K "_law_half") DLawHalf := FLawHalf
  have bLawHalf : Binds K DLawHalf ["_law_letters_here", "_law_text", "_law_at"] [] := FLawHalf'.bindsN fun _ _ _ _ _ _ us hl => match us, hl with | [_, _, _], _ => rfl
  obtain ⟨DLawEither, FLawEither⟩ := c.t.d.def_ 18 (d := dLawEither) rfl
  have mLawEither : mg "_law_either" = some (.ref (He.ga K "_law_either")) := He.glo_ok X G (c.t.d.fact 18 (f := .glo "_law_either") rfl)
  have FLawEither' : FnP K "_law_either" sLawEither (He.ga K "_law_either") DLawEither := FLawEither
  have bLawEither : Binds K DLawEither ["_law_letters_here", "_law_text", "_law_at"] [] := FLawEither'.bindsN fun _ _ _ _ _ _ us hl => match us, hl with | [_, _, _], _ => rfl
  obtain ⟨DLawDue, FLawDue⟩ := c.t.d.def_ 19 (d := dLawDue) rfl
  have mLawDue : mg "_law_due" = some (.ref (He.ga K "_law_due")) := He.glo_ok X G (c.t.d.fact 19 (f := .glo "_law_due") rfl)
  have FLawDue' : FnP K "_law_due" sLawDue (He.ga K "_law_due") DLawDue := FLawDue
  have bLawDue : Binds K DLawDue ["_law_letters_here", "_law_text"] [] := FLawDue'.bindsN fun _ _ _ _ _ _ us hl => match us, hl with | [_, _], _ => rfl
  obtain ⟨DLawTold, FLawTold⟩ := c.t.d.def_ 20 (d := dLawTold) rfl
  have mLawTold : mg "_law_told" = some (.ref (He.ga K "_law_told")) := He.glo_ok X G (c.t.d.fact 20 (f := .glo "_law_told") rfl)
  have FLawTold' : FnP K "_law_told" sLawTold (He.ga K "_law_told") DLawTold := FLawTold
  have bLawTold : Binds K DLawTold ["_law_letters_here", "_law_text"] [] := FLawTold'.bindsN fun _ _ _ _ _ _ us hl => match us, hl with | [_, _], _ => rfl
  obtain ⟨DLawGrown, FLawGrown⟩ := c.t.d.def_ 21 (d := dLawGrown) rfl
  have mLawGrown : mg "_law_grown" = some (.ref (He.ga K "_law_grown")) := He.glo_ok X G (c.t.d.fact 21 (f := .glo "_law_grown") rfl)
  have FLawGrown' : FnP K "_law_grown" sLawGrown (He.ga K "_law_grown") DLawGrown := FLawGrown
  have bLawGrown : Binds K DLawGrown ["_law_letters_here", "_law_texts", "_law_cell"] [] := FLawGrown'.bindsN fun _ _ _ _ _ _ us hl => match us, hl with | [_, _, _], _ => rfl
  obtain ⟨DLawEdited, FLawEdited⟩ := c.t.d.def_ 22 (d := dLawEdited) rfl
  have mLawEdited : mg "_law_edited" = some (.ref (He.ga K "_law_edited")) := He.glo_ok X G (c.t.d.fact 22 (f := .glo "_law_edited") rfl)
  have FLawEdited' : FnP K "_law_edited" sLawEdited (He.ga K "_law_edited") DLawEdited := FLawEdited
  have bLawEdited : Binds K DLawEdited ["_law_letters_here", "_law_text", "_law_cell"] [] := FLawEdited'.bindsN fun _ _ _ _ _ _ us hl => match us, hl with | [_, _, _], _ => rfl
  obtain ⟨DLawOdd, FLawOdd⟩ := c.t.d.def_ 23 (d := dLawOdd) rfl
  have mLawOdd : mg "_law_odd" = some (.ref (He.ga K "_law_odd")) := He.glo_ok X G (c.t.d.fact 23 (f := .glo "_law_odd") rfl)
  have FLawOdd' : FnP K "_law_odd" sLawOdd (He.ga K "_law_odd") DLawOdd := FLawOdd
  have bLawOdd : Binds K DLawOdd ["_law_letters_here", "_law_cell"] [] := FLawOdd'.bindsN fun _ _ _ _ _ _ us hl => match us, hl with | [_, _], _ => rfl
  obtain ⟨DLaw, FLaw⟩ := c.t.d.def_ 24 (d := dLaw) rfl
  have mLaw : mg "law" = some (.ref (He.ga K "law")) := He.glo_ok X G (c.t.d.fact 24 (f := .glo "law") rfl)
  have FLaw' : FnP K "law" sLaw (He.ga K "law") DLaw := FLaw
  have bLaw : Binds K DLaw ["_law_script"] [] := FLaw'.bindsN fun _ _ _ _ _ _ us hl => match us, hl with | [_], _ => rfl
  obtain ⟨DLevelInit, FLevelInit⟩ := c.t.d.def_ 25 (d := dLevelInit) rfl
  have mLevelInit := He.meth_ok (c.t.d.fact 32 (f := .meth "Level" "__init__") rfl)
  have FLevelInit' : MtP K "__init__" "Level.__init__" sLevelInit (He.ma K (He.ga K "Level") "__init__") DLevelInit := FLevelInit
  have bLevelInit : Binds K DLevelInit ["self"] [] := FLevelInit'.bindsN fun _ _ _ _ _ _ us hl => match us, hl with | [_], _ => rfl
  obtain ⟨DLevelTakeNot, FLevelTakeNot⟩ := c.t.d.def_ 26 (d := dLevelTakeNot) rfl
  have mLevelTakeNot := He.meth_ok (c.t.d.fact 33 (f := .meth "Level" "take_not") rfl)
  have FLevelTakeNot' : MtP K "take_not" "Level.take_not" sLevelTakeNot (He.ma K (He.ga K "Level") "take_not") DLevelTakeNot := FLevelTakeNot
  have bLevelTakeNot : Binds K DLevelTakeNot ["self"] [] := FLevelTakeNot'.bindsN fun _ _ _ _ _ _ us hl => match us, hl with | [_], _ => rfl
  obtain ⟨DLevelTakeAtom, FLevelTakeAtom⟩ := c.t.d.def_ 27 (d := dLevelTakeAtom) rfl
  have mLevelTakeAtom := He.meth_ok (c.t.d.fact 34 (f := .meth "Level" "take_atom") rfl)
  have FLevelTakeAtom' : MtP K "take_atom" "Level.take_atom" sLevelTakeAtom (He.ma K (He.ga K "Level") "take_atom") DLevelTakeAtom := FLevelTakeAtom
  have bLevelTakeAtom : Binds K DLevelTakeAtom ["self", "atom"] [] := FLevelTakeAtom'.bindsN fun _ _ _ _ _ _ us hl => match us, hl with | [_, _], _ => rfl
  obtain ⟨DLevelTakeStar, FLevelTakeStar⟩ := c.t.d.def_ 28 (d := dLevelTakeStar) rfl
  have mLevelTakeStar := He.meth_ok (c.t.d.fact 35 (f := .meth "Level" "take_star") rfl)
  have FLevelTakeStar' : MtP K "take_star" "Level.take_star" sLevelTakeStar (He.ma K (He.ga K "Level") "take_star") DLevelTakeStar := FLevelTakeStar
  have bLevelTakeStar : Binds K DLevelTakeStar ["self"] [] := FLevelTakeStar'.bindsN fun _ _ _ _ _ _ us hl => match us, hl with | [_], _ => rfl
  obtain ⟨DLevelEndHalf, FLevelEndHalf⟩ := c.t.d.def_ 29 (d := dLevelEndHalf) rfl
  have mLevelEndHalf := He.meth_ok (c.t.d.fact 36 (f := .meth "Level" "end_half") rfl)
  have FLevelEndHalf' : MtP K "end_half" "Level.end_half" sLevelEndHalf (He.ma K (He.ga K "Level") "end_half") DLevelEndHalf := FLevelEndHalf
  have bLevelEndHalf : Binds K DLevelEndHalf ["self"] [] := FLevelEndHalf'.bindsN fun _ _ _ _ _ _ us hl => match us, hl with | [_], _ => rfl
  obtain ⟨DLevelEndBranch, FLevelEndBranch⟩ := c.t.d.def_ 30 (d := dLevelEndBranch) rfl
  have mLevelEndBranch := He.meth_ok (c.t.d.fact 37 (f := .meth "Level" "end_branch") rfl)
  have FLevelEndBranch' : MtP K "end_branch" "Level.end_branch" sLevelEndBranch (He.ma K (He.ga K "Level") "end_branch") DLevelEndBranch := FLevelEndBranch
  have bLevelEndBranch : Binds K DLevelEndBranch ["self"] [] := FLevelEndBranch'.bindsN fun _ _ _ _ _ _ us hl => match us, hl with | [_], _ => rfl
  obtain ⟨DLevelTold, FLevelTold⟩ := c.t.d.def_ 31 (d := dLevelTold) rfl
  have mLevelTold := He.meth_ok (c.t.d.fact 38 (f := .meth "Level" "told") rfl)
  have FLevelTold' : MtP K "told" "Level.told" sLevelTold (He.ma K (He.ga K "Level") "told") DLevelTold := FLevelTold
  have bLevelTold : Binds K DLevelTold ["self"] [] := FLevelTold'.bindsN fun _ _ _ _ _ _ us hl => match us, hl with | [_], _ => rfl
  obtain ⟨DLevelNeedItem, FLevelNeedItem⟩ := c.t.d.def_ 32 (d := dLevelNeedItem) rfl
  have mLevelNeedItem := He.meth_ok (c.t.d.fact 39 (f := .meth "Level" "need_item") rfl)
  have FLevelNeedItem' : MtP K "need_item" "Level.need_item" sLevelNeedItem (He.ma K (He.ga K "Level") "need_item") DLevelNeedItem := FLevelNeedItem
  have bLevelNeedItem : Binds K DLevelNeedItem ["self"] [] := FLevelNeedItem'.bindsN fun _ _ _ _ _ _ us hl => match us, hl with | [_], _ => rfl
  have h_Level : mg "Level" = some (.ref (He.ga K "Level")) := He.glo_ok X G (c.t.d.fact 25 (f := .glo "Level") rfl)
  have c_Level := He.cls_ok (c.t.d.fact 26 (f := .cls "Level") rfl)
  have k_Level := He.mkr_ok (c.t.d.fact 27 (f := .mkr "Level") rfl)
  have o_Level_branches := He.noat_ok (c.t.d.fact 28 (f := .noat "Level" "branches") rfl)
  have o_Level_halves := He.noat_ok (c.t.d.fact 29 (f := .noat "Level" "halves") rfl)
  have o_Level_row := He.noat_ok (c.t.d.fact 30 (f := .noat "Level" "row") rfl)
  have o_Level_nots := He.noat_ok (c.t.d.fact 31 (f := .noat "Level" "nots") rfl)
  have h_NONE : mg "NONE" = some (.ref (He.ga K "NONE")) := He.glo_ok X G (c.t.d.fact 40 (f := .glo "NONE") rfl)
  have h_EMPTY : mg "EMPTY" = some (.ref (He.ga K "EMPTY")) := He.glo_ok X G (c.t.d.fact 41 (f := .glo "EMPTY") rfl)
  have h_PatternError : mg "PatternError" = some (.ref (He.ga K "PatternError")) := He.glo_ok X G (c.t.d.fact 42 (f := .glo "PatternError") rfl)
  have h_NoLetters : mg "NoLetters" = some (.ref (He.ga K "NoLetters")) := He.glo_ok X G (c.t.d.fact 43 (f := .glo "NoLetters") rfl)
  have h_NoPattern : mg "NoPattern" = some (.ref (He.ga K "NoPattern")) := He.glo_ok X G (c.t.d.fact 44 (f := .glo "NoPattern") rfl)
  have h_TooGreat : mg "TooGreat" = some (.ref (He.ga K "TooGreat")) := He.glo_ok X G (c.t.d.fact 45 (f := .glo "TooGreat") rfl)
  have h_NoText : mg "NoText" = some (.ref (He.ga K "NoText")) := He.glo_ok X G (c.t.d.fact 46 (f := .glo "NoText") rfl)
  have h_NoRoom : mg "NoRoom" = some (.ref (He.ga K "NoRoom")) := He.glo_ok X G (c.t.d.fact 47 (f := .glo "NoRoom") rfl)
  have g_PatternError : mg "PatternError" = some (.ref (He.ga K "PatternError")) := He.glo_ok X G (c.t.d.fact 42 (f := .glo "PatternError") rfl)
  have x_PatternError : EX K mg "PatternError" (He.ga K "PatternError") := by
    obtain ⟨a1, a2, a3, a4⟩ := He.exc_ok (c.t.d.fact 48 (f := .exc "PatternError") rfl)
    exact ⟨g_PatternError, a1, a2, a3, a4⟩
  have g_NoLetters : mg "NoLetters" = some (.ref (He.ga K "NoLetters")) := He.glo_ok X G (c.t.d.fact 43 (f := .glo "NoLetters") rfl)
  have x_NoLetters : EX K mg "NoLetters" (He.ga K "NoLetters") := by
    obtain ⟨a1, a2, a3, a4⟩ := He.exc_ok (c.t.d.fact 49 (f := .exc "NoLetters") rfl)
    exact ⟨g_NoLetters, a1, a2, a3, a4⟩
  have g_NoPattern : mg "NoPattern" = some (.ref (He.ga K "NoPattern")) := He.glo_ok X G (c.t.d.fact 44 (f := .glo "NoPattern") rfl)
  have x_NoPattern : EX K mg "NoPattern" (He.ga K "NoPattern") := by
    obtain ⟨a1, a2, a3, a4⟩ := He.exc_ok (c.t.d.fact 50 (f := .exc "NoPattern") rfl)
    exact ⟨g_NoPattern, a1, a2, a3, a4⟩
  have g_TooGreat : mg "TooGreat" = some (.ref (He.ga K "TooGreat")) := He.glo_ok X G (c.t.d.fact 45 (f := .glo "TooGreat") rfl)
  have x_TooGreat : EX K mg "TooGreat" (He.ga K "TooGreat") := by
    obtain ⟨a1, a2, a3, a4⟩ := He.exc_ok (c.t.d.fact 51 (f := .exc "TooGreat") rfl)
    exact ⟨g_TooGreat, a1, a2, a3, a4⟩
  have g_NoText : mg "NoText" = some (.ref (He.ga K "NoText")) := He.glo_ok X G (c.t.d.fact 46 (f := .glo "NoText") rfl)
  have x_NoText : EX K mg "NoText" (He.ga K "NoText") := by
    obtain ⟨a1, a2, a3, a4⟩ := He.exc_ok (c.t.d.fact 52 (f := .exc "NoText") rfl)
    exact ⟨g_NoText, a1, a2, a3, a4⟩
  have g_NoRoom : mg "NoRoom" = some (.ref (He.ga K "NoRoom")) := He.glo_ok X G (c.t.d.fact 47 (f := .glo "NoRoom") rfl)
  have x_NoRoom : EX K mg "NoRoom" (He.ga K "NoRoom") := by
    obtain ⟨a1, a2, a3, a4⟩ := He.exc_ok (c.t.d.fact 53 (f := .exc "NoRoom") rfl)
    exact ⟨g_NoRoom, a1, a2, a3, a4⟩
  have n_ValueError : mg "ValueError" = none := He.free_ok X G (c.t.d.fact 54 (f := .free "ValueError") rfl)
  have n_abs : mg "abs" = none := He.free_ok X G (c.t.d.fact 55 (f := .free "abs") rfl)
  have n_all : mg "all" = none := He.free_ok X G (c.t.d.fact 56 (f := .free "all") rfl)
  have n_int : mg "int" = none := He.free_ok X G (c.t.d.fact 57 (f := .free "int") rfl)
  have n_isinstance : mg "isinstance" = none := He.free_ok X G (c.t.d.fact 58 (f := .free "isinstance") rfl)
  have n_len : mg "len" = none := He.free_ok X G (c.t.d.fact 59 (f := .free "len") rfl)
  have n_range : mg "range" = none := He.free_ok X G (c.t.d.fact 60 (f := .free "range") rfl)
  have n_set : mg "set" = none := He.free_ok X G (c.t.d.fact 61 (f := .free "set") rfl)
  have n_str : mg "str" = none := He.free_ok X G (c.t.d.fact 62 (f := .free "str") rfl)
  have n_sum : mg "sum" = none := He.free_ok X G (c.t.d.fact 63 (f := .free "sum") rfl)
  have n_tuple : mg "tuple" = none := He.free_ok X G (c.t.d.fact 64 (f := .free "tuple") rfl)
  obtain ⟨t_MOST_LETTERS, i_MOST_LETTERS⟩ := He.int_ok X G (c.t.d.fact 65 (f := .int "MOST_LETTERS" 4) rfl)
  obtain ⟨t_MOST_NODES, i_MOST_NODES⟩ := He.int_ok X G (c.t.d.fact 66 (f := .int "MOST_NODES" 60) rfl)
  obtain ⟨t_MOST_WRITTEN, i_MOST_WRITTEN⟩ := He.int_ok X G (c.t.d.fact 67 (f := .int "MOST_WRITTEN" 400) rfl)
  have e_PatternError := He.exm_ok (c.t.d.fact 68 (f := .exm "PatternError" "PatternError" true) rfl)
  have e_NoLetters := He.exm_ok (c.t.d.fact 69 (f := .exm "NoLetters" "PatternError" true) rfl)
  have e_NoPattern := He.exm_ok (c.t.d.fact 70 (f := .exm "NoPattern" "PatternError" true) rfl)
  have e_TooGreat := He.exm_ok (c.t.d.fact 71 (f := .exm "TooGreat" "PatternError" true) rfl)
  have e_NoText := He.exm_ok (c.t.d.fact 72 (f := .exm "NoText" "PatternError" true) rfl)
  have e_NoRoom := He.exm_ok (c.t.d.fact 73 (f := .exm "NoRoom" "PatternError" true) rfl)
  have er := ex_err c.more
  cases hfa.symm.trans mLaw
  have bA := FunD.bindsA (ps := ["_law_script"]) FLaw' fun _ _ _ _ _ _ us hl => match us, hl with | [_], _ => rfl
  have TL : LTx K (He.ga K "Level") := ⟨c_Level, o_Level_branches, o_Level_halves, o_Level_row, o_Level_nots⟩
  refine ⟨DLaw, fun s v => bA s [v] rfl, fun base _ _ hTB => ?_⟩
  have tb : ∀ x : Str, ((x, none) : He.Defn) ∈ tf → GxR.TabB base mg (He.codeOf K (x, none)) (He.cT K (x, none)).2 := fun x hx => by
    have t := hTB _ (List.mem_map_of_mem hx)
    exact ⟨t.code, t.bm, t.gP⟩
  have tb2 := tb "need_letters" (by simp [tf])
  have exm : ∀ i, i < 4 → PySem.W.exmOne K (.ref (He.ga K (cn i))) (.ref (He.ga K "PatternError")) = some true := by
    intro i hi
    match i, hi with
    | 0, _ => exact e_NoLetters
    | 1, _ => exact e_NoPattern
    | 2, _ => exact e_TooGreat
    | 3, _ => exact e_NoText
  have NL := nl_ok (P := P) (w := w) FNeedLetters' (code_is FNeedLetters') tb2 x_NoLetters n_isinstance n_str n_len n_all n_set i_MOST_LETTERS
  have IL := il_ok (P := P) (w := w) (base := base) FIsLetter' n_isinstance n_str n_len
  have PO := po_ok (P := P) (w := w) (mg := mg) (base := base) FPartsOf'
  have NO := no_ok FNodes' PO bPartsOf FPartsOf'.kp mPartsOf
  have DE := den_ok (P := P) (w := w) (base := base) FDenied' n_range
  have TG := tog_ok (P := P) (w := w) (base := base) FTogether' n_len n_tuple
  have IT := init_ok (P := P) (w := w) (mg := mg) (base := base) FLevelInit' TL
  have TN := tn_ok (P := P) (w := w) (mg := mg) (base := base) FLevelTakeNot' TL
  have TA := ta_ok (P := P) (w := w) (mg := mg) (base := base) FLevelTakeAtom' TL
  have NI := ni_ok (P := P) (w := w) (base := base) FLevelNeedItem' TL x_NoText
  have TS := ts_ok FLevelTakeStar' TL NI bLevelNeedItem mLevelNeedItem
  have EH := eh_ok FLevelEndHalf' TL NI bLevelNeedItem mLevelNeedItem DE bDenied FDenied'.kp mDenied TG bTogether FTogether'.kp mTogether
  have EB := eb_ok FLevelEndBranch' TL EH bLevelEndHalf mLevelEndHalf TG bTogether FTogether'.kp mTogether
  have TD := td_ok FLevelTold' TL EB bLevelEndBranch mLevelEndBranch TG bTogether FTogether'.kp mTogether
  have WD := fun L => wd_ok (P := P) (w := w) (base := base) (L := L) FWords' n_len
  have TW := tw_ok' FTakeWord' TL x_NoText TN bLevelTakeNot mLevelTakeNot TA bLevelTakeAtom mLevelTakeAtom TS bLevelTakeStar mLevelTakeStar EH bLevelEndHalf mLevelEndHalf EB bLevelEndBranch mLevelEndBranch IL bIsLetter FIsLetter'.kp mIsLetter h_EMPTY h_NONE (tup_ok (ex_at c.more 1 rfl)) (tup_ok (ex_at c.more 0 rfl))
  have CL := cl_ok FCloseLevel' TL x_NoText TA bLevelTakeAtom mLevelTakeAtom TD bLevelTold mLevelTold n_len
  have WR := wr_ok FWritten' TL x_NoText k_Level h_Level IT bLevelInit WD bWords FWords'.kp mWords CL bCloseLevel FCloseLevel'.kp mCloseLevel TW bTakeWord FTakeWord'.kp mTakeWord TD bLevelTold mLevelTold n_len
  have RD := rd_ok FRead' x_NoText x_TooGreat NL bNeedLetters FNeedLetters'.kp mNeedLetters WR bWritten FWritten'.kp mWritten NO bNodes FNodes'.kp mNodes n_isinstance n_str n_len i_MOST_WRITTEN i_MOST_NODES
  have CA := ca_ok (P := P) (w := w) (base := base) FLawCellAt' n_len
  have LT := lt_ok (P := P) (w := w) (base := base) FLawLetters' n_range
  have LS := ls_tower (P := P) (w := w) (base := base) FLawSize' bLawSize mLawSize n_sum
  have OF := of_ok (P := P) (w := w) (base := base) FLawOf' n_len n_tuple
  have IE := (it_tower FLawItem' bLawItem mLawItem FLawHalf' bLawHalf mLawHalf FLawEither' bLawEither mLawEither OF bLawOf FLawOf'.kp mLawOf n_int 75).2
  have DU := du_ok FLawDue' IE bLawEither FLawEither'.kp mLawEither (LS 228) bLawSize FLawSize'.kp mLawSize n_len
  have TO := tl_ok (ca := fun i => He.ga K (cn i)) FLawTold' er exm g_PatternError RD bRead FRead'.kp mRead FLawKind' bLawKind mLawKind g_NoLetters g_NoPattern g_TooGreat g_NoText g_NoRoom n_isinstance n_int n_len n_ValueError
  have GR := gr_ok (P := P) (w := w) (base := base) FLawGrown' n_len
  have ED := ed_ok (P := P) (w := w) (base := base) FLawEdited' n_len n_range n_abs
  have OD := od_ok (P := P) (w := w) (base := base) FLawOdd' n_len
  exact law_ok FLaw' CA bLawCellAt FLawCellAt'.kp mLawCellAt LT bLawLetters FLawLetters'.kp mLawLetters OD bLawOdd FLawOdd'.kp mLawOdd TO bLawTold FLawTold'.kp mLawTold GR bLawGrown FLawGrown'.kp mLawGrown DU bLawDue FLawDue'.kp mLawDue ED bLawEdited FLawEdited'.kp mLawEdited
end
end Bo
set_option Elab.async false
set_option linter.all false
open PySem PySem.W PySem.Calls PyProof.Rows
set_option maxRecDepth 100000 in
set_option maxHeartbeats 0 in
theorem PySem.Challenge.cw_bothreed_k03_texts_read_holds : PySem.Challenge.rw_bothreed_k03_texts_read.Holds := by
  w_on; o_law
  refine HandSHeadRun.head_any (r := Bo.R) (q := view Bo.R.prog [41]) (H := Bo.hk) (ob := Bo.ob) (M := 9000) (loose := Bo.names) (d := HandSHeadRun.topDef Bo.R.prog 41) (kwd := []) Bo.ob_eq
    (by kernel_rfl) (fun s => by kernel_rfl) Bo.run (by kernel_rfl) (by kernel_rfl) (by kernel_rfl) (by rfl) (by first | assumption | decide +kernel) (by decide +kernel) ⟨rfl, rfl, rfl, rfl, rfl, by decide +kernel⟩ ?hw ?hc
  case hw => w_witness2
  case hc =>
    refine LamX.walk_ofTsE (l := PySem.Challenge.rw_bothreed_k03_texts_read) (n := 63) (k := 230) (x := "_law_script") (CX := fun _ => L2.CX0) rfl (by decide) (by kernel_rfl) ⟨rfl, by decide, by decide⟩ ?F (fun _ _ _ _ _ z => z)
    intro w mg f h Y G hmg0
    obtain ⟨K, KX, c⟩ := Y
    have hmg : mg ("law" : PySem.Str) = some (.ref f) := by
      have e : (HandSHeadRun.topDef Bo.R.prog 41).name = ("law" : PySem.Str) := by kernel_rfl
      rw [← e]
      exact hmg0
    obtain ⟨fd, hb, hF⟩ := Bo.facts (P := PySem.Challenge.rw_bothreed_k03_texts_read.prog) (w := w) KX G hmg c
    refine ⟨K, KX, fd, Bo.tf.map (He.cT K), _, ?_, ?_, ?_, hb, ?_, hF⟩
    · intro p hp
      obtain ⟨x, hx, rfl⟩ := List.mem_map.mp hp
      exact c.empty x hx
    · intro p hp
      obtain ⟨x, hx, rfl⟩ := List.mem_map.mp hp
      exact c.out x hx
    · intro p hp
      obtain ⟨x, hx, rfl⟩ := List.mem_map.mp hp
      exact PySem.W.codeHd_of_K KX (c.hd x hx)
    · intro H a ns hl _ hT hS
      have tab : ∀ x : PySem.Str, ((x, none) : He.Defn) ∈ Bo.tf → GxR.TabG H (He.cT K (x, none)).2 := fun x hx => ⟨#[], hT _ (List.mem_map_of_mem hx), trivial⟩
      exact ⟨a, ns, rfl, hl, hS, tab "need_letters" (by simp [Bo.tf]), fun _ => rfl⟩
