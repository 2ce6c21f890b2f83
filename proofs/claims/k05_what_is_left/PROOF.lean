import PyProof.Rows.All
import Wide.All
import OpenK.AllK
import Wide.FinOn
import HandS.ForMost
import HandS.AnyAll
import HandS.GenOver
import HandS.Strs
import KE.KStateDown
import Lean
import HandS.ForExc
import HandS.Defaults
import HandS.Head0
import HandS.Head1
import HandS.Head2
import HandS.HeadEnd
import HandS.HeadHook1
import HandS.HeadHook2
import HandS.HeadHook3
import HandS.HeadHook4
import HandS.HeadWalk
import PyProof.P3Eq
import PyProof.P3In
import PyProof.NeData
import KE.SortCalls
import KE.LtSeq
import PyProof.AutoSeq1
import KE.LtData
import KE.SortData
import HandS.List
import KE.GoesEnum
import KE.GoesMore
import HandS.Iter
import HandS.WideBits
import HandS.Zip
import HandS.TupAny
import HandS.CallLocal
import HandS.Conv
import HandS.Star
import HandS.IsInst
import HandS.Text
import HandS.ExcCtx
import HandS.TupSets
import HandS.Small
import HandS.TupMul
import HandS.EndTab
import KE.KNestM
import PySem.Challenge.RW_bothreed_k05_what_is_left
set_option Elab.async false
set_option linter.all false
set_option maxRecDepth 100000
set_option maxHeartbeats 4000000
/-! any, all over a generator expression whose element may call defs of the program's own -/
namespace GE
open PySem PySem.Spec PyProof.Rows L2 GxR
theorem over_start {A : Around} {elt iter tg : Expr} {ifs : List Expr} {scope : Scope} {pos : Pos} {it acc : Value} {env : Env} :
    A.over (.compStart (.GeneratorExp elt [⟨tg, iter, ifs, 0⟩] scope pos) 0 it acc env) [] = A.deeper env := by
  obtain ⟨hd, d, fr, gs, u⟩ := A
  simp [Around.over, Around.deeper, marksOver, frameCount, unitsOf, envsOf, guardsOf, pushEnvs, pushGuards, Code.envs, Code.env?, Code.isFrame, Code.guards, Code.isGuard, Code.weight, Code.frames, Code.isCreation, Code.isCaller, Code.cUnits]
theorem over_loop {A : Around} {elt iter tg : Expr} {ifs : List Expr} {scope : Scope} {pos : Pos} {it acc : Value} {env : Env} :
    A.over (.compLoop (.GeneratorExp elt [⟨tg, iter, ifs, 0⟩] scope pos) 0 it acc env) [] = A.deeper env := by
  obtain ⟨hd, d, fr, gs, u⟩ := A
  simp [Around.over, Around.deeper, marksOver, frameCount, unitsOf, envsOf, guardsOf, pushEnvs, pushGuards, Code.envs, Code.env?, Code.isFrame, Code.guards, Code.isGuard, Code.weight, Code.frames, Code.isCreation, Code.isCaller, Code.cUnits]

/-- the context of the generator's turns -/
abbrev Cx.gen (X : Cx) (s : Shared) (H : Hp) (cenv : Env) (fp : List Addr) (x : Str) : Cx :=
  { X with A := X.A.in1.in1.deeper cenv, N := X.N ++ [x], s_0 := s, H_0 := H, env := cenv, outer := X.stack, stack := cenv :: X.stack, ex := fp, fn := fun _ => false, pn := [], xe := fun _ _ => False }
/-- the environment of the generator's frame -/
abbrev gEnv (X : Cx) (scope : Scope) (C : Addr) (code : Value) : Env := genEnv scope (cloFrom X.env.cells scope.names []) C code builtinsNs X.env
theorem Room.gen {k : Nat} {A : Around} (r : Room (k + 1) A) (env : Env) : Room k (A.in1.in1.deeper env) :=
  ⟨r.hd, by have := r.dp; show A.depth + 1 + 3 * k + 5 < _; omega, by have := r.un; show A.units + 1 + 1 + 3 + 16 * k + 200 < _; omega⟩

/-- the scope of the generator expression -/
structure GSc (N : List Str) (sc scope : Scope) (x : Str) : Prop where
  blk : BlkOk (N ++ [x]) sc scope [(x, N.length)]
  nd : (N ++ [x]).Nodup
  co : scope.isCoroutine = false
  cell : ∀ y ∈ scope.names, y.2 ≠ .cell
  dot : scope.names.lookup (".0" : Str) = some NameKind.local
  loc : scope.names.lookup x = some .local
def gscC (N : List Str) (sc scope : Scope) (x : Str) : Bool :=
  blkC (N ++ [x]) sc scope [(x, N.length)] && decide ((N ++ [x]).Nodup) && !scope.isCoroutine && (scope.names.all fun y => match y.2 with | .cell => false | _ => true) && (match scope.names.lookup (".0" : Str) with | some .local => true | _ => false)
    && (match scope.names.lookup x with | some .local => true | _ => false)
theorem gsc_by {N : List Str} {sc scope : Scope} {x : Str} (h : gscC N sc scope x = true) : GSc N sc scope x := by
  unfold gscC at h
  simp only [Bool.and_eq_true, decide_eq_true_eq, Bool.not_eq_true', List.all_eq_true] at h
  obtain ⟨⟨⟨⟨⟨h1, h2⟩, h3⟩, h4⟩, h5⟩, h6⟩ := h
  refine ⟨blkOk_by h1, h2, h3, fun y hy e => ?_, ?_, ?_⟩
  · have := h4 y hy
    rw [e] at this
    cases this
  · split at h5
    · assumption
    · cases h5
  · split at h6
    · assumption
    · cases h6

section
variable {X : Cx} {pins : List (Addr × Obj)} {σ : L2.St} {H : Hp} {s s' : Shared}
/-- the same heap, other tokens and generators -/
theorem Inv.regen (I : Inv X pins σ H s) (hh : s'.heap = s.heap) (ho : s'.os = s.os) (hb : AllBare s'.gens) : Inv X pins σ H s' := by
  obtain ⟨h, g, d, t, o⟩ := s
  obtain ⟨h', g', d', t', o'⟩ := s'
  obtain rfl : h' = h := hh
  obtain rfl : o' = o := ho
  exact ⟨I.ok, I.os, hb, I.base, I.loc, I.cell, I.free, I.freeC, I.pin, I.hok, I.len⟩

theorem gen_start {scope : Scope} {x : Str} {code : Value} {m : Str → Option Value} {fp : List Addr} (I : Inv X pins σ H s) (S : GSc X.N X.env.scope scope x) (hfp : ∀ b ∈ fp, FpOk X pins H b ∧ b < s.heap.objs.size)
    (hn : s'.heap.Ns s.heap.objs.size m) (kp : ∀ b o, s.heap.get? b = some o → s'.heap.get? b = some o) (ho : s'.os = s.os) (hb : AllBare s'.gens) :
    Inv (Cx.gen X s H (gEnv X scope s.heap.objs.size code) fp x) [] (σ ++ [none]) H s' := by
  have ok := S.blk
  have hfree : ∀ y ∈ scope.names, y.2 = .free → ∃ c, X.env.cells.lookup y.1 = some c := fun y hy e => by
    rcases ok.free y hy e with k | k
    · exact I.ok.has _ (.inl k)
    · exact I.ok.has _ (.inr k)
  have cm : ∀ {y c}, (y, c) ∈ cloFrom X.env.cells scope.names [] → X.env.cells.lookup y = some c ∧ c < s.heap.objs.size := fun {y c} hm => by
    rcases cloFrom_mem hm with hm | ⟨h1, rfl⟩
    · cases hm
    · obtain ⟨c, hc⟩ := hfree _ h1 rfl
      rw [hc]
      obtain ⟨w, z⟩ := I.cell _ _ hc
      exact ⟨rfl, z.lt⟩
  generalize hcenv : gEnv X scope s.heap.objs.size code = cenv
  have hL : cenv.locals = s.heap.objs.size := by rw [← hcenv]; rfl
  have hcl : cenv.cells = cloFrom X.env.cells scope.names [] := by rw [← hcenv]; rfl
  have hsc : cenv.scope = scope := by rw [← hcenv]; rfl
  have hfr : cenv.frame = some cenv.locals := by rw [← hcenv]; rfl
  have mem : ∀ {y c}, cenv.cells.lookup y = some c → X.env.cells.lookup y = some c ∧ c < s.heap.objs.size := fun {y c} e => by
    rw [hcl] at e
    exact cm (PySem.mem_of_lookup e)
  have look : ∀ {y}, scope.names.lookup y = some .free → ∃ c, cenv.cells.lookup y = some c ∧ X.env.cells.lookup y = some c := fun {y} hl => by
    have hy : (y, NameKind.free) ∈ scope.names := PySem.mem_of_lookup hl
    obtain ⟨c', e'⟩ := mem_lookup (cloFrom_has (cells := X.env.cells) (acc := []) hy)
    rw [← hcl] at e'
    exact ⟨c', e', (mem e').1⟩
  have okG : (Cx.gen X s H cenv fp x).Ok := by
    refine ⟨I.ok.mod, by show cenv.scope.kind = _; rw [hsc]; exact ok.kind, by show cenv.globals = _; rw [← hcenv]; exact I.ok.glob, by show cenv.builtins = _; rw [← hcenv]; rfl, by show s.heap.objs.size ≤ cenv.locals; rw [hL]; exact Nat.le_refl _,
      fun y z c e1 e2 => ?_, fun y hy => ?_, fun y c z e => ?_, I.ok.hd, ?_, .inr ⟨rfl, hfr⟩, fun b hb => ⟨?_, fun y c e z => ?_⟩, I.bs, Nat.le_trans I.ok.bsz I.sz, fun b o e hb => ?_, fun b hb z => ?_, I.stack, I.stkFree⟩
    · exact I.ok.inj y z c (mem e1).1 (mem e2).1
    · show ∃ c, cenv.cells.lookup y = some c
      have key : ∀ k, cenv.kindOf y = some k → (k = .cell ∨ k = .free) → ∃ c, cenv.cells.lookup y = some c := fun k hk hk' => by
        unfold Env.kindOf at hk
        rw [hsc] at hk
        rcases hk' with rfl | rfl
        · exact absurd rfl (S.cell _ (PySem.mem_of_lookup hk))
        · obtain ⟨c, h1, _⟩ := look hk
          exact ⟨c, h1⟩
      rcases hy with hy | hy
      · exact key _ hy (.inl rfl)
      · exact key _ hy (.inr rfl)
    · cases z
    · show (X.A.in1.in1.deeper cenv).frames = some (cenv :: X.stack)
      have := I.ok.frames
      show pushEnvs [cenv] X.A.frames = some (cenv :: X.stack)
      rw [this]; rfl
    · show b ≠ cenv.locals
      rw [hL]; exact Nat.ne_of_lt (hfp b hb).2
    · exact (hfp b hb).1.2.2.2.2.1 y c (mem e).1 z
    · rcases (hfp b hb).1.2.2.2.1 with z | z
      · exact I.ok.noex b o e z
      · exact absurd (Nat.lt_of_lt_of_le (Heap.lt_size e) (Nat.le_trans I.ok.bsz z)) (Nat.lt_irrefl _)
    · rcases List.mem_cons.mp (I.stkSub b z) with z | z
      · exact (hfp b hb).1.2.1 z
      · exact (hfp b hb).1.2.2.1 z
  refine ⟨okG, ho, hb, Un.kept kp, ⟨m, ?_, fun i y av e1 e2 e3 => ?_⟩, fun y c e => ?_, ?_, fun y c e => ?_, fun p hp => ?_, I.hok.kept kp, ?_⟩
  · show Heap.Ns _ cenv.locals _
    rw [hL]; exact hn
  · have hi : i < σ.length := by
      rcases Nat.lt_or_ge i σ.length with h | h
      · exact h
      · rw [List.getElem?_append_right h] at e2
        rcases Nat.eq_zero_or_pos (i - σ.length) with z | z
        · rw [z] at e2; cases e2
        · rw [List.getElem?_eq_none (by simp; omega)] at e2; cases e2
    have hN : i < X.N.length := by rw [← I.len]; exact hi
    rw [List.getElem?_append_left hi] at e2
    have e1 : (X.N ++ [x])[i]? = some y := e1
    have e1N := e1
    rw [List.getElem?_append_left hN] at e1N
    have hfreeY : scope.names.lookup y = some .free := by
      have key : ∀ k, scope.names.lookup y = some k → k = .local ∨ k = .cell ∨ k = .free → scope.names.lookup y = some .free := fun k hk hk' => by
        have no : ¬ (k = .local ∨ k = .cell) := fun hh => by
          rcases ok.own _ (PySem.mem_of_lookup hk) hh with e' | e'
          · have : y = x := by simpa using e'
            subst this
            have e3 : (X.N ++ [y])[X.N.length]? = some y := by simp
            have := nodup_ix S.nd e1 e3
            omega
          · exact e' (List.mem_of_getElem? e1)
        rcases hk' with rfl | rfl | rfl
        · exact absurd (.inl rfl) no
        · exact absurd (.inr rfl) no
        · exact hk
      have e3 : Vis cenv.scope y := e3
      rw [hsc] at e3
      rcases e3 with e3 | e3 | e3
      · exact key _ e3 (.inl rfl)
      · exact key _ e3 (.inr (.inl rfl))
      · exact key _ e3 (.inr (.inr rfl))
    obtain ⟨m', hn', hl⟩ := I.loc
    have hvis : Vis X.env.scope y := (ok.free _ (PySem.mem_of_lookup hfreeY) rfl).elim (fun k => .inr (.inl k)) (fun k => .inr (.inr k))
    obtain ⟨w, r, q⟩ := hl i y av e1N e2 hvis
    refine ⟨w, r, .inr ⟨.inr (by show cenv.scope.names.lookup y = _; rw [hsc]; exact hfreeY), ?_⟩⟩
    obtain ⟨c, h1, h2⟩ := look hfreeY
    rcases q with ⟨k, _⟩ | ⟨_, c', e', z⟩
    · have k : X.env.scope.names.lookup y = some .local := k
      rcases ok.free _ (PySem.mem_of_lookup hfreeY) rfl with k' | k' <;> rw [show X.env.scope.names.lookup y = _ from k'] at k <;> cases k
    · rw [h2] at e'; cases e'
      exact ⟨c, h1, z.keeps kp⟩
  · obtain ⟨w, z⟩ := I.cell y c (mem e).1
    exact ⟨w, z.keeps kp⟩
  · show H cenv.locals = none
    rw [hL]; exact I.hok.fresh (Nat.le_refl _)
  · exact I.freeC y c (mem e).1
  · exact absurd (show p ∈ ([] : List (Addr × Obj)) ++ [] from hp) (by simp)
  · show (σ ++ [none]).length = (X.N ++ [x]).length
    simp [I.len]
end

/-! ### the turns -/
def GR (XG : Cx) (pn : List (Addr × Obj)) (σ0 : L2.St) (QF : Hp → Prop) : Nat → Shared → Shared → Prop := fun _ _ s₁ => ∃ H, Inv XG pn σ0 H s₁ ∧ QF H
def GYp (XG : Cx) (pn : List (Addr × Obj)) (σ0 : L2.St) (stopv : Bool) (QS : Hp → Prop) (fp : List Addr) (tn : Nat → Heap → Prop) (W : Nat → Nat → Hp → Prop) : Protocol := fun k _ v s kap =>
  ∃ H b, v = .bool b ∧ Inv XG pn σ0 H s ∧ (if b = stopv then QS H else ∃ i m, m < k ∧ tn i s.heap ∧ (∀ c ∈ fp, H c = none) ∧ W i m H ∧ ∀ s'' : Shared, s''.heap = s.heap → s''.os = s.os → AllBare s''.gens → kap (.send .none) s'')
theorem set_last {α : Type} (l : List (Option α)) (v : α) : (l ++ [none]).set l.length (some v) = l ++ [some v] := by
  induction l with
  | nil => rfl
  | cons a r ih => show a :: ((r ++ [none]).set r.length (some v)) = a :: (r ++ [some v]); rw [ih]
section
variable {X : Cx} {s1 : Shared} {H1 : Hp} {cenv : Env} {fp : List Addr} {x : Str} {px : Pos} {J : It} {it : Addr} {tn : Nat → Heap → Prop} {pn : List (Addr × Obj)} {σ : L2.St} {stopv : Bool} {QS QF : Hp → Prop} {W : Nat → Nat → Hp → Prop} {elt iter : Expr} {te : TE} {scope : Scope} {pos : Pos}
theorem seg_turns (hc : X.calm = true) (T : Turn X.prog X.w X.K (.Name x px) J fp it tn) (hpn : ∀ p ∈ pn, ∀ b ∈ fp, p.1 ≠ b) (nd : (X.N ++ [x]).Nodup) (hx : cenv.scope.names.lookup x = some .local) (hco : cenv.scope.isCoroutine = false)
    (he : PE (Cx.gen X s1 H1 cenv fp x) elt te)
    (turn : ∀ i m H, W i m H → (J.stop i H ∧ QF H) ∨ (J.go i H ∧ ∃ Nx : Hp → Prop, (∀ H', Nx H' → ∃ m', m' < m ∧ W (i + 1) m' H') ∧ ∀ v H', J.yld i H v H' → te (σ ++ [some v]) H' fun y H2 => ∃ b, y = .bl b ∧ if b = stopv then QS H2 else Nx H2)) :
    ∀ (n m i : Nat) (s₀ s : Shared) (H : Hp), m < n → Inv (Cx.gen X s1 H1 cenv fp x) pn (σ ++ [none]) H s → tn i s.heap → (∀ b ∈ fp, H b = none) → W i m H →
      Seg (model X.prog X.w) X.A.in1.in1 (fun n s₀ r s₁ => r = .ok .next ∧ GR (Cx.gen X s1 H1 cenv fp x) pn (σ ++ [none]) QF n s₀ s₁) (GYp (Cx.gen X s1 H1 cenv fp x) pn (σ ++ [none]) stopv QS fp tn W) n s₀
        (.compLoop (.GeneratorExp elt [⟨.Name x px, iter, [], 0⟩] scope pos) 0 (.ref it) .none cenv) ((model X.prog X.w).den (.compLoop (.GeneratorExp elt [⟨.Name x px, iter, [], 0⟩] scope pos) 0 (.ref it) .none cenv)) [] s := by
  intro n
  induction n with
  | zero => intro m i s₀ s H hm; exact absurd hm (Nat.not_lt_zero _)
  | succ k ih =>
    intro m i s₀ s H hm I st fr w
    have ov : X.A.in1.in1.over (.compLoop (.GeneratorExp elt [⟨.Name x px, iter, [], 0⟩] scope pos) 0 (.ref it) .none cenv) [] = (Cx.gen X s1 H1 cenv fp x).A := over_loop
    have stat : ∀ {H' : Hp}, (∀ b ∈ fp, H' b = none) → ∀ b ∈ fp, FpOk (Cx.gen X s1 H1 cenv fp x) pn H' b := fun hn b hb =>
      ⟨hn b hb, (I.ok.exf b hb).1, I.ok.exfs b hb, .inl hb, fun x c e => (I.ok.exf b hb).2 x c e, fun p hp => by
        rcases List.mem_append.mp hp with z | z
        · cases z
        · exact hpn p z b hb⟩
    show Seg _ _ _ _ _ s₀ _ ((compTurn (.GeneratorExp elt [⟨.Name x px, iter, [], 0⟩] scope pos) 0 (.ref it) .none cenv).onRaise (leaving cenv)) [] s
    rw [compTurn_gen, Sem.onRaise_eq_wrap]
    refine seg_bind_wrap (wpAny_standAt ?_)
    refine seg_bind_wrap ?_
    rw [ov]
    rcases turn i m H w with ⟨stop, qf⟩ | ⟨go, Nx, hNx, step⟩
    · refine thnF (T.done (Cx.gen X s1 H1 cenv fp x) rfl rfl rfl hc i pn s _ H (fun _ _ => False) I (stat fr) st stop) fun r s2 ⟨hr, I2⟩ => ?_
      subst hr
      exact seg_end (.ok .next) ⟨rfl, H, I2, qf⟩
    · refine thnF (T.item (Cx.gen X s1 H1 cenv fp x) rfl rfl rfl hc i pn s _ H (fun _ _ => False) I (stat fr) st go) fun r s2 ⟨u, hr, h2⟩ => ?_
      subst hr
      refine seg_bind_wrap ?_
      rw [ov]
      refine thnF h2 fun _ s3 ⟨v, H3, I3, r3, y3, st3, fr3⟩ => ?_
      have I3' := I3.pinned (stat fr3) (T.obj _ _ st3)
      have hl : σ.length = X.N.length := by
        have := I.len
        simp at this
        exact this
      have pg : PG (Cx.gen X s1 H1 cenv fp x) (.Name x px) (gName X.N.length) := pg_name nd (by show (X.N ++ [x])[X.N.length]? = some x; simp) (.inl hx) (.inr hx)
      refine seg_bind_wrap ?_
      rw [ov]
      refine thnF (pg.run _ s3 _ H3 v u (fun σ' H' => σ' = σ ++ [some v] ∧ H' = H3) I3' r3 ⟨by rw [← hl]; exact set_last σ v, rfl⟩) fun _ s4 ⟨σ4, H4, I4, e4, e4'⟩ => ?_
      subst e4 e4'
      simp only [List.forIn_nil]
      refine seg_bind_wrap (wpAny_pure ?_)
      simp only [if_true]
      have hy : ∀ v, yieldOut cenv v = yieldValue v := fun v => by simp only [yieldOut, hco, Bool.false_eq_true, if_false]
      simp only [hy]
      rw [Sem.bind_eq_wrap', Sem.bind_eq_wrap', Sem.wrap_wrap, Sem.wrap_wrap]
      refine seg_wrap ?_
      rw [ov]
      refine thnF (he.run _ s4 _ H4 _ I4 (step v H4 y3)) fun z s5 ⟨yv, H5, I5, r5, b, eb, q5⟩ => ?_
      subst eb
      obtain rfl : z = Value.bool b := r5
      have pin' : ∀ c ∈ fp, ∀ o, s3.heap.get? c = some o → s5.heap.get? c = some o ∧ H5 c = none := fun c hc o e =>
        let z := I5.pin (c, o) (List.mem_append_right _ (List.mem_append_right _ (mem_pinsAt hc e)))
        ⟨z.1, z.2.1⟩
      have st5 : tn (i + 1) s5.heap := T.keep _ _ _ st3 fun c hc o e => (pin' c hc o e).1
      have fr5 : ∀ c ∈ fp, H5 c = none := fun c hc => by
        obtain ⟨o, e, _⟩ := T.obj _ _ st3 c hc
        exact (pin' c hc o e).2
      have I5' : Inv (Cx.gen X s1 H1 cenv fp x) pn (σ ++ [none]) H5 s5 := (I5.unpinned (pins := pn)).weak (by simp) fun j w e => by
        rcases Nat.lt_or_ge j σ.length with h | h
        · rw [List.getElem?_append_left h] at e ⊢; exact e
        · rw [List.getElem?_append_right h] at e
          rcases Nat.eq_zero_or_pos (j - σ.length) with z | z
          · rw [z] at e; cases e
          · rw [List.getElem?_eq_none (by simp; omega)] at e; cases e
      refine seg_at (seg_yield rfl rfl rfl ⟨H5, b, rfl, I5', ?_⟩)
      by_cases hb : b = stopv
      · rw [if_pos hb] at q5 ⊢
        exact q5
      · rw [if_neg hb] at q5 ⊢
        obtain ⟨m', hm', w'⟩ := hNx H5 q5
        refine ⟨i + 1, m', by omega, st5, fr5, w', fun s'' e1 e2 e3 => ?_⟩
        refine seg_again rfl (ih m' (i + 1) s'' s'' H5 (by omega) (Inv.regen I5' e1 e2 e3) ?_ fr5 w')
        rw [e1]; exact st5
theorem seg_first (hc : X.calm = true) (T : Turn X.prog X.w X.K (.Name x px) J fp it tn) (hpn : ∀ p ∈ pn, ∀ b ∈ fp, p.1 ≠ b) (nd : (X.N ++ [x]).Nodup) (hx : cenv.scope.names.lookup x = some .local) (hco : cenv.scope.isCoroutine = false)
    (he : PE (Cx.gen X s1 H1 cenv fp x) elt te)
    (turn : ∀ i m H, W i m H → (J.stop i H ∧ QF H) ∨ (J.go i H ∧ ∃ Nx : Hp → Prop, (∀ H', Nx H' → ∃ m', m' < m ∧ W (i + 1) m' H') ∧ ∀ v H', J.yld i H v H' → te (σ ++ [some v]) H' fun y H2 => ∃ b, y = .bl b ∧ if b = stopv then QS H2 else Nx H2))
    (n m : Nat) (s₀ s : Shared) (H : Hp) (hm : m < n) (I : Inv (Cx.gen X s1 H1 cenv fp x) pn (σ ++ [none]) H s) (st : tn 0 s.heap) (fr : ∀ b ∈ fp, H b = none) (w : W 0 m H) :
      Seg (model X.prog X.w) X.A.in1.in1 (fun n s₀ r s₁ => r = .ok .next ∧ GR (Cx.gen X s1 H1 cenv fp x) pn (σ ++ [none]) QF n s₀ s₁) (GYp (Cx.gen X s1 H1 cenv fp x) pn (σ ++ [none]) stopv QS fp tn W) n s₀
        (.compStart (.GeneratorExp elt [⟨.Name x px, iter, [], 0⟩] scope pos) 0 (.ref it) .none cenv) ((model X.prog X.w).den (.compStart (.GeneratorExp elt [⟨.Name x px, iter, [], 0⟩] scope pos) 0 (.ref it) .none cenv)) [] s := by
  have ov : X.A.in1.in1.over (.compStart (.GeneratorExp elt [⟨.Name x px, iter, [], 0⟩] scope pos) 0 (.ref it) .none cenv) [] = (Cx.gen X s1 H1 cenv fp x).A := over_start
  have loop := seg_turns (iter := iter) (px := px) (scope := scope) (pos := pos) hc T hpn nd hx hco he turn n m 0 s₀ s H hm I st fr w
  show Seg _ _ _ _ _ s₀ _ ((compStart (.GeneratorExp elt [⟨.Name x px, iter, [], 0⟩] scope pos) 0 (.ref it) .none cenv).onRaise (leaving cenv)) [] s
  unfold compStart
  rw [Sem.onRaise_eq_wrap]
  show Seg _ _ _ _ _ s₀ _ ((ask >>= _).wrap _ _ _ _) [] s
  refine seg_bind_wrap (wpAny_askSetting ?_)
  split
  · exact seg_again rfl loop
  · first
      | exact seg_bind_wrap (wpAny_rule (seg_bind_wrap (wpAny_standAt (seg_bind_wrap (T.self _ 0 s _ _ st (seg_again rfl loop))))))
      | (refine seg_bind_wrap (wpAny_rule ?_); show Seg _ _ _ _ _ s₀ _ ((standAt iter.pos >>= _).wrap _ _ _ _) [] s; exact seg_bind_wrap (wpAny_standAt (seg_bind_wrap (T.self _ 0 s _ _ st (seg_again rfl loop)))))
end
end GE
set_option Elab.async false
set_option linter.all false
set_option maxRecDepth 100000
set_option maxHeartbeats 4000000
namespace GE
open PySem PySem.Spec PyProof.Rows L2 GxR
theorem AllBare.setGen {s : Shared} {g : Nat} {x : GenState} (h : AllBare s.gens) (hx : x.bare = true) : AllBare (s.setGen g x).gens := by
  intro y hy
  have hy' : y ∈ s.gens.setIfInBounds g x := hy
  obtain ⟨i, hi, e⟩ := Array.mem_iff_getElem.mp hy'
  have hi' : i < s.gens.size := by simpa using hi
  rw [Array.getElem_setIfInBounds] at e
  split at e
  · rw [← e]; exact hx
  · rw [← e]; exact h _ (Array.getElem_mem hi')
  · exact hi'
section
variable {X : Cx} {s1 : Shared} {H1 : Hp} {cenv : Env} {fp : List Addr} {x : Str} {px : Pos} {J : It} {it a g : Nat} {tn : Nat → Heap → Prop} {pn : List (Addr × Obj)} {σ : L2.St} {stopv : Bool} {QS QF : Hp → Prop} {W : Nat → Nat → Hp → Prop} {elt iter : Expr} {te : TE} {scope : Scope} {pos : Pos} {R : Result → Shared → Prop}
/-- between two turns -/
def JG (X : Cx) (XG : Cx) (pn : List (Addr × Obj)) (σ0 : L2.St) (stopv : Bool) (QS QF : Hp → Prop) (fp : List Addr) (tn : Nat → Heap → Prop) (W : Nat → Nat → Hp → Prop) (a g n : Nat) (s : Shared) : Prop :=
  (∃ H, Inv XG pn σ0 H s) ∧ s.heap.IsGen a g ∧ ∃ gs, s.gens[g]? = some gs ∧ ∀ s'' : Shared, s''.heap = s.heap → s''.os = s.os → AllBare s''.gens →
    gs.Goes (model X.prog X.w) X.A.in1.in1 (fun n s₀ r s₁ => r = .ok .next ∧ GR XG pn σ0 QF n s₀ s₁) (GYp XG pn σ0 stopv QS fp tn W) n (.send .none) s''
/-- what pyNext leads to -/
def NX (X : Cx) (XG : Cx) (pn : List (Addr × Obj)) (σ0 : L2.St) (stopv : Bool) (QS QF : Hp → Prop) (fp : List Addr) (tn : Nat → Heap → Prop) (W : Nat → Nat → Hp → Prop) (a g n : Nat) (r : Option Value) (s : Shared) : Prop :=
  match r with
  | none => ∃ H, Inv XG pn σ0 H s ∧ QF H
  | some v => ∃ b, v = .bool b ∧ if b = stopv then ∃ H, Inv XG pn σ0 H s ∧ QS H else ∃ n', n' < n ∧ JG X XG pn σ0 stopv QS QF fp tn W a g n' s
theorem next_gen {XG : Cx} {σ0 : L2.St} {n : Nat} {s : Shared} {go : Obj} (hh : X.A.handled = none) (hroom : X.A.depth < recursionLimit) (hgo : (a, go) ∈ pn) (hG : ∀ h : Heap, h.get? a = some go → h.IsGen a g) (h : JG X XG pn σ0 stopv QS QF fp tn W a g n s) {E : Value → Shared → Prop} :
    wpAny (model X.prog X.w) X.A.in1 (pyNext (.ref a)) (NX X XG pn σ0 stopv QS QF fp tn W a g n) E s := by
  obtain ⟨⟨H, I⟩, hg, gs, hgs, goes⟩ := h
  have hsz : g + 1 ≤ s.gens.size := by
    rcases Nat.lt_or_ge g s.gens.size with h' | h'
    · exact h'
    · rw [Array.getElem?_eq_none h'] at hgs; cases hgs
  refine GenW.wpAny_gsz hsz ?_
  refine wpAny_pyNext_genexpQ (A := X.A.in1) (P := GR XG pn σ0 QF) hh I.nolimit hroom hg hgs (goes _ rfl rfl (AllBare.setGen I.bare rfl)) (fun v s₁ gs' hb hv => ?_) (fun s₁ hp h' hk => ?_)
  · obtain ⟨H', b, rfl, I', q⟩ := hv
    intro hsz'
    have I2 : Inv XG pn σ0 H' (s₁.setGen g gs') := Inv.regen I' rfl rfl (AllBare.setGen I'.bare hb)
    refine ⟨b, rfl, ?_⟩
    by_cases hbs : b = stopv
    · rw [if_pos hbs] at q ⊢
      exact ⟨H', I2, q⟩
    · rw [if_neg hbs] at q ⊢
      obtain ⟨i, m, hm, st, fr, w, kap⟩ := q
      cases n with
      | zero => exact absurd hm (Nat.not_lt_zero _)
      | succ k =>
        refine ⟨k, Nat.lt_succ_self _, ⟨H', I2⟩, hG _ (I2.pin (a, go) (List.mem_append_right _ hgo)).1, gs', ?_, fun s'' e1 e2 e3 => ?_⟩
        · have h9 : g < (s₁.gens.setIfInBounds g gs').size := hsz'
          have h8 : g < s₁.gens.size := by simpa using h9
          show (s₁.gens.setIfInBounds g gs')[g]? = some gs'
          rw [Array.getElem?_setIfInBounds_self_of_lt h8]
        · exact kap s'' e1 e2 e3
  · intro _
    obtain ⟨H', I', q⟩ := hp
    have I2 : Inv XG pn σ0 H' (s₁.setGen g .finished) := Inv.regen I' rfl rfl (AllBare.setGen I'.bare rfl)
    exact ⟨H', I2.kept (t' := (s₁.setGen g .finished).toks) hk, q⟩
theorem any_turns {XG : Cx} {σ0 : L2.St} {go : Obj} (hh : X.A.handled = none) (hroom : X.A.depth < recursionLimit) (hgo : (a, go) ∈ pn) (hG : ∀ h : Heap, h.get? a = some go → h.IsGen a g)
    (hS : ∀ H s, Inv XG pn σ0 H s → QS H → R (.ok (.ret (.bool true))) s) (hF : ∀ H s, Inv XG pn σ0 H s → QF H → R (.ok (.ret (.bool false))) s) :
    ∀ (n : Nat) (s : Shared), JG X XG pn σ0 true QS QF fp tn W a g n s → codeAny (model X.prog X.w) X.A (.builtin "any.loop" ⟨[.ref a], []⟩) R s := by
  intro n
  induction n using Nat.strongRecOn with
  | ind n ih =>
    intro s h
    refine codeAny_builtin PySem.F.entry_any_loop ?_
    rw [Around.under_plainId PySem.F.plain_any_loop _]
    show wpAny _ X.A.in1 (pyNext (.ref a) >>= _) _ _ s
    refine wpAny_bind (wpAny_mono (next_gen hh hroom hgo hG h (E := fun _ _ => False)) (fun r s' hr => ?_) fun _ _ z => False.elim z)
    cases r with
    | none =>
      obtain ⟨H', I', q⟩ := hr
      exact wpAny_bind (wpAny_rule (wpAny_pure (hF H' s' I' q)))
    | some v =>
      obtain ⟨b, rfl, q⟩ := hr
      refine wpAny_bind (wpAny_holding (wpAny_truthy_bool ?_))
      refine wpAny_bind (wpAny_letGo ?_)
      cases b with
      | true =>
        simp only [if_true] at q ⊢
        obtain ⟨H', I', q⟩ := q
        exact wpAny_bind (wpAny_rule (wpAny_pure (hS H' s' I' q)))
      | false =>
        simp only [Bool.false_eq_true, if_false] at q ⊢
        obtain ⟨n', hn, j⟩ := q
        exact wpAny_pure ⟨plainId_quiet PySem.F.plain_any_loop _, ih n' hn s' j⟩
theorem all_turns {XG : Cx} {σ0 : L2.St} {go : Obj} (hh : X.A.handled = none) (hroom : X.A.depth < recursionLimit) (hgo : (a, go) ∈ pn) (hG : ∀ h : Heap, h.get? a = some go → h.IsGen a g)
    (hS : ∀ H s, Inv XG pn σ0 H s → QS H → R (.ok (.ret (.bool false))) s) (hF : ∀ H s, Inv XG pn σ0 H s → QF H → R (.ok (.ret (.bool true))) s) :
    ∀ (n : Nat) (s : Shared), JG X XG pn σ0 false QS QF fp tn W a g n s → codeAny (model X.prog X.w) X.A (.builtin "all.loop" ⟨[.ref a], []⟩) R s := by
  intro n
  induction n using Nat.strongRecOn with
  | ind n ih =>
    intro s h
    refine codeAny_builtin PySem.F.entry_all_loop ?_
    rw [Around.under_plainId PySem.F.plain_all_loop _]
    show wpAny _ X.A.in1 (pyNext (.ref a) >>= _) _ _ s
    refine wpAny_bind (wpAny_mono (next_gen hh hroom hgo hG h (E := fun _ _ => False)) (fun r s' hr => ?_) fun _ _ z => False.elim z)
    cases r with
    | none =>
      obtain ⟨H', I', q⟩ := hr
      exact wpAny_bind (wpAny_rule (wpAny_pure (hF H' s' I' q)))
    | some v =>
      obtain ⟨b, rfl, q⟩ := hr
      refine wpAny_bind (wpAny_holding (wpAny_truthy_bool ?_))
      refine wpAny_bind (wpAny_letGo ?_)
      cases b with
      | false =>
        simp only [if_true] at q
        simp only [Bool.false_eq_true, if_false]
        obtain ⟨H', I', q⟩ := q
        exact wpAny_bind (wpAny_rule (wpAny_pure (hS H' s' I' q)))
      | true =>
        simp only [Bool.true_eq_false, if_false] at q
        simp only [if_true]
        obtain ⟨n', hn, j⟩ := q
        exact wpAny_pure ⟨plainId_quiet PySem.F.plain_all_loop _, ih n' hn s' j⟩
end
section
variable {X : Cx} {pins : List (Addr × Obj)} {σ : L2.St} {H : Hp} {s : Shared}
/-- any(..), all(..): stopv the truth at which it ends -/
def tQuant (stopv : Bool) (P : Addr) (wi : TI) (te : TE) : TE := fun σ H Q => wi σ H fun J H1 => TabG H1 P ∧ ∀ H2, Tabbed P H1 H2 → ∃ W : Nat → Nat → Hp → Prop, (∃ m, W 0 m H2) ∧ ∀ i m H, W i m H →
  (J.stop i H ∧ Q (.bl (!stopv)) H) ∨ (J.go i H ∧ ∃ Nx : Hp → Prop, (∀ H', Nx H' → ∃ m', m' < m ∧ W (i + 1) m' H') ∧ ∀ v H', J.yld i H v H' → te (σ ++ [some v]) H' fun y H3 => ∃ b, y = .bl b ∧ if b = stopv then Q (.bl stopv) H3 else Nx H3)
theorem gen_made {c P : Addr} {elt iter : Expr} {x : Str} {px gpos : Pos} {scope : Scope} {wi : TI} {te : TE} {k : Nat} {stopv : Bool} {Q : VK} {Q' : Value → Shared → Prop}
    (hc : X.calm = true) (hr : Room k X.A) (TB : TabB X.base X.mg c P) (hcode : X.env.code = .ref c) (S : GSc X.N X.env.scope scope x) (hi : PI X (.Name x px) iter wi)
    (he : ∀ (s : Shared) (H : Hp) (C : Addr) (code : Value) (fp : List Addr), PE (Cx.gen X s H (gEnv X scope C code) fp x) elt te)
    (hs : ∀ v, genFold iter X.env v = pure v) (I : Inv X pins σ H s) (h : tQuant stopv P wi te σ H Q)
    (hQ : ∀ (a g : Nat) (s5 : Shared) (XG : Cx) (pn : List (Addr × Obj)) (σ0 : L2.St) (fp : List Addr) (tn : Nat → Heap → Prop) (W : Nat → Nat → Hp → Prop) (go : Obj) (n : Nat), (a, go) ∈ pn → (∀ h : Heap, h.get? a = some go → h.IsGen a g) → s5.heap.IsGen a g →
      JG X XG pn σ0 stopv (fun H => Q (.bl stopv) H) (fun H => Q (.bl (!stopv)) H) fp tn W a g n s5 →
      (∀ H s, Inv XG pn σ0 H s → Inv X pins σ H s) → Q' (.ref a) s5) :
    wpAny (model X.prog X.w) X.A (eval (.GeneratorExp elt [⟨.Name x px, iter, [], 0⟩] scope gpos) X.env) Q' X.xe s := by
  have hfree : ∀ y ∈ scope.names, y.2 = .free → ∃ c, X.env.cells.lookup y.1 = some c := fun y hy e => by
    rcases S.blk.free y hy e with k | k
    · exact I.ok.has _ (.inl k)
    · exact I.ok.has _ (.inr k)
  refine wpAny_GeneratorExp_make S.co (closure_ok hfree) S.cell S.dot S.blk.kind (by have := hr.dp; omega) ?_ hs
  refine thn (hi.run pins s σ H _ I h) fun xv s1 hx => thn hx fun itv s2 h2 => ?_
  obtain ⟨it, fp, tn, J, H2, rfl, I2, T, st2, f2, ⟨ps, hP, ht⟩, q⟩ := h2
  refine ⟨I2.nolimit, ?_⟩
  have hPs : s2.heap.get? P = some { cls := .none, data := .fields ps } := I2.hok P _ hP
  have cd : PySem.W.CodeHd s2.heap c P := TB.code.keeps fun b u e => I2.bk b u e
  have nfP : ∀ b ∈ fp, b ≠ P := fun b hb z => by
    have := (f2 b hb).1
    rw [z, hP] at this; cases this
  have cont : ∀ (code : Value) (s3 : Shared) (H3 : Hp), Tabbed P H2 H3 → Inv X pins σ H3 s3 → (∀ b o, b ≠ P → s2.heap.get? b = some o → s3.heap.get? b = some o) →
      wpAny (model X.prog X.w) X.A (builtinsFor X.env.globals X.env.builtins) (fun bi s₄ =>
        ∀ h', h'.Ns s₄.heap.objs.size (fun y => if y = ".0" then some (.ref it) else none) → Heap.SameBut s₄.heap.objs.size (s₄.heap.push { cls := .type "frame", data := .dict #[] }) h' →
          Q' (.ref h'.objs.size) { s₄ with
            gens := s₄.gens.push (.fresh (.compStart (.GeneratorExp elt [⟨.Name x px, iter, [], 0⟩] scope gpos) 0 (.ref it) .none (genEnv scope (cloFrom X.env.cells scope.names []) s₄.heap.objs.size code bi X.env))),
            toks := s₄.toks + 1 + 1 + 1,
            heap := h'.push { cls := .type "generator", data := .fields #[.int s₄.gens.size 0, .str "<genexpr>" (s₄.toks + 1), .str (X.env.qual ++ "<genexpr>") (s₄.toks + 1 + 1)] } }) X.xe s3 := by
    intro code s3 H3 tb I3 keep3
    obtain ⟨bm, ob, e1, e2, e3, e4, e5, e6, e7, e8⟩ := TB.bm
    refine wpAny_builtinsFor (m := X.mg) (by rw [I3.ok.glob]; exact I3.mod.glob.keeps I3.bk) e1 e2 (I3.bk _ _ e5) e6 e7 e8 ?_
    intro h' hn' hs'
    obtain ⟨W, ⟨m0, w0⟩, turn⟩ := q H3 tb
    have hsz : h'.objs.size = s3.heap.objs.size + 1 := by rw [hs'.1, Heap.size_push]
    have keep' : ∀ b o, s3.heap.get? b = some o → h'.get? b = some o := fun b o e => hs'.extBut b o (Nat.ne_of_lt (Heap.lt_size e)) (Heap.get?_push_of_some _ e)
    generalize hgo : ({ cls := .type "generator", data := .fields #[.int s3.gens.size 0, .str "<genexpr>" (s3.toks + 1), .str (X.env.qual ++ "<genexpr>") (s3.toks + 1 + 1)] } : Obj) = go
    have hG : ∀ h : Heap, h.get? h'.objs.size = some go → h.IsGen h'.objs.size s3.gens.size := fun h e => ⟨go, _, _, e, by rw [← hgo], by rw [← hgo], by rw [← hgo]⟩
    have keep5 : ∀ b o, s3.heap.get? b = some o → (h'.push go).get? b = some o := fun b o e => Heap.get?_push_of_some _ (keep' b o e)
    have gob : (h'.push go).get? h'.objs.size = some go := Heap.get?_push_size _ (by rw [← hgo]; rfl)
    have f3 : ∀ b ∈ fp, FpOk X pins H3 b ∧ b < s3.heap.objs.size := fun b hb => by
      obtain ⟨o, e, _⟩ := T.obj _ _ st2 b hb
      exact ⟨⟨by rw [tb.2 b (nfP b hb)]; exact (f2 b hb).1, (f2 b hb).2⟩, Heap.lt_size (keep3 b o (nfP b hb) e)⟩
    generalize hs5 : ({ s3 with
            gens := s3.gens.push (.fresh (.compStart (.GeneratorExp elt [⟨.Name x px, iter, [], 0⟩] scope gpos) 0 (.ref it) .none (genEnv scope (cloFrom X.env.cells scope.names []) s3.heap.objs.size code builtinsNs X.env))),
            toks := s3.toks + 1 + 1 + 1,
            heap := h'.push go } : Shared) = s5
    have eh : s5.heap = h'.push go := by rw [← hs5]
    have eo : s5.os = s3.os := by rw [← hs5]
    have eb : AllBare s5.gens := by rw [← hs5]; exact I3.bare.push rfl
    have I5 := gen_start (s' := s5) (code := code) I3 S f3 (by rw [eh]; exact hn'.push _) (fun b o e => by rw [eh]; exact keep5 b o e) eo eb
    have aL : h'.objs.size ≠ s3.heap.objs.size := by omega
    have aF : h'.objs.size ∉ frs X.stack := fun hm => by
      obtain ⟨_, o, ho, _⟩ := I3.stack.mem hm
      have h9 : h'.objs.size < s3.heap.objs.size := Heap.lt_size ho
      omega
    have aH : H3 h'.objs.size = none := I3.hok.fresh (by omega)
    have I6 : Inv (Cx.gen X s3 H3 (gEnv X scope s3.heap.objs.size code) fp x) [(h'.objs.size, go)] (σ ++ [none]) H3 s5 := I5.pins_of fun p hp => by
      rw [List.mem_singleton.mp hp]
      exact ⟨by rw [eh]; exact gob, aH, aL, aF, fun v z => by rw [← hgo] at z; cases z⟩
    have st5 : tn 0 s5.heap := T.keep _ _ _ st2 fun b hb o e => by rw [eh]; exact keep5 b o (keep3 b o (nfP b hb) e)
    refine hQ h'.objs.size s3.gens.size s5 _ [(h'.objs.size, go)] (σ ++ [none]) fp tn W go (m0 + 1) (List.mem_singleton.mpr rfl) hG (hG _ (by rw [eh]; exact gob)) ⟨⟨H3, I6⟩, hG _ (by rw [eh]; exact gob),
      .fresh (.compStart (.GeneratorExp elt [⟨.Name x px, iter, [], 0⟩] scope gpos) 0 (.ref it) .none (gEnv X scope s3.heap.objs.size code)), ?_, fun s'' e1 e2 e3 => ⟨rfl, ?_⟩⟩ fun H' s' I' => ?_
    · rw [← hs5]; exact Array.getElem?_push_size ..
    · refine seg_first (cenv := gEnv X scope s3.heap.objs.size code) hc T ?_ S.nd S.loc S.co (he s3 H3 _ code fp) turn (m0 + 1) m0 s'' s'' H3 (Nat.lt_succ_self _) (Inv.regen I6 e1 e2 e3) (by rw [e1]; exact st5) (fun b hb => (f3 b hb).1.1) w0
      intro p hp b hb z
      rw [List.mem_singleton.mp hp] at z
      have h9 : b < s3.heap.objs.size := (f3 b hb).2
      have h8 : h'.objs.size < s3.heap.objs.size := Eq.mp (congrArg (fun (n : Nat) => n < s3.heap.objs.size) (show b = h'.objs.size from z.symm)) h9
      omega
    · exact I3.call' (ch := fp) I'.os I'.base I'.hok I'.bare fun b hb => ⟨(f3 b hb).1.2.2.2.1, (f3 b hb).1.2.1, (f3 b hb).1.2.2.2.2.1, (f3 b hb).1.2.2.2.2.2⟩
  cases hf : codeAmong gpos ps.toList with
  | none =>
    refine wpAny_genexprCodeX hcode (cd.code hPs ht) (cd.tab hPs) hf fun c' h' tk hx hge hlt hco' _ htab' _ => ?_
    obtain ⟨o1, vs, f1, tf, fl, tg, inF, tx, tt, op, _, _, _, _, _, _, _, _, _, htr, _⟩ := hco'
    have J3 := inv_tab (more := #[rawInt gpos.line, rawInt gpos.col, .ref c']) (h' := h') (g' := s2.gens) (d' := s2.drawn) (t' := tk) I2 hP (fun b o hb e => hx b o hb e) htab'.2 I2.bare
    exact cont _ _ _ ⟨⟨_, upd_same, htr⟩, fun b hb => upd_ne hb⟩ J3 fun b o hb e => hx b o hb e
  | some cv =>
    refine wpAny_genexprCode_hit hcode (cd.code hPs ht) hf ?_
    exact cont cv s2 H2 ⟨⟨ps, hP, ht⟩, fun b _ => rfl⟩ I2 fun b o _ e => e

theorem pe_anyE {c P : Addr} {elt iter : Expr} {x : Str} {px p pos gpos : Pos} {scope : Scope} {wi : TI} {te : TE} {k : Nat}
    (hc : X.calm = true) (hr : Room k X.A) (hg : Gl X "any") (hm : X.mg "any" = none) (TB : TabB X.base X.mg c P) (hcode : X.env.code = .ref c) (S : GSc X.N X.env.scope scope x) (hi : PI X (.Name x px) iter wi)
    (he : ∀ (s : Shared) (H : Hp) (C : Addr) (code : Value) (fp : List Addr), PE (Cx.gen X s H (gEnv X scope C code) fp x) elt te)
    (hs : ∀ v, genFold iter X.env v = pure v)
    (hst : starEach [.GeneratorExp elt [⟨.Name x px, iter, [], 0⟩] scope gpos] X.env = (false, eval (.GeneratorExp elt [⟨.Name x px, iter, [], 0⟩] scope gpos) X.env) :: starEach [] X.env := by rfl) :
    PE X (.Call (.Name "any" p) [.GeneratorExp elt [⟨.Name x px, iter, [], 0⟩] scope gpos] [] pos) (tQuant true P wi te) := by
  refine ⟨fun pins s σ H Q I h => ?_⟩
  refine wpAny_Call_Name_kw (ld_blt I hg hm boot_any ?_)
  refine PyProof.Rows.callWith_builtin1 ?_ hst (by rfl)
  rw [hst]
  show wpAny _ _ (spliced ((false, eval (.GeneratorExp elt [⟨.Name x px, iter, [], 0⟩] scope gpos) X.env) :: backTo pos (starEach [] X.env))) _ _ s
  refine Calls.spliced_cons (gen_made hc hr TB hcode S hi he hs I h fun a g s5 XG pn σ0 fp tn W go n hgo hG hg5 j back => ?_)
  refine Calls.spliced_nil ?_
  refine call_function_tree PySem.F.kind_any PySem.F.plain_any PySem.F.entry_any (PySem.F.args_any1 _) ?_
  unfold Builtin.«any»
  refine wpAny_bind (m := oneArg "any" _) (wpAny_pure ?_)
  refine wpAny_bind (wpAny_pyIter_gen hg5 ?_)
  exact wpAny_pure ⟨plainId_quiet PySem.F.plain_any_loop _, any_turns (I.ok.hd hc) hr.depth hgo hG (fun H' s' I' q => ⟨.bl true, H', back H' s' I', rfl, q⟩) (fun H' s' I' q => ⟨.bl false, H', back H' s' I', rfl, q⟩) n s5 j⟩
theorem pe_allE {c P : Addr} {elt iter : Expr} {x : Str} {px p pos gpos : Pos} {scope : Scope} {wi : TI} {te : TE} {k : Nat}
    (hc : X.calm = true) (hr : Room k X.A) (hg : Gl X "all") (hm : X.mg "all" = none) (TB : TabB X.base X.mg c P) (hcode : X.env.code = .ref c) (S : GSc X.N X.env.scope scope x) (hi : PI X (.Name x px) iter wi)
    (he : ∀ (s : Shared) (H : Hp) (C : Addr) (code : Value) (fp : List Addr), PE (Cx.gen X s H (gEnv X scope C code) fp x) elt te)
    (hs : ∀ v, genFold iter X.env v = pure v)
    (hst : starEach [.GeneratorExp elt [⟨.Name x px, iter, [], 0⟩] scope gpos] X.env = (false, eval (.GeneratorExp elt [⟨.Name x px, iter, [], 0⟩] scope gpos) X.env) :: starEach [] X.env := by rfl) :
    PE X (.Call (.Name "all" p) [.GeneratorExp elt [⟨.Name x px, iter, [], 0⟩] scope gpos] [] pos) (tQuant false P wi te) := by
  refine ⟨fun pins s σ H Q I h => ?_⟩
  refine wpAny_Call_Name_kw (ld_blt I hg hm boot_all ?_)
  refine PyProof.Rows.callWith_builtin1 ?_ hst (by rfl)
  rw [hst]
  show wpAny _ _ (spliced ((false, eval (.GeneratorExp elt [⟨.Name x px, iter, [], 0⟩] scope gpos) X.env) :: backTo pos (starEach [] X.env))) _ _ s
  refine Calls.spliced_cons (gen_made hc hr TB hcode S hi he hs I h fun a g s5 XG pn σ0 fp tn W go n hgo hG hg5 j back => ?_)
  refine Calls.spliced_nil ?_
  refine call_function_tree PySem.F.kind_all PySem.F.plain_all PySem.F.entry_all (PySem.F.args_all1 _) ?_
  unfold Builtin.«all»
  refine wpAny_bind (m := oneArg "all" _) (wpAny_pure ?_)
  refine wpAny_bind (wpAny_pyIter_gen hg5 ?_)
  exact wpAny_pure ⟨plainId_quiet PySem.F.plain_all_loop _, all_turns (I.ok.hd hc) hr.depth hgo hG (fun H' s' I' q => ⟨.bl false, H', back H' s' I', rfl, q⟩) (fun H' s' I' q => ⟨.bl true, H', back H' s' I', rfl, q⟩) n s5 j⟩
end
end GE
set_option Elab.async false
set_option linter.all false
set_option maxRecDepth 100000
set_option maxHeartbeats 4000000
/-! rules that the layer lacks -/
namespace GE
open PySem PySem.Spec PyProof.Rows L2
/-- the signs of a text, each with its place, in a new pair -/
def Ites (x : Str) : It :=
  ⟨fun i _ => i < x.cps.size, fun i H v H' => ∃ T c, v = .ref T ∧ H T = none ∧ H' = upd H T (.tup [.int (i : Nat), .str ⟨#[c]⟩]) ∧ x.cps[i]? = some c, fun i _ => i = x.cps.size⟩
theorem draws_sign {prog : Program} {w : World} {A : Around} (hh : A.handled = none) (it : Addr) (x : Str) (t : Tok) : Draws prog w A it [it] x.cps.size (SignAt x) (fun i h => h.IsStrIter it (strIterType x) x t i) := by
  by_cases ha : strIterType x = "str_ascii_iterator"
  · rw [ha]; exact Draws.strAscii hh it x t
  · have : strIterType x = "str_iterator" := by
      unfold strIterType at ha ⊢
      split
      · rename_i h; rw [if_pos h] at ha; exact absurd rfl ha
      · rfl
    rw [this]; exact Draws.strWide hh it x t
theorem turn_enumS {P : Program} {w : World} {K : PySem.W.Frag} {elts : List Expr} {kk : Nat} {tpos : Pos} (x : Str) (t : Tok) (e it : Addr) (hne : e ≠ it) :
    Turn P w K (.Tuple elts kk tpos) (Ites x) [e, it] e (fun i h => (∃ old, IsEnum h e it ((i : Nat) : Int) old) ∧ h.IsStrIter it (strIterType x) x t i) where
  mem := by simp
  obj := fun i h st b hb => by
    obtain ⟨⟨old, he⟩, ⟨o, ho, hc, hd⟩⟩ := st
    have e' : b = e ∨ b = it := by simpa using hb
    rcases e' with z | z
    · rw [z]; exact ⟨_, he, fun v q => nomatch q⟩
    · rw [z]; exact ⟨o, ho, fun v q => by rw [hd] at q; cases q⟩
  keep := fun i h h' st k => by
    obtain ⟨⟨old, he⟩, ⟨o, ho, r⟩⟩ := st
    exact ⟨⟨old, k e (by simp) _ he⟩, o, k it (by simp) o ho, r⟩
  item := by
    intro X hP hw hK hc i pins s σ H E I hf st hg
    subst hP hw hK
    obtain ⟨⟨old, he⟩, hit⟩ := st
    have hel : e < s.heap.objs.size := Heap.lt_size he
    have hil : it < s.heap.objs.size := by obtain ⟨_, q, _⟩ := hit; exact Heap.lt_size q
    have D := draws_sign (prog := X.prog) (w := X.w) (A := X.A.in1) (I.ok.hd hc) it x t
    refine wpAny_pyNext_enum_itemD D he hit hg hne (by simpa using hne) fun v h' tk hv ho hit' hT hsz hk => ?_
    obtain ⟨c, u, hcx, rfl⟩ := hv
    refine ⟨_, rfl, wpAny_letOwnedTupleGo_enum (s := { s with heap := h', toks := tk + 1 }) ho fun h'' he' sb => ?_⟩
    have hT2 : h''.get? s.heap.objs.size = some { cls := .type "tuple", data := .seq #[.int i tk, .str ⟨#[c]⟩ u] } := (sb.2 _ (Nat.ne_of_gt hel)).trans hT
    have new : ObjOk X.prog X.w (upd H s.heap.objs.size (.tup [.int (i : Nat), .str ⟨#[c]⟩])) h'' s.heap.objs.size (.tup [.int (i : Nat), .str ⟨#[c]⟩]) :=
      ⟨by show 2 ≤ sizeLine; decide, [.int i tk, .str ⟨#[c]⟩ u], .cons ⟨_, rfl⟩ (.cons ⟨_, rfl⟩ .nil), ⟨_, hT2, rfl, _, rfl⟩⟩
    have I1 : Inv X pins σ (upd H s.heap.objs.size (.tup [.int (i : Nat), .str ⟨#[c]⟩])) { s with heap := h'', toks := tk + 1 } :=
      I.turnedNew (ch := [e, it]) (fun b ob hb q => (sb.2 b (fun z => hb (by simp [z]))).trans (hk b ob (fun z => hb (by simp [z])) (fun z => hb (by simp [z])) q)) hf (Nat.le_refl _) new
    refine ⟨.ref s.heap.objs.size, _, I1, rfl, ⟨_, c, rfl, I.hok.fresh (Nat.le_refl _), rfl, hcx⟩, ⟨⟨.str ⟨#[c]⟩ u, ?_⟩, ?_⟩, fun b hb => ?_⟩
    · have e1 : ((i + 1 : Nat) : Int) = (i : Int) + 1 := by omega
      rw [e1]; exact he'
    · obtain ⟨o, q, r⟩ := hit'
      exact ⟨o, (sb.2 it (Ne.symm hne)).trans q, r⟩
    · have hb' : b < s.heap.objs.size := by
        have e' : b = e ∨ b = it := by simpa using hb
        rcases e' with z | z
        · rw [z]; exact hel
        · rw [z]; exact hil
      rw [upd_ne (Nat.ne_of_lt hb')]
      exact (hf b hb).1
  done := by
    intro X hP hw hK hc i pins s σ H E I hf st hg
    subst hP hw hK
    obtain ⟨⟨old, he⟩, hit⟩ := st
    obtain ⟨f0, f1, f2, f3, f4, f5⟩ := hf it (by simp)
    have D := draws_sign (prog := X.prog) (w := X.w) (A := X.A.in1) (I.ok.hd hc) it x t
    obtain rfl : i = x.cps.size := hg
    exact wpAny_pyNext_enum_endD D he hit fun h' eb => ⟨rfl, I.turned (t' := s.toks) (fun b o hb q => eb b o hb q) f0 f1 f3 f4 f5⟩
  self := fun A i s Q E st h => let ⟨⟨_, he⟩, _⟩ := st; wpAny_pyIter_enum he h
def iEnumS (ta : TA) : TI := fun σ H R => ta σ H fun vs H1 => ∃ x : Str, vs = [.str x] ∧ R (Ites x) H1
theorem pi_enumS {X : Cx} {e : Expr} {ta : TA} {p pos tpos : Pos} {elts : List Expr} {kk : Nat} (hg : Gl X "enumerate") (hm : X.mg "enumerate" = none) (ha : PA X [e] ta) (hs : starEach [e] X.env = [(false, eval e X.env)] := by rfl) :
    PI X (.Tuple elts kk tpos) (.Call (.Name "enumerate" p) [e] [] pos) (iEnumS ta) := by
  refine ⟨fun pins s σ H R I h => ?_⟩
  refine Call_ (ld_blt I hg hm boot_enumerate (PyProof.Rows.callWith_type1 (thn (ha.run pos pins s σ H _ I h) fun us s1 ⟨vs, H1, I1, r1, q1⟩ => ?_) hs rfl))
  obtain ⟨x, ex, q⟩ := q1
  subst ex
  cases r1 with
  | cons r rr =>
    cases rr
    obtain ⟨t, rfl⟩ := r
    refine call_enumerate_str fun h' he hit hsz hk => wpAny_pyIter_enum he ?_
    have I2 : Inv X pins σ H1 { s1 with heap := h' } := I1.kept (t' := s1.toks) hk
    refine ⟨s1.heap.objs.size + 1, [s1.heap.objs.size + 1, s1.heap.objs.size], _, _, H1, rfl, I2, turn_enumS x t (s1.heap.objs.size + 1) s1.heap.objs.size (Nat.succ_ne_self _), ⟨⟨.none, he⟩, hit⟩, fun b hb => ?_, q⟩
    have hle : s1.heap.objs.size ≤ b := by
      rcases List.mem_cons.mp hb with z | z
      · rw [z]; exact Nat.le_add_right _ _
      · rw [List.mem_singleton.mp z]; exact Nat.le_refl _
    exact I1.fpOk hle (I1.hok.fresh hle)

/-! ### len(set(text)) -/
def sig (a : Str) (i : Nat) : Str := ⟨#[a.cps.getD i 0]⟩
/-- is k among the first i signs of a -/
def seenS (a : Str) : Nat → Str → Bool
  | 0, _ => false
  | i + 1, k => seenS a i k || decide (k = sig a i)
/-- how many unlike signs the first i are -/
def unlike (a : Str) : Nat → Nat
  | 0 => 0
  | i + 1 => if seenS a i (sig a i) = true then unlike a i else unlike a i + 1
theorem unlike_le (a : Str) : ∀ i, unlike a i ≤ i
  | 0 => Nat.le_refl _
  | i + 1 => by have := unlike_le a i; unfold unlike; split <;> omega
section
variable {prog : Program} {w : World} {A : Around} {R : Result → Shared → Prop} {I S : Addr}
theorem set_turns {a : Str} {t : Tok} (W : WalksS prog w A.in1 I [I] [I] (fun a b => b = a) a.cps.size (SignAt a) (fun i s => s.heap.IsStrIter I (strIterType a) a t i)) (hSI : S ≠ I) (hm : a.cps.size ≤ 100) :
    ∀ (k i : Nat) (s : Shared), a.cps.size - i = k → i ≤ a.cps.size → s.heap.IsStrIter I (strIterType a) a t i → s.heap.SetOf (PySem.strKind prog w) S (seenS a i) (unlike a i) →
      (∀ s', Moved [S, I] (fun a b => b = a) s s' → s'.heap.SetOf (PySem.strKind prog w) S (seenS a a.cps.size) (unlike a a.cps.size) → R (.ok (.ret .none)) s') →
      codeAny (model prog w) A (.builtin "set.update.loop" ⟨[.ref S, .ref I], []⟩) R s := by
  have hSw : S ∉ [I] := by simpa using hSI
  have sub : ∀ b ∈ [I], b ∈ [S, I] := fun b hb => List.mem_cons_of_mem _ hb
  have keepS : ∀ {s s' : Shared} {T : Str → Bool} {n : Nat}, Moved [I] (fun a b => b = a) s s' → s.heap.SetOf (PySem.strKind prog w) S T n → s'.heap.SetOf (PySem.strKind prog w) S T n := fun hm ⟨o, es, ep, tb, ho, rest⟩ => ⟨o, es, ep, tb, hm.heap S _ hSw ho, rest⟩
  intro k
  induction k with
  | zero =>
    intro i s hk hi hst hS hR
    obtain rfl : i = a.cps.size := by omega
    refine codeAny_builtin PyProof.Rows.F.entry_set_update_loop ?_
    rw [Around.under_plainId PyProof.Rows.F.plain_set_update_loop _]
    show wpAny _ A.in1 (pyNext (.ref I) >>= _) _ _ s
    refine wpAny_bind (W.done s _ _ hst fun s' hm => ?_)
    exact wpAny_pure (hR s' (hm.mono sub) (keepS hm hS))
  | succ k ih =>
    intro i s hk hi hst hS hR
    have hlt : i < a.cps.size := by omega
    refine codeAny_builtin PyProof.Rows.F.entry_set_update_loop ?_
    rw [Around.under_plainId PyProof.Rows.F.plain_set_update_loop _]
    show wpAny _ A.in1 (pyNext (.ref I) >>= _) _ _ s
    refine wpAny_bind (W.item i s _ _ hlt hst fun v s' hP hst' hm => ?_)
    obtain ⟨c, u, hc, rfl⟩ := hP
    have ec : (⟨#[c]⟩ : Str) = sig a i := by
      unfold sig
      obtain ⟨h1, h2⟩ := Array.getElem?_eq_some_iff.mp hc
      simp [Array.getD, h1, h2]
    rw [ec]
    show wpAny _ A.in1 (holding [Value.str (sig a i) u] (setAdd S (.str (sig a i) u)) >>= _) _ _ s'
    refine wpAny_bind (wpAny_holding ?_)
    unfold setAdd
    refine wpAny_holding ?_
    refine wpAny_bind ((PySem.strKind prog w).pyHash (k := sig a i) (strKind_is _ _ _ _) ?_)
    have hu := unlike_le a i
    refine wpAny_setAddHashed_of (knd := PySem.strKind prog w) (s := { s' with toks := s'.toks + 1 }) (strKind_is _ _ _ _) rfl (show s'.heap.SetOf _ _ _ _ from keepS hm hS) (by unfold scanBound; omega) fun h' hsb hS2 => ?_
    refine wpAny_pure ⟨plainId_quiet PyProof.Rows.F.plain_set_update_loop _, ih (i + 1) _ (by omega) hlt ?_ hS2 fun s'' hm'' hS'' => ?_⟩
    · obtain ⟨o, ho, r⟩ := hst'
      exact ⟨o, (hsb.2 I (Ne.symm hSI)).trans ho, r⟩
    · refine hR s'' (Moved.trans (fun _ _ _ x y => y.trans x) ((hm.mono sub).then_heap (Nat.le_succ _) fun b o hb e => ?_) hm'') hS''
      exact (hsb.2 b (fun h => hb (by rw [h]; exact List.mem_cons_self))).trans e
end

section
variable {prog : Program} {w : World} {A : Around} {E : Value → Shared → Prop} {s : Shared}
theorem sub_str_set : isSubtype (.type "str") (.type "set") = pure false := by rw [isSubtype_type]; kernel_rfl
theorem sub_str_frozenset : isSubtype (.type "str") (.type "frozenset") = pure false := by rw [isSubtype_type]; kernel_rfl
theorem call_set_text {a : Str} {t : Tok} {Q : Value → Shared → Prop} (hh : A.handled = none) (hm : a.cps.size ≤ 100)
    (h : ∀ (h' : Heap) (tk : Nat), h'.SetOf (PySem.strKind prog w) s.heap.objs.size (seenS a a.cps.size) (unlike a a.cps.size) →
      (∀ b o, b < s.heap.objs.size → s.heap.get? b = some o → h'.get? b = some o) → Q (.ref s.heap.objs.size) { s with heap := h', toks := tk }) :
    wpAny (model prog w) A (call (.type "set") [.str a t]) Q E s := by
  obtain ⟨c, tl, hmro⟩ := PySem.F.called_set.mro
  have made := PySem.F.called_set.made
  have ofT := PySem.F.called_set.sub
  refine wpAny_call (codeAny_of_tree ?_)
  show wpAny _ _ (callAny (.type "set") _) _ _ _
  refine wpAny_pure ⟨Code.quiet_builtin _ (by decide +kernel), codeAny_builtin PySem.F.entry_type_call ?_⟩
  rw [Around.under_plain (weight_type_call_type "set" [.str a t] []) rfl]
  have notT := PySem.F.called_set.notType
  have can := PySem.F.called_set.canCreate
  have chk := PySem.F.typeCall_set_1 (.str a t)
  repeat (any_goals (first | assumption | wp_step))
  refine codeAny_mono (code_set_new_1 (.str a t) (E := E) (Q₁ := fun obj s₁ => ∃ led : Bool, obj = .ref s.heap.objs.size ∧ s₁ = { s with heap := s.heap.push { cls := .type "set", dict := none, data := .set #[] 0 (.fresh 0 0 led) } }) fun led => ⟨led, rfl, rfl⟩) fun r s₁ hr => ?_
  cases r with
  | error e => exact hr
  | ok fl =>
    cases fl with
    | ret obj =>
      obtain ⟨led, rfl, rfl⟩ := hr
      generalize hob : ({ cls := .type "set", dict := none, data := .set #[] 0 (.fresh 0 0 led) } : Obj) = ob
      have at0 : (s.heap.push ob).get? s.heap.objs.size = some ob := Heap.get?_push_size _ (by rw [← hob]; rfl)
      have ty0 : Shared.TypeIs { s with heap := s.heap.push ob } (.ref s.heap.objs.size) "set" := ⟨_, at0, by rw [← hob]⟩
      have look := PySem.F.called_set.init.lookup
      have bnd := PySem.F.called_set.init.bind (.ref s.heap.objs.size)
      repeat (any_goals (first | assumption | wp_step))
      refine codeAny_mono (codeAny_call_builtin (R := wants (fun r s₂ => r = .none ∧ ∃ h' tk, s₂ = { s with heap := h', toks := tk } ∧
          h'.SetOf (PySem.strKind prog w) s.heap.objs.size (seenS a a.cps.size) (unlike a a.cps.size) ∧
          (∀ b o, b < s.heap.objs.size → s.heap.get? b = some o → h'.get? b = some o)) E) PySem.F.called_set.init.plain PySem.F.entry_set_init (check_set_init_1 ty0 ?_)) fun r₂ s₂ hr₂ => ?_
      · have s1 := sub_str_set
        have s2 := sub_str_frozenset
        have nd : (Value.type "str" == Value.type "dict") = false := by decide
        subst hob
        unfold Builtin.«set.__init__» noKeywords Builtin.Frozenset.updateFrom
        generalize hPI : pyIter = PI
        wp_walk
        subst hPI
        generalize hob : ({ cls := .type "set", dict := none, data := .set #[] 0 (.fresh 0 0 led) } : Obj) = ob at at0 ty0 ⊢
        refine wpAny_pyIter_strU ?_
        refine wpAny_bind (wpAny_runValue ?_)
        have hh3 : A.in1.in1.in1.handled = none := by simp [hh]
        have hIe : (s.heap.push ob).objs.size = s.heap.objs.size + 1 := Heap.size_push ..
        have W : Walks prog w A.in1.in1.in1 (s.heap.push ob).objs.size [(s.heap.push ob).objs.size] [(s.heap.push ob).objs.size] a.cps.size (SignAt a) (fun i h => h.IsStrIter (s.heap.push ob).objs.size (strIterType a) a t i) := by
          by_cases ha : strIterType a = "str_ascii_iterator"
          · rw [ha]; exact Walks.strAscii hh3 _ a t
          · have : strIterType a = "str_iterator" := by
              unfold strIterType at ha ⊢
              split
              · rename_i h; rw [if_pos h] at ha; exact absurd rfl ha
              · rfl
            rw [this]; exact Walks.strWide hh3 _ a t
        refine set_turns W.toS (by rw [hIe]; exact Nat.ne_of_lt (Nat.lt_succ_self _)) hm (a.cps.size - 0) 0 _ rfl (Nat.zero_le _) ⟨_, Heap.get?_push_size _ rfl, rfl, rfl⟩ ?hS0 ?hR
        case hS0 =>
          have at1 : ((s.heap.push ob).push { cls := .type (strIterType a), data := .fields #[.str a t, .int 0 0] }).get? s.heap.objs.size = some ob := Heap.get?_push_of_some _ at0
          subst hob
          exact PyProof.Rows.SetOf_congr ((PyProof.Rows.setObjOf_fresh (knd := PySem.strKind prog w) led).setOf at1 (by unfold scanBound; omega)) (fun _ => rfl) rfl
        case hR =>
          intro s' hm hS'
          obtain ⟨h', g', d', tk', os'⟩ := s'
          obtain rfl : g' = s.gens := hm.gens
          obtain rfl : d' = s.drawn := hm.drawn
          obtain rfl : os' = s.os := hm.os
          show wpAny _ _ _ _ _ _
          refine wpAny_pure ?_
          show wpAny _ _ (ret Value.none) _ _ _
          refine wpAny_pure ⟨rfl, h', tk', rfl, hS', fun b o hb e => ?_⟩
          refine hm.heap b o (fun hmem => ?_) (Heap.get?_push_of_some _ (Heap.get?_push_of_some _ e))
          rcases List.mem_cons.mp hmem with z | z
          · exact absurd hb (by rw [z]; exact Nat.lt_irrefl _)
          · rw [List.mem_singleton.mp z, hIe] at hb
            exact absurd (Nat.lt_of_succ_lt hb) (Nat.lt_irrefl _)
      · cases r₂ with
        | error e => exact hr₂
        | ok fl₂ =>
          cases fl₂ with
          | ret r =>
            obtain ⟨rfl, h', tk, rfl, hS', hk'⟩ := hr₂
            repeat (any_goals (first | assumption | wp_step))
            exact h _ _ hS' hk'
          | _ => exact hr₂.elim
    | _ => exact hr.elim
end
section
variable {X : Cx}
def tLenSetT (ta : TE) : TE := fun σ H Q => ta σ H fun x H1 => ∃ a : Str, x = .str a ∧ a.cps.size ≤ 100 ∧ Q (.int (unlike a a.cps.size : Nat)) H1
theorem pe_lenSetT {a : Expr} {ta : TE} {p p2 q pos : Pos} (hc : X.calm = true) (hg : Gl X "len") (hm : X.mg "len" = none) (hg2 : Gl X "set") (hm2 : X.mg "set" = none) (ha : PE X a ta)
    (na : starEach [a] X.env = (false, eval a X.env) :: starEach [] X.env := by rfl) : PE X (.Call (.Name "len" p) [.Call (.Name "set" p2) [a] [] q] [] pos) (tLenSetT ta) := by
  refine ⟨fun pins s σ H Q I h => ?_⟩
  refine Call_ (ld_blt I hg hm boot_len ?_)
  refine PyProof.Rows.callWith_builtin1 (PyProof.Rows.args_cons ?_ rfl) rfl rfl
  refine Call_ (ld_blt I hg2 hm2 boot_set ?_)
  refine PyProof.Rows.callWith_type1 (PyProof.Rows.args_cons (thn (ha.run pins s σ H _ I h) fun v s1 ⟨x, H1, I1, r1, a, ea, hz, q1⟩ => PyProof.Rows.args_nil ?_) na) na rfl
  subst ea
  obtain ⟨t, rfl⟩ := r1
  refine call_set_text (I1.ok.hd hc) hz fun h' tk hS hk => ?_
  refine PyProof.Rows.args_nil ?_
  obtain ⟨o, es, ep, tb, ho, hex, hd, _, _, _, hf, hn⟩ := hS
  have I2 : Inv X pins σ H1 { s1 with heap := h', toks := tk } := I1.kept fun b o e => hk b o (Heap.lt_size e) e
  have hu := unlike_le a a.cps.size
  refine call_len_set ho hex hd hf (by rw [hn] <;> omega) ⟨.int _, H1, I2.tok _, ⟨_, by rw [hn]⟩, q1⟩
end
end GE
set_option Elab.async false
set_option linter.all false
set_option maxRecDepth 100000
/-! patterns, and which stretches of a text fit them -/
namespace Bo
open PySem L2
inductive Pat where
  | none | empty
  | sign (c : Nat)
  | row (ps : List Pat) | or (ps : List Pat) | and (ps : List Pat)
  | many (p : Pat) | not (p : Pat)
mutual
def Pat.dep : Pat → Nat
  | .row ps => depL ps + 1
  | .or ps => depL ps + 1
  | .and ps => depL ps + 1
  | .many p => p.dep + 1
  | .not p => p.dep + 1
  | _ => 1
def depL : List Pat → Nat
  | [] => 0
  | p :: ps => max p.dep (depL ps)
end
mutual
def Pat.size : Pat → Nat
  | .row ps => sizeL ps + 1
  | .or ps => sizeL ps + 1
  | .and ps => sizeL ps + 1
  | .many p => p.size + 1
  | .not p => p.size + 1
  | _ => 1
def sizeL : List Pat → Nat
  | [] => 0
  | p :: ps => p.size + sizeL ps
end
mutual
theorem dep_le_size : ∀ p : Pat, p.dep ≤ p.size
  | .row ps => Nat.succ_le_succ (depL_le_size ps)
  | .or ps => Nat.succ_le_succ (depL_le_size ps)
  | .and ps => Nat.succ_le_succ (depL_le_size ps)
  | .many p => Nat.succ_le_succ (dep_le_size p)
  | .not p => Nat.succ_le_succ (dep_le_size p)
  | .none => Nat.le_refl _
  | .empty => Nat.le_refl _
  | .sign _ => Nat.le_refl _
theorem depL_le_size : ∀ ps : List Pat, depL ps ≤ sizeL ps
  | [] => Nat.le_refl _
  | p :: ps => Nat.max_le.mpr ⟨Nat.le_trans (dep_le_size p) (Nat.le_add_right _ _), Nat.le_trans (depL_le_size ps) (Nat.le_add_left _ _)⟩
end
theorem dep_pos (p : Pat) : 1 ≤ p.dep := by cases p <;> simp [Pat.dep]
theorem size_pos (p : Pat) : 1 ≤ p.size := by cases p <;> simp [Pat.size]
theorem dep_mem {p : Pat} : ∀ {ps : List Pat}, p ∈ ps → p.dep ≤ depL ps
  | q :: ps, h => by
    rcases List.mem_cons.mp h with e | h
    · rw [e]; exact Nat.le_max_left _ _
    · exact Nat.le_trans (dep_mem h) (Nat.le_max_right _ _)
/-- from i to j by steps of R -/
inductive Star (R : Nat → Nat → Prop) : Nat → Nat → Prop
  | refl (i : Nat) : Star R i i
  | step {i j k : Nat} : R i j → Star R j k → Star R i k
theorem Star.trans {R : Nat → Nat → Prop} {i j k : Nat} (a : Star R i j) (b : Star R j k) : Star R i k := by
  induction a with
  | refl => exact b
  | step h _ ih => exact .step h (ih b)
theorem Star.snoc {R : Nat → Nat → Prop} {i j k : Nat} (a : Star R i j) (b : R j k) : Star R i k := a.trans (.step b (.refl _))
mutual
/-- the stretch of t from i to j fits the pattern -/
def M (t : List Nat) : Pat → Nat → Nat → Prop
  | .none => fun _ _ => False
  | .empty => fun i j => i = j
  | .sign c => fun i j => t[i]? = some c ∧ j = i + 1
  | .row ps => fun i j => MRow t ps i j
  | .or ps => fun i j => MOr t ps i j
  | .and ps => fun i j => i ≤ j ∧ j ≤ t.length ∧ MAnd t ps i j
  | .many p => fun i j => Star (fun a b => M t p a b) i j
  | .not p => fun i j => i ≤ j ∧ j ≤ t.length ∧ ¬ M t p i j
def MRow (t : List Nat) : List Pat → Nat → Nat → Prop
  | [] => fun i j => i = j
  | p :: ps => fun i j => ∃ k, M t p i k ∧ MRow t ps k j
def MOr (t : List Nat) : List Pat → Nat → Nat → Prop
  | [] => fun _ _ => False
  | p :: ps => fun i j => M t p i j ∨ MOr t ps i j
def MAnd (t : List Nat) : List Pat → Nat → Nat → Prop
  | [] => fun _ _ => True
  | p :: ps => fun i j => M t p i j ∧ MAnd t ps i j
end
theorem star_bound {R : Nat → Nat → Prop} {n : Nat} (h : ∀ i j, i ≤ n → R i j → i ≤ j ∧ j ≤ n) {i j : Nat} (s : Star R i j) : i ≤ n → i ≤ j ∧ j ≤ n := by
  induction s with
  | refl => intro hi; exact ⟨Nat.le_refl _, hi⟩
  | step r _ ih =>
    intro hi
    obtain ⟨h1, h2⟩ := h _ _ hi r
    obtain ⟨h3, h4⟩ := ih h2
    exact ⟨Nat.le_trans h1 h3, h4⟩
mutual
theorem M_bound (t : List Nat) : ∀ (p : Pat) (i j : Nat), i ≤ t.length → M t p i j → i ≤ j ∧ j ≤ t.length
  | .none, i, j, hi, h => by simp [M] at h
  | .empty, i, j, hi, h => by
    have h : i = j := h
    subst h; exact ⟨Nat.le_refl _, hi⟩
  | .sign c, i, j, hi, h => by
    obtain ⟨h1, h2⟩ : t[i]? = some c ∧ j = i + 1 := h
    have := (List.getElem?_eq_some_iff.mp h1).1
    omega
  | .row ps, i, j, hi, h => MRow_bound t ps i j hi h
  | .or ps, i, j, hi, h => MOr_bound t ps i j hi h
  | .and ps, i, j, hi, h => ⟨h.1, h.2.1⟩
  | .many p, i, j, hi, h => star_bound (R := fun a b => M t p a b) (fun a b ha hab => M_bound t p a b ha hab) h hi
  | .not p, i, j, hi, h => ⟨h.1, h.2.1⟩
theorem MRow_bound (t : List Nat) : ∀ (ps : List Pat) (i j : Nat), i ≤ t.length → MRow t ps i j → i ≤ j ∧ j ≤ t.length
  | [], i, j, hi, h => by
    have h : i = j := h
    subst h; exact ⟨Nat.le_refl _, hi⟩
  | p :: ps, i, j, hi, h => by
    obtain ⟨k, h1, h2⟩ := h
    obtain ⟨a, b⟩ := M_bound t p i k hi h1
    obtain ⟨c, d⟩ := MRow_bound t ps k j b h2
    exact ⟨Nat.le_trans a c, d⟩
theorem MOr_bound (t : List Nat) : ∀ (ps : List Pat) (i j : Nat), i ≤ t.length → MOr t ps i j → i ≤ j ∧ j ≤ t.length
  | [], i, j, hi, h => by simp [MOr] at h
  | p :: ps, i, j, hi, h => by
    rcases h with h | h
    · exact M_bound t p i j hi h
    · exact MOr_bound t ps i j hi h
end
mutual
/-- the value stands for the pattern -/
def PatAt (H : Hp) : Pat → V → Prop
  | .none => fun v => ∃ a, v = .ref a ∧ H a = some (.tup [.str "none"])
  | .empty => fun v => ∃ a, v = .ref a ∧ H a = some (.tup [.str "empty"])
  | .sign c => fun v => ∃ a, v = .ref a ∧ H a = some (.tup [.str "sign", .str ⟨#[c]⟩])
  | .row ps => fun v => ∃ a b vs, v = .ref a ∧ H a = some (.tup [.str "row", .ref b]) ∧ H b = some (.tup vs) ∧ PatsAt H ps vs
  | .or ps => fun v => ∃ a b vs, v = .ref a ∧ H a = some (.tup [.str "or", .ref b]) ∧ H b = some (.tup vs) ∧ PatsAt H ps vs
  | .and ps => fun v => ∃ a b vs, v = .ref a ∧ H a = some (.tup [.str "and", .ref b]) ∧ H b = some (.tup vs) ∧ PatsAt H ps vs
  | .many p => fun v => ∃ a u, v = .ref a ∧ H a = some (.tup [.str "many", u]) ∧ PatAt H p u
  | .not p => fun v => ∃ a u, v = .ref a ∧ H a = some (.tup [.str "not", u]) ∧ PatAt H p u
def PatsAt (H : Hp) : List Pat → List V → Prop
  | [] => fun vs => vs = []
  | p :: ps => fun vs => ∃ v r, vs = v :: r ∧ PatAt H p v ∧ PatsAt H ps r
end
/-- all but the tables of code stays; the tables may grow -/
structure Ext (H H' : Hp) : Prop where
  keep : ∀ b o, H b = some o → (∀ ps, o ≠ .tbl ps) → H' b = some o
  tab : ∀ b, GxR.TabG H b → GxR.TabG H' b
  there : ∀ b o, H b = some o → ∃ o', H' b = some o'
theorem Ext.refl (H : Hp) : Ext H H := ⟨fun _ _ h _ => h, fun _ h => h, fun _ o h => ⟨o, h⟩⟩
theorem Ext.trans {H H1 H2 : Hp} (a : Ext H H1) (b : Ext H1 H2) : Ext H H2 := ⟨fun c o h n => b.keep c o (a.keep c o h n) n, fun c h => b.tab c (a.tab c h), fun c o h => let ⟨o', h'⟩ := a.there c o h; b.there c o' h'⟩
theorem Ext.new {H : Hp} {p : Addr} {o : HO} (h : H p = Option.none) : Ext H (upd H p o) :=
  ⟨fun b u q _ => by rw [upd_ne (ne_of_none q h)]; exact q, fun b ⟨ps, q, t⟩ => ⟨ps, by rw [upd_ne (ne_of_none q h)]; exact q, t⟩, fun b u q => ⟨u, by rw [upd_ne (ne_of_none q h)]; exact q⟩⟩
/-- a list of ours is written -/
theorem Ext.wr {H0 H : Hp} {p : Addr} {o : HO} (e : Ext H0 H) (h : H0 p = Option.none) : Ext H0 (upd H p o) :=
  ⟨fun b u q n => by rw [upd_ne (ne_of_none q h)]; exact e.keep b u q n, fun b q => by
    obtain ⟨ps, z, _⟩ := id q
    obtain ⟨ps', z', t'⟩ := e.tab b q
    exact ⟨ps', by rw [upd_ne (ne_of_none z h)]; exact z', t'⟩, fun b u q => let ⟨u', z⟩ := e.there b u q; ⟨u', by rw [upd_ne (ne_of_none q h)]; exact z⟩⟩
theorem Ext.tabbed {P : Addr} {H H' : Hp} (h0 : GxR.TabG H P) (h : GxR.Tabbed P H H') : Ext H H' :=
  ⟨fun b o q n => by
    by_cases e : b = P
    · subst e
      obtain ⟨ps, z, _⟩ := h0
      rw [q] at z
      exact absurd (Option.some.inj z) (n ps)
    · rw [h.2 b e]; exact q, fun b q => by
    by_cases e : b = P
    · rw [e]; exact h.1
    · obtain ⟨ps, z, t⟩ := q
      exact ⟨ps, by rw [h.2 b e]; exact z, t⟩, fun b o q => by
    by_cases e : b = P
    · obtain ⟨ps, z, _⟩ := h.1
      exact ⟨_, by rw [e]; exact z⟩
    · exact ⟨o, by rw [h.2 b e]; exact q⟩⟩
theorem Ext.free {H H' : Hp} (e : Ext H H') {l : Addr} (h : H' l = Option.none) : H l = Option.none := by
  cases q : H l with
  | none => rfl
  | some o =>
    obtain ⟨o', z⟩ := e.there l o q
    rw [h] at z
    cases z
theorem Ext.tup {H H' : Hp} (e : Ext H H') {a : Addr} {xs : List V} (h : H a = some (.tup xs)) : H' a = some (.tup xs) := e.keep a _ h (fun ps z => by cases z)
theorem Ext.lst {H H' : Hp} (e : Ext H H') {a : Addr} {xs : List V} (h : H a = some (.lst xs)) : H' a = some (.lst xs) := e.keep a _ h (fun ps z => by cases z)
theorem Ext.sqL {K : PySem.W.Frag} {H H' : Hp} (e : Ext H H') {a : Addr} {xs : List V} (h : SqL K H a xs) : SqL K H' a xs := by
  rcases h with (h | ⟨o, h⟩) | h
  · exact .inl (.inl (e.lst h))
  · exact .inl (.inr ⟨o, e.keep _ _ h (fun ps z => by cases z)⟩)
  · exact .inr h
mutual
theorem PatAt.ext {H H' : Hp} (e : Ext H H') : ∀ (p : Pat) (v : V), PatAt H p v → PatAt H' p v
  | .none, v, h => let ⟨a, h1, h2⟩ := h; ⟨a, h1, e.tup h2⟩
  | .empty, v, h => let ⟨a, h1, h2⟩ := h; ⟨a, h1, e.tup h2⟩
  | .sign c, v, h => let ⟨a, h1, h2⟩ := h; ⟨a, h1, e.tup h2⟩
  | .row ps, v, h => let ⟨a, b, vs, h1, h2, h3, h4⟩ := h; ⟨a, b, vs, h1, e.tup h2, e.tup h3, PatsAt.ext e ps vs h4⟩
  | .or ps, v, h => let ⟨a, b, vs, h1, h2, h3, h4⟩ := h; ⟨a, b, vs, h1, e.tup h2, e.tup h3, PatsAt.ext e ps vs h4⟩
  | .and ps, v, h => let ⟨a, b, vs, h1, h2, h3, h4⟩ := h; ⟨a, b, vs, h1, e.tup h2, e.tup h3, PatsAt.ext e ps vs h4⟩
  | .many p, v, h => let ⟨a, u, h1, h2, h3⟩ := h; ⟨a, u, h1, e.tup h2, PatAt.ext e p u h3⟩
  | .not p, v, h => let ⟨a, u, h1, h2, h3⟩ := h; ⟨a, u, h1, e.tup h2, PatAt.ext e p u h3⟩
theorem PatsAt.ext {H H' : Hp} (e : Ext H H') : ∀ (ps : List Pat) (vs : List V), PatsAt H ps vs → PatsAt H' ps vs
  | [], vs, h => h
  | p :: ps, vs, h => let ⟨v, r, h1, h2, h3⟩ := h; ⟨v, r, h1, PatAt.ext e p v h2, PatsAt.ext e ps r h3⟩
end
theorem PatsAt.len {H : Hp} : ∀ {ps : List Pat} {vs : List V}, PatsAt H ps vs → vs.length = ps.length
  | [], _, h => by rw [show _ = [] from h]; rfl
  | p :: ps, _, ⟨v, r, e, _, h⟩ => by rw [e]; show r.length + 1 = ps.length + 1; rw [h.len]
theorem PatsAt.get {H : Hp} : ∀ {ps : List Pat} {vs : List V} {i : Nat} {v : V}, PatsAt H ps vs → vs[i]? = some v → ∃ p, ps[i]? = some p ∧ PatAt H p v
  | [], _, i, v, h, e => by rw [show _ = [] from h] at e; simp at e
  | p :: ps, _, 0, v, ⟨u, r, e1, h1, _⟩, e => by rw [e1] at e; simp at e; exact ⟨p, rfl, e ▸ h1⟩
  | p :: ps, _, i + 1, v, ⟨u, r, e1, _, h2⟩, e => by
    rw [e1] at e
    obtain ⟨q, h3, h4⟩ := PatsAt.get (i := i) h2 (by simpa using e)
    exact ⟨q, by simpa using h3, h4⟩
mutual
def nullb : Pat → Bool
  | .empty => true
  | .many _ => true
  | .row ps => nullAll ps
  | .and ps => nullAll ps
  | .or ps => nullAny ps
  | .not p => !nullb p
  | _ => false
def nullAll : List Pat → Bool
  | [] => true
  | p :: ps => nullb p && nullAll ps
def nullAny : List Pat → Bool
  | [] => false
  | p :: ps => nullb p || nullAny ps
end
theorem nullAll_eq : ∀ ps : List Pat, nullAll ps = ps.all nullb
  | [] => rfl
  | p :: ps => by rw [nullAll, List.all_cons, nullAll_eq ps]
theorem nullAny_eq : ∀ ps : List Pat, nullAny ps = ps.any nullb
  | [] => rfl
  | p :: ps => by rw [nullAny, List.any_cons, nullAny_eq ps]
theorem iffT {c : Bool} {A B : Prop} (h : c = true) (a : A) : if c = true then A else B := by rw [if_pos h]; exact a
theorem iffF {c : Bool} {A B : Prop} (h : c = false) (b : B) : if c = true then A else B := by rw [if_neg (by rw [h]; exact Bool.false_ne_true)]; exact b
end Bo
set_option Elab.async false
set_option linter.all false
set_option maxRecDepth 100000
/-! patterns in one fixed form: what the program's functions tell, as functions -/
namespace Bo
/-! equal patterns -/
mutual
def eqp : Pat → Pat → Bool
  | .none, .none => true
  | .empty, .empty => true
  | .sign a, .sign b => decide (a = b)
  | .row a, .row b => eqs a b
  | .or a, .or b => eqs a b
  | .and a, .and b => eqs a b
  | .many a, .many b => eqp a b
  | .not a, .not b => eqp a b
  | _, _ => false
def eqs : List Pat → List Pat → Bool
  | [], [] => true
  | p :: ps, q :: qs => eqp p q && eqs ps qs
  | _, _ => false
end
mutual
theorem eqp_refl : ∀ p : Pat, eqp p p = true
  | .none => rfl
  | .empty => rfl
  | .sign a => by simp [eqp]
  | .row a => by rw [eqp]; exact eqs_refl a
  | .or a => by rw [eqp]; exact eqs_refl a
  | .and a => by rw [eqp]; exact eqs_refl a
  | .many a => by rw [eqp]; exact eqp_refl a
  | .not a => by rw [eqp]; exact eqp_refl a
theorem eqs_refl : ∀ ps : List Pat, eqs ps ps = true
  | [] => rfl
  | p :: ps => by rw [eqs, eqp_refl p, eqs_refl ps]; rfl
end
mutual
theorem eqp_eq : ∀ p q : Pat, eqp p q = true → p = q
  | .none, q, h => by cases q <;> first | rfl | simp [eqp] at h
  | .empty, q, h => by cases q <;> first | rfl | simp [eqp] at h
  | .sign a, q, h => by
    cases q with
    | sign b => simp [eqp] at h; rw [h]
    | _ => simp [eqp] at h
  | .row a, q, h => by
    cases q with
    | row b => rw [eqp] at h; rw [eqs_eq a b h]
    | _ => simp [eqp] at h
  | .or a, q, h => by
    cases q with
    | or b => rw [eqp] at h; rw [eqs_eq a b h]
    | _ => simp [eqp] at h
  | .and a, q, h => by
    cases q with
    | and b => rw [eqp] at h; rw [eqs_eq a b h]
    | _ => simp [eqp] at h
  | .many a, q, h => by
    cases q with
    | many b => rw [eqp] at h; rw [eqp_eq a b h]
    | _ => simp [eqp] at h
  | .not a, q, h => by
    cases q with
    | not b => rw [eqp] at h; rw [eqp_eq a b h]
    | _ => simp [eqp] at h
theorem eqs_eq : ∀ ps qs : List Pat, eqs ps qs = true → ps = qs
  | [], qs, h => by cases qs with | nil => rfl | cons _ _ => simp [eqs] at h
  | p :: ps, qs, h => by
    cases qs with
    | nil => simp [eqs] at h
    | cons q qs =>
      rw [eqs, Bool.and_eq_true] at h
      rw [eqp_eq p q h.1, eqs_eq ps qs h.2]
end
theorem eqp_iff {p q : Pat} : eqp p q = true ↔ p = q := ⟨eqp_eq p q, fun h => h ▸ eqp_refl p⟩
instance : DecidableEq Pat := fun _ _ => decidable_of_iff _ eqp_iff
/-! the order of the patterns: that of their rows of numbers -/
mutual
def key : Pat → List Nat
  | .and ps => 0 :: keys ps
  | .empty => [1]
  | .many p => 2 :: key p
  | .none => [3]
  | .not p => 4 :: key p
  | .or ps => 5 :: keys ps
  | .row ps => 6 :: keys ps
  | .sign c => [7, c]
def keys : List Pat → List Nat
  | [] => [0]
  | p :: ps => 1 :: (key p ++ keys ps)
end
def rank : Pat → Nat
  | .and _ => 0 | .empty => 1 | .many _ => 2 | .none => 3 | .not _ => 4 | .or _ => 5 | .row _ => 6 | .sign _ => 7
def ltp (p q : Pat) : Bool := decide (key p < key q)
def lts (ps qs : List Pat) : Bool := decide (keys ps < keys qs)
theorem key_rank (p : Pat) : ∃ l, key p = rank p :: l := by cases p <;> exact ⟨_, rfl⟩
theorem lt_cons {a b : Nat} {l m : List Nat} : a :: l < b :: m ↔ a < b ∨ (a = b ∧ l < m) := List.cons_lt_cons_iff
theorem lt_same {a : Nat} {l m : List Nat} : a :: l < a :: m ↔ l < m := by rw [lt_cons]; exact ⟨fun h => h.elim (fun h => absurd h (Nat.lt_irrefl _)) (·.2), fun h => .inr ⟨rfl, h⟩⟩
theorem lt_pre (l : List Nat) {a b : List Nat} : l ++ a < l ++ b ↔ a < b := by
  induction l with
  | nil => exact Iff.rfl
  | cons x l ih => rw [List.cons_append, List.cons_append, lt_same, ih]
/-- a difference stands, whatever comes behind -/
def Apart (a b : List Nat) : Prop := ∀ l m : List Nat, (a ++ l < b ++ m ↔ a < b) ∧ (b ++ m < a ++ l ↔ b < a) ∧ (a < b ∨ b < a)
theorem apart_head {a b : Nat} (h : a ≠ b) (l m : List Nat) : Apart (a :: l) (b :: m) := fun x y => by
  have e1 : ∀ (c d : Nat) (u v : List Nat), c ≠ d → (c :: u < d :: v ↔ c < d) := fun c d u v n => by
    rw [lt_cons]; exact ⟨fun h => h.elim id fun h => absurd h.1 n, .inl⟩
  show (a :: (l ++ x) < b :: (m ++ y) ↔ a :: l < b :: m) ∧ (b :: (m ++ y) < a :: (l ++ x) ↔ b :: m < a :: l) ∧ _
  rw [e1 a b _ _ h, e1 a b _ _ h, e1 b a _ _ (Ne.symm h), e1 b a _ _ (Ne.symm h)]
  exact ⟨Iff.rfl, Iff.rfl, by omega⟩
theorem apart_cons {a : Nat} {l m : List Nat} (h : Apart l m) : Apart (a :: l) (a :: m) := fun x y => by
  show (a :: (l ++ x) < a :: (m ++ y) ↔ a :: l < a :: m) ∧ (a :: (m ++ y) < a :: (l ++ x) ↔ a :: m < a :: l) ∧ _
  rw [lt_same, lt_same, lt_same, lt_same]
  exact h x y
theorem apart_app {l m : List Nat} (h : Apart l m) (x y : List Nat) : Apart (l ++ x) (m ++ y) := fun u v => by
  rw [List.append_assoc, List.append_assoc]
  obtain ⟨a1, a2, a3⟩ := h (x ++ u) (y ++ v)
  obtain ⟨b1, b2, _⟩ := h x y
  exact ⟨a1.trans b1.symm, a2.trans b2.symm, by rw [b1, b2]; exact a3⟩
theorem apart_pre (l : List Nat) {x y : List Nat} (h : Apart x y) : Apart (l ++ x) (l ++ y) := by
  induction l with
  | nil => exact h
  | cons a l ih => exact apart_cons ih
theorem apart_rank {p q : Pat} (h : rank p ≠ rank q) : Apart (key p) (key q) := by
  obtain ⟨l, e⟩ := key_rank p
  obtain ⟨m, e'⟩ := key_rank q
  rw [e, e']
  exact apart_head h l m
mutual
theorem key_apart : ∀ p q : Pat, p ≠ q → Apart (key p) (key q)
  | .and a, q, h => by
    cases q with
    | and b => rw [key, key]; exact apart_cons (keys_apart a b fun e => h (e ▸ rfl))
    | _ => exact apart_rank (by simp [rank])
  | .or a, q, h => by
    cases q with
    | or b => rw [key, key]; exact apart_cons (keys_apart a b fun e => h (e ▸ rfl))
    | _ => exact apart_rank (by simp [rank])
  | .row a, q, h => by
    cases q with
    | row b => rw [key, key]; exact apart_cons (keys_apart a b fun e => h (e ▸ rfl))
    | _ => exact apart_rank (by simp [rank])
  | .many a, q, h => by
    cases q with
    | many b => rw [key, key]; exact apart_cons (key_apart a b fun e => h (e ▸ rfl))
    | _ => exact apart_rank (by simp [rank])
  | .not a, q, h => by
    cases q with
    | not b => rw [key, key]; exact apart_cons (key_apart a b fun e => h (e ▸ rfl))
    | _ => exact apart_rank (by simp [rank])
  | .sign a, q, h => by
    cases q with
    | sign b => rw [key, key]; exact apart_cons (apart_head (fun e => h (congrArg Pat.sign e)) [] [])
    | _ => exact apart_rank (by simp [rank])
  | .none, q, h => by
    cases q with
    | none => exact absurd rfl h
    | _ => exact apart_rank (by simp [rank])
  | .empty, q, h => by
    cases q with
    | empty => exact absurd rfl h
    | _ => exact apart_rank (by simp [rank])
theorem keys_apart : ∀ ps qs : List Pat, ps ≠ qs → Apart (keys ps) (keys qs)
  | [], qs, h => by
    cases qs with
    | nil => exact absurd rfl h
    | cons q qs => rw [keys, keys]; exact apart_head (by decide) _ _
  | p :: ps, qs, h => by
    cases qs with
    | nil => rw [keys, keys]; exact apart_head (by decide) _ _
    | cons q qs =>
      rw [keys, keys]
      refine apart_cons ?_
      by_cases e : p = q
      · subst e
        exact apart_pre _ (keys_apart ps qs fun e => h (e ▸ rfl))
      · exact apart_app (key_apart p q e) _ _
end
theorem ltp_irrefl (p : Pat) : ltp p p = false := decide_eq_false (List.lt_irrefl _)
theorem ltp_trans {p q r : Pat} (a : ltp p q = true) (b : ltp q r = true) : ltp p r = true := decide_eq_true (List.lt_trans (of_decide_eq_true a) (of_decide_eq_true b))
theorem ltp_total {p q : Pat} (a : ltp p q = false) (b : ltp q p = false) : p = q := by
  refine Decidable.byContradiction fun h => ?_
  rcases (key_apart p q h [] []).2.2 with h | h
  · exact of_decide_eq_false a h
  · exact of_decide_eq_false b h
theorem ltp_neg {p q r : Pat} (a : ltp p r = true) : ltp p q = true ∨ ltp q r = true := by
  cases h : ltp p q with
  | true => exact .inl rfl
  | false =>
    cases h' : ltp q r with
    | true => exact .inr rfl
    | false =>
      cases h2 : ltp q p with
      | false => have := ltp_total h h2; subst this; rw [a] at h'; cases h'
      | true => have := ltp_trans h2 a; rw [h'] at this; cases this
/-! the order, shape by shape -/
theorem ltp_kind {p q : Pat} (h : rank p ≠ rank q) : ltp p q = decide (rank p < rank q) := by
  obtain ⟨l, e⟩ := key_rank p
  obtain ⟨m, e'⟩ := key_rank q
  unfold ltp
  rw [e, e']
  exact decide_eq_decide.mpr (by rw [lt_cons]; exact ⟨fun g => g.elim id fun g => absurd g.1 h, .inl⟩)
theorem ltp_sign (a b : Nat) : ltp (.sign a) (.sign b) = decide (a < b) := by
  unfold ltp
  exact decide_eq_decide.mpr (by rw [key, key, lt_same, lt_cons]; exact ⟨fun g => g.elim id fun g => absurd g.2 (List.lt_irrefl _), .inl⟩)
theorem ltp_many (a b : Pat) : ltp (.many a) (.many b) = ltp a b := decide_eq_decide.mpr (by rw [key, key, lt_same])
theorem ltp_not (a b : Pat) : ltp (.not a) (.not b) = ltp a b := decide_eq_decide.mpr (by rw [key, key, lt_same])
theorem ltp_row (a b : List Pat) : ltp (.row a) (.row b) = lts a b := decide_eq_decide.mpr (by rw [key, key, lt_same])
theorem ltp_or (a b : List Pat) : ltp (.or a) (.or b) = lts a b := decide_eq_decide.mpr (by rw [key, key, lt_same])
theorem ltp_and (a b : List Pat) : ltp (.and a) (.and b) = lts a b := decide_eq_decide.mpr (by rw [key, key, lt_same])
theorem lts_nil : lts [] [] = false := by decide
theorem lts_short (q : Pat) (qs : List Pat) : lts [] (q :: qs) = true := decide_eq_true (by rw [keys, keys, lt_cons]; exact .inl (by decide))
theorem lts_long (p : Pat) (ps : List Pat) : lts (p :: ps) [] = false := decide_eq_false (by rw [keys, keys, lt_cons]; rintro (h | ⟨h, _⟩) <;> omega)
theorem lts_cons (p q : Pat) (ps qs : List Pat) : lts (p :: ps) (q :: qs) = if p = q then lts ps qs else ltp p q := by
  by_cases e : p = q
  · subst e
    rw [if_pos rfl]
    exact decide_eq_decide.mpr (by rw [keys, keys, lt_same, lt_pre])
  · rw [if_neg e]
    exact decide_eq_decide.mpr (by rw [keys, keys, lt_same]; exact (key_apart p q e _ _).1)
def srt (ps : List Pat) : List Pat := ps.mergeSort fun a b => !ltp b a
theorem srt_perm (ps : List Pat) : (srt ps).Perm ps := List.mergeSort_perm _ _
theorem srt_mem {ps : List Pat} {p : Pat} : p ∈ srt ps ↔ p ∈ ps := (srt_perm ps).mem_iff
/-! whether one covers the other -/
def ALL : Pat := .not .none
def pieces : Pat → List Pat
  | .row ps => ps
  | p => [p]
def all2 (c : Pat → Pat → Bool) : List Pat → List Pat → Bool
  | b :: bs, s :: ss => c b s && all2 c bs ss
  | _, _ => true
def rowC (c : Pat → Pat → Bool) (bs ss : List Pat) : Bool :=
  decide (ss.length ≤ bs.length) && ((bs.take (bs.length - ss.length)).all nullb && all2 c (bs.drop (bs.length - ss.length)) ss)
def manyC (c : Pat → Pat → Bool) (b s : Pat) : Bool := match s with
  | .many x => c (.many b) x
  | .row ps => ps.all (c (.many b)) || c b s
  | s => c b s
def covS (c : Pat → Pat → Bool) (b s : Pat) : Bool := match b with
  | .not x => match s with
    | .not y => c y x
    | _ => false
  | .many x => manyC c x s
  | .row bs => rowC c bs (pieces s)
  | _ => false
def covA (c : Pat → Pat → Bool) (b s : Pat) : Bool := match s with
  | .and ss => ss.any (c b) || covS c b s
  | _ => covS c b s
def covR (c : Pat → Pat → Bool) (b s : Pat) : Bool := match s with
  | .or ss => ss.all (c b)
  | _ => match b with
    | .and bs => bs.all fun x => c x s
    | .or bs => bs.any (fun x => c x s) || covA c b s
    | _ => covA c b s
def cov : Nat → Pat → Pat → Bool
  | 0, b, s => decide (b = s) || decide (b = ALL) || decide (s = .none) || (decide (s = .empty) && nullb b)
  | d + 1, b, s => decide (b = s) || decide (b = ALL) || decide (s = .none) || (if s = .empty then nullb b else covR (cov d) b s)
def c8 (b s : Pat) : Bool := cov 8 b s
/-! the fixed forms -/
def step (idle : Pat → Pat → Bool) (kept : List Pat) (p : Pat) : List Pat :=
  if kept.any (fun o => idle p o) = true then kept else kept.filter (fun o => !idle o p) ++ [p]
def needed (idle : Pat → Pat → Bool) (ps : List Pat) : List Pat := (srt ps).foldl (step idle) []
def joined (mk : List Pat → Pat) (ps : List Pat) (nothing : Pat) : Pat := match ps with
  | [] => nothing
  | [p] => p
  | ps => mk ps
def partsO : Pat → List Pat
  | .or ps => ps
  | p => [p]
def partsA : Pat → List Pat
  | .and ps => ps
  | p => [p]
def spread (f : Pat → List Pat) (ps : List Pat) : List Pat := ps.flatMap f
def isNot : Pat → Option Pat
  | .not p => some p
  | _ => Option.none
def keptO (ps : List Pat) : List Pat := needed (fun s b => c8 b s) (spread partsO ps)
def keptA (ps : List Pat) : List Pat := needed c8 (spread partsA ps)
def allO (kept : List Pat) : Bool := kept.any fun p => match p with
  | .not x => kept.any fun o => c8 o x
  | _ => false
def noneA (kept : List Pat) : Bool := kept.any fun p => match p with
  | .not x => kept.any fun o => c8 x o
  | _ => false
def either (ps : List Pat) : Pat := if allO (keptO ps) = true then ALL else joined .or (keptO ps) .none
def both (ps : List Pat) : Pat := if Pat.empty ∈ keptA ps ∧ 1 < (keptA ps).length then .none else if noneA (keptA ps) = true then .none else joined .and (keptA ps) ALL
def negated : Pat → Pat
  | .not p => p
  | p => .not p
def isMany : Pat → Bool
  | .many _ => true
  | _ => false
def along (g p : Pat) : Bool := (isMany g || decide (g = ALL)) && (nullb p && c8 g p)
def popW (p : Pat) : List Pat → List Pat
  | [] => []
  | t :: st => if along p t = true then popW p st else t :: st
def stepS (st : List Pat) (p : Pat) : List Pat := match st with
  | [] => [p]
  | t :: st => if along t p = true then t :: st else p :: popW p (t :: st)
def shortened (ps : List Pat) : List Pat := (ps.foldl stepS []).reverse
def keptR (ps : List Pat) : List Pat := shortened ((spread pieces ps).filter fun p => !decide (p = .empty))
def rowF : Nat → List Pat → Pat
  | 0, _ => .none
  | n + 1, ps => if Pat.none ∈ keptR ps then .none else match keptR ps with
    | .or fs :: rest => either (fs.map fun f => rowF n (f :: rest))
    | k => joined .row k .empty
mutual
def pk : Pat → List Pat
  | .none => []
  | .empty => []
  | .many p => pk p
  | .or ps => pks ps
  | .row ps => if nullAll ps = true then pks ps else [.row ps]
  | .sign c => [.sign c]
  | .and ps => [.and ps]
  | .not p => [.not p]
def pks : List Pat → List Pat
  | [] => []
  | p :: ps => pk p ++ pks ps
end
def stepM (k : List Pat) (p : Pat) : List Pat :=
  if (k.filter fun o => !decide (o = p)) ≠ [] ∧ c8 (.many (either (k.filter fun o => !decide (o = p)))) p = true then k.filter fun o => !decide (o = p) else k
def keptM (p : Pat) : List Pat := (srt (pk p)).foldl stepM (srt (pk p))
def manyE (inner : Pat) : Pat := if inner = .none then .empty else if inner = ALL then ALL else .many inner
def manyOf (p : Pat) : Pat := manyE (either (keptM p))
def rowOf (ps : List Pat) : Pat := rowF ((keptR ps).length + 1) ps
mutual
def normal : Pat → Pat
  | .many p => manyOf (normal p)
  | .not p => negated (normal p)
  | .row ps => rowOf (normals ps)
  | .or ps => either (normals ps)
  | .and ps => both (normals ps)
  | .none => .none
  | .empty => .empty
  | .sign c => .sign c
def normals : List Pat → List Pat
  | [] => []
  | p :: ps => normal p :: normals ps
end
mutual
def behind (s : Nat) : Pat → Pat
  | .sign c => if c = s then .empty else .none
  | .many p => rowOf [behind s p, .many p]
  | .not p => negated (behind s p)
  | .row ps => either (rowB s ps)
  | .or ps => either (behinds s ps)
  | .and ps => both (behinds s ps)
  | .none => .none
  | .empty => .none
def behinds (s : Nat) : List Pat → List Pat
  | [] => []
  | p :: ps => behind s p :: behinds s ps
def rowB (s : Nat) : List Pat → List Pat
  | [] => []
  | p :: ps => rowOf (behind s p :: ps) :: (if nullb p = true then rowB s ps else [])
end
def left (p : Pat) (s : Nat) : Pat := behind s (normal p)
end Bo
set_option Elab.async false
set_option linter.all false
set_option maxRecDepth 100000
/-! what the texts of a pattern are, and that the fixed forms keep them -/
namespace Bo
inductive KS (R : List Nat → Prop) : List Nat → Prop
  | nil : KS R []
  | app {u v : List Nat} : R u → KS R v → KS R (u ++ v)
mutual
def Lg : Pat → List Nat → Prop
  | .none => fun _ => False
  | .empty => fun w => w = []
  | .sign c => fun w => w = [c]
  | .row ps => fun w => LgR ps w
  | .or ps => fun w => LgO ps w
  | .and ps => fun w => LgA ps w
  | .many p => fun w => KS (fun u => Lg p u) w
  | .not p => fun w => ¬ Lg p w
def LgR : List Pat → List Nat → Prop
  | [] => fun w => w = []
  | p :: ps => fun w => ∃ u v, w = u ++ v ∧ Lg p u ∧ LgR ps v
def LgO : List Pat → List Nat → Prop
  | [] => fun _ => False
  | p :: ps => fun w => Lg p w ∨ LgO ps w
def LgA : List Pat → List Nat → Prop
  | [] => fun _ => True
  | p :: ps => fun w => Lg p w ∧ LgA ps w
end
theorem LgO_iff : ∀ {ps : List Pat} {w : List Nat}, LgO ps w ↔ ∃ p ∈ ps, Lg p w
  | [], w => ⟨fun h => h.elim, fun ⟨_, h, _⟩ => by cases h⟩
  | p :: ps, w => ⟨fun h => h.elim (fun h => ⟨p, List.mem_cons_self, h⟩) fun h => let ⟨q, a, b⟩ := LgO_iff.mp h; ⟨q, List.mem_cons_of_mem _ a, b⟩, fun ⟨q, a, b⟩ => (List.mem_cons.mp a).elim (fun e => .inl (e ▸ b)) fun a => .inr (LgO_iff.mpr ⟨q, a, b⟩)⟩
theorem LgA_iff : ∀ {ps : List Pat} {w : List Nat}, LgA ps w ↔ ∀ p ∈ ps, Lg p w
  | [], w => ⟨fun _ _ h => (by cases h), fun _ => trivial⟩
  | p :: ps, w => ⟨fun h q a => (List.mem_cons.mp a).elim (fun e => e ▸ h.1) fun a => LgA_iff.mp h.2 q a, fun h => ⟨h p List.mem_cons_self, LgA_iff.mpr fun q a => h q (List.mem_cons_of_mem _ a)⟩⟩
theorem LgR_one {p : Pat} {w : List Nat} : LgR [p] w ↔ Lg p w :=
  ⟨fun ⟨u, v, e, h, e'⟩ => by have e' : v = [] := e'; rw [e, e', List.append_nil]; exact h, fun h => ⟨w, [], (List.append_nil w).symm, h, rfl⟩⟩
theorem LgR_app : ∀ {ps qs : List Pat} {w : List Nat}, LgR (ps ++ qs) w ↔ ∃ u v, w = u ++ v ∧ LgR ps u ∧ LgR qs v
  | [], qs, w => ⟨fun h => ⟨[], w, rfl, rfl, h⟩, fun ⟨u, v, e, (e' : u = []), h⟩ => by rw [e, e']; exact h⟩
  | p :: ps, qs, w => by
    constructor
    · rintro ⟨u, v, e, h, h'⟩
      obtain ⟨a, b, e', h1, h2⟩ := LgR_app.mp h'
      exact ⟨u ++ a, b, by rw [e, e', List.append_assoc], ⟨u, a, rfl, h, h1⟩, h2⟩
    · rintro ⟨u, v, e, ⟨a, b, e', h1, h2⟩, h3⟩
      exact ⟨a, b ++ v, by rw [e, e', List.append_assoc], h1, LgR_app.mpr ⟨b, v, rfl, h2, h3⟩⟩
theorem LgR_congr {a b c d : List Pat} (h : ∀ w, LgR a w ↔ LgR b w) (g : ∀ w, LgR c w ↔ LgR d w) (w : List Nat) : LgR (a ++ c) w ↔ LgR (b ++ d) w := by
  rw [LgR_app, LgR_app]
  exact exists_congr fun u => exists_congr fun v => and_congr Iff.rfl (and_congr (h u) (g v))
/-! pieces side by side -/
theorem KS.one {R : List Nat → Prop} {u : List Nat} (h : R u) : KS R u := by have := KS.app h (KS.nil (R := R)); rwa [List.append_nil] at this
theorem KS.cat {R : List Nat → Prop} {u v : List Nat} (h : KS R u) (g : KS R v) : KS R (u ++ v) := by
  induction h with
  | nil => exact g
  | app h _ ih => rw [List.append_assoc]; exact .app h ih
theorem KS.mono {R S : List Nat → Prop} (h : ∀ w, R w → S w) {w : List Nat} (k : KS R w) : KS S w := by
  induction k with
  | nil => exact .nil
  | app a _ ih => exact .app (h _ a) ih
theorem KS.flat {R S : List Nat → Prop} (h : ∀ w, R w → KS S w) {w : List Nat} (k : KS R w) : KS S w := by
  induction k with
  | nil => exact .nil
  | app a _ ih => exact (h _ a).cat ih
theorem KS.row {R : List Nat → Prop} : ∀ {ps : List Pat} {w : List Nat}, (∀ p ∈ ps, ∀ u, Lg p u → KS R u) → LgR ps w → KS R w
  | [], w, _, h => by rw [show w = [] from h]; exact .nil
  | p :: ps, w, g, ⟨u, v, e, h, h'⟩ => by rw [e]; exact (g p List.mem_cons_self u h).cat (KS.row (fun q a => g q (List.mem_cons_of_mem _ a)) h')
/-! the text without signs -/
mutual
theorem null_iff : ∀ p : Pat, nullb p = true ↔ Lg p []
  | .none => ⟨fun h => (by cases h), fun h => h.elim⟩
  | .empty => ⟨fun _ => rfl, fun _ => rfl⟩
  | .sign c => ⟨fun h => (by cases h), fun h => (by cases h)⟩
  | .many p => ⟨fun _ => KS.nil, fun _ => rfl⟩
  | .not p => by
    show (!nullb p) = true ↔ ¬ Lg p []
    rw [← null_iff p]; cases nullb p <;> simp
  | .row ps => nullR_iff ps
  | .or ps => nullO_iff ps
  | .and ps => nullA_iff ps
theorem nullR_iff : ∀ ps : List Pat, nullAll ps = true ↔ LgR ps []
  | [] => ⟨fun _ => rfl, fun _ => rfl⟩
  | p :: ps => by
    rw [nullAll, Bool.and_eq_true, null_iff p, nullR_iff ps]
    exact ⟨fun h => ⟨[], [], rfl, h.1, h.2⟩, fun ⟨u, v, e, h, h'⟩ => by
      obtain ⟨rfl, rfl⟩ := List.append_eq_nil_iff.mp e.symm
      exact ⟨h, h'⟩⟩
theorem nullO_iff : ∀ ps : List Pat, nullAny ps = true ↔ LgO ps []
  | [] => ⟨fun h => (by cases h), fun h => h.elim⟩
  | p :: ps => by rw [nullAny, Bool.or_eq_true, null_iff p, nullO_iff ps]; exact Iff.rfl
theorem nullA_iff : ∀ ps : List Pat, nullAll ps = true ↔ LgA ps []
  | [] => ⟨fun _ => trivial, fun _ => rfl⟩
  | p :: ps => by rw [nullAll, Bool.and_eq_true, null_iff p, nullA_iff ps]; exact Iff.rfl
end
/-! what is covered is within -/
def Sub (s b : Pat) : Prop := ∀ w, Lg s w → Lg b w
theorem all_all (w : List Nat) : Lg ALL w := fun h => h
theorem nulls_row : ∀ {ps : List Pat}, ps.all nullb = true → LgR ps [] := fun {ps} h => (nullR_iff ps).mp ((nullAll_eq ps).trans h)
section
variable {c : Pat → Pat → Bool} (hc : ∀ b s, c b s = true → Sub s b)
include hc
theorem all2_sub : ∀ {bs ss : List Pat}, bs.length = ss.length → all2 c bs ss = true → ∀ w, LgR ss w → LgR bs w
  | [], [], _, _, w, h => h
  | b :: bs, s :: ss, l, a, w, ⟨u, v, e, h, h'⟩ => by
    rw [all2, Bool.and_eq_true] at a
    exact ⟨u, v, e, hc _ _ a.1 u h, all2_sub (Nat.succ.inj l) a.2 v h'⟩
  | [], _ :: _, l, _, _, _ => by cases l
  | _ :: _, [], l, _, _, _ => by cases l
theorem rowC_sub {bs ss : List Pat} (h : rowC c bs ss = true) : ∀ w, LgR ss w → LgR bs w := by
  unfold rowC at h
  simp only [Bool.and_eq_true, decide_eq_true_eq] at h
  obtain ⟨h1, h2, h3⟩ := h
  intro w hw
  have := all2_sub hc (by rw [List.length_drop]; omega) h3 w hw
  rw [← List.take_append_drop (bs.length - ss.length) bs, LgR_app]
  exact ⟨[], w, rfl, nulls_row h2, this⟩
theorem pieces_row {s : Pat} {w : List Nat} : LgR (pieces s) w ↔ Lg s w := by
  cases s <;> first | exact LgR_one | exact Iff.rfl
theorem manyC_sub {b s : Pat} (h : manyC c b s = true) : Sub s (.many b) := by
  cases s with
  | many x => exact fun w k => KS.flat (fun u hu => hc _ _ h u hu) k
  | row ps =>
    unfold manyC at h
    rw [Bool.or_eq_true] at h
    rcases h with h | h
    · exact fun w k => KS.row (fun p hp u hu => hc _ _ (List.all_eq_true.mp h p hp) u hu) k
    · exact fun w k => KS.one (hc _ _ h w k)
  | _ => exact fun w k => KS.one (hc _ _ h w k)
theorem covS_sub {b s : Pat} (h : covS c b s = true) : Sub s b := by
  cases b with
  | not x =>
    cases s with
    | not y => exact fun w k k' => k (hc _ _ h w k')
    | _ => cases h
  | many x => exact manyC_sub hc h
  | row bs => exact fun w k => rowC_sub hc h w ((pieces_row hc).mpr k)
  | _ => cases h
theorem covA_sub {b s : Pat} (h : covA c b s = true) : Sub s b := by
  cases s with
  | and ss =>
    unfold covA at h
    rw [Bool.or_eq_true] at h
    rcases h with h | h
    · obtain ⟨x, hx, hcx⟩ := List.any_eq_true.mp h
      exact fun w k => hc _ _ hcx w (LgA_iff.mp k x hx)
    · exact covS_sub hc h
  | _ => exact covS_sub hc h
theorem covR_sub {b s : Pat} (h : covR c b s = true) : Sub s b := by
  have other : ∀ s, (match b with
      | .and bs => bs.all fun x => c x s
      | .or bs => bs.any (fun x => c x s) || covA c b s
      | _ => covA c b s) = true → Sub s b := by
    intro s h
    cases b with
    | and bs => exact fun w k => LgA_iff.mpr fun x hx => hc _ _ (List.all_eq_true.mp h x hx) w k
    | or bs =>
      rw [Bool.or_eq_true] at h
      rcases h with h | h
      · obtain ⟨x, hx, hcx⟩ := List.any_eq_true.mp h
        exact fun w k => LgO_iff.mpr ⟨x, hx, hc _ _ hcx w k⟩
      · exact covA_sub hc h
    | _ => exact covA_sub hc h
  cases s with
  | or ss => exact fun w k => let ⟨x, hx, hk⟩ := LgO_iff.mp k; hc _ _ (List.all_eq_true.mp h x hx) w hk
  | _ => exact other _ h
end
theorem cov_sub : ∀ (d : Nat) (b s : Pat), cov d b s = true → Sub s b := by
  have base : ∀ b s : Pat, b = s ∨ b = ALL ∨ s = .none → Sub s b := by
    rintro b s (rfl | rfl | rfl)
    · exact fun _ h => h
    · exact fun w _ => all_all w
    · exact fun w h => h.elim
  have emp : ∀ b s : Pat, s = .empty → nullb b = true → Sub s b := by
    rintro b s rfl h w k
    rw [show w = [] from k]
    exact (null_iff b).mp h
  intro d
  induction d with
  | zero =>
    intro b s h
    unfold cov at h
    simp only [Bool.or_eq_true, Bool.and_eq_true, decide_eq_true_eq] at h
    rcases h with ((h | h) | h) | h
    · exact base b s (.inl h)
    · exact base b s (.inr (.inl h))
    · exact base b s (.inr (.inr h))
    · exact emp b s h.1 h.2
  | succ d ih =>
    intro b s h
    unfold cov at h
    simp only [Bool.or_eq_true, decide_eq_true_eq] at h
    rcases h with ((h | h) | h) | h
    · exact base b s (.inl h)
    · exact base b s (.inr (.inl h))
    · exact base b s (.inr (.inr h))
    · by_cases e : s = .empty
      · rw [if_pos e] at h; exact emp b s e h
      · rw [if_neg e] at h; exact covR_sub ih h
theorem c8_sub {b s : Pat} (h : c8 b s = true) : Sub s b := cov_sub 8 b s h
theorem c8_self (p : Pat) : c8 p p = true := by unfold c8 cov; simp
theorem c8_none (p : Pat) : c8 p .none = true := by unfold c8 cov; simp
theorem c8_empty (p : Pat) (h : nullb p = true) : c8 p .empty = true := by unfold c8 cov; simp [h]
/-! what is needed -/
section
variable {idle : Pat → Pat → Bool}
theorem step_mem {k : List Pat} {p q : Pat} (h : q ∈ step idle k p) : q ∈ k ∨ q = p := by
  unfold step at h
  split at h
  · exact .inl h
  · rcases List.mem_append.mp h with h | h
    · exact .inl (List.mem_filter.mp h).1
    · exact .inr (List.mem_singleton.mp h)
theorem fold_mem : ∀ (ps k : List Pat) {q : Pat}, q ∈ ps.foldl (step idle) k → q ∈ k ∨ q ∈ ps
  | [], k, q, h => .inl h
  | p :: ps, k, q, h => by
    rcases fold_mem ps _ h with h | h
    · exact (step_mem h).imp id fun (e : q = p) => e ▸ List.mem_cons_self
    · exact .inr (List.mem_cons_of_mem _ h)
theorem needed_mem {ps : List Pat} {q : Pat} (h : q ∈ needed idle ps) : q ∈ ps := (fold_mem _ _ h).elim (fun h => by cases h) srt_mem.mp
def Unl (idle : Pat → Pat → Bool) (k : List Pat) : Prop := k.Pairwise fun o p => idle p o = false ∧ idle o p = false
theorem step_unl {k : List Pat} {p : Pat} (h : Unl idle k) : Unl idle (step idle k p) := by
  unfold step
  split
  · exact h
  · rename_i n
    refine List.pairwise_append.mpr ⟨h.filter _, List.pairwise_singleton _ _, fun o ho q hq => ?_⟩
    rw [List.mem_singleton.mp hq]
    obtain ⟨h1, h2⟩ := List.mem_filter.mp ho
    refine ⟨?_, by simpa using h2⟩
    cases g : idle p o with
    | false => rfl
    | true => exact absurd (List.any_eq_true.mpr ⟨o, h1, g⟩) n
theorem needed_unl (ps : List Pat) : Unl idle (needed idle ps) := by
  have : ∀ (ps k : List Pat), Unl idle k → Unl idle (ps.foldl (step idle) k) := by
    intro ps
    induction ps with
    | nil => exact fun k h => h
    | cons p ps ih => exact fun k h => ih _ (step_unl h)
  exact this _ _ List.Pairwise.nil
/-- of two and more, each has another one beside it -/
theorem unl_two {k : List Pat} (h : Unl idle k) (l : 1 < k.length) {q : Pat} (hq : q ∈ k) : ∃ o ∈ k, idle q o = false ∧ idle o q = false := by
  obtain ⟨i, hi, rfl⟩ := List.getElem_of_mem hq
  have pw := List.pairwise_iff_getElem.mp h
  by_cases e : i = 0
  · subst e
    exact ⟨k[1], List.getElem_mem l, (pw 0 1 hi l (by omega)).2, (pw 0 1 hi l (by omega)).1⟩
  · exact ⟨k[0], List.getElem_mem (by omega), (pw 0 i (by omega) hi (by omega)).1, (pw 0 i (by omega) hi (by omega)).2⟩
end
theorem step_or {k : List Pat} {p : Pat} {w : List Nat} : (∃ q ∈ step (fun s b => c8 b s) k p, Lg q w) ↔ (∃ q ∈ k, Lg q w) ∨ Lg p w := by
  unfold step
  split
  · rename_i h
    obtain ⟨o, ho, hc⟩ := List.any_eq_true.mp h
    exact ⟨.inl, fun h => h.elim id fun h => ⟨o, ho, c8_sub hc w h⟩⟩
  · constructor
    · rintro ⟨q, hq, h⟩
      rcases List.mem_append.mp hq with hq | hq
      · exact .inl ⟨q, (List.mem_filter.mp hq).1, h⟩
      · exact .inr (List.mem_singleton.mp hq ▸ h)
    · rintro (⟨q, hq, h⟩ | h)
      · cases g : c8 p q with
        | true => exact ⟨p, List.mem_append.mpr (.inr (List.mem_singleton.mpr rfl)), c8_sub g w h⟩
        | false => exact ⟨q, List.mem_append.mpr (.inl (List.mem_filter.mpr ⟨hq, by simp [g]⟩)), h⟩
      · exact ⟨p, List.mem_append.mpr (.inr (List.mem_singleton.mpr rfl)), h⟩
theorem needed_or (ps : List Pat) (w : List Nat) : (∃ q ∈ needed (fun s b => c8 b s) ps, Lg q w) ↔ ∃ q ∈ ps, Lg q w := by
  have : ∀ (ps k : List Pat), (∃ q ∈ ps.foldl (step fun s b => c8 b s) k, Lg q w) ↔ (∃ q ∈ k, Lg q w) ∨ ∃ q ∈ ps, Lg q w := by
    intro ps
    induction ps with
    | nil => exact fun k => ⟨.inl, fun h => h.elim id fun ⟨_, h, _⟩ => by cases h⟩
    | cons p ps ih =>
      intro k
      rw [List.foldl_cons, ih, step_or, or_assoc]
      refine or_congr Iff.rfl ⟨fun h => h.elim (fun h => ⟨p, List.mem_cons_self, h⟩) fun ⟨q, a, b⟩ => ⟨q, List.mem_cons_of_mem _ a, b⟩, fun ⟨q, a, b⟩ => (List.mem_cons.mp a).elim (fun e => .inl (e ▸ b)) fun a => .inr ⟨q, a, b⟩⟩
  unfold needed
  rw [this]
  exact ⟨fun h => h.elim (fun ⟨_, h, _⟩ => by cases h) fun ⟨q, a, b⟩ => ⟨q, srt_mem.mp a, b⟩, fun ⟨q, a, b⟩ => .inr ⟨q, srt_mem.mpr a, b⟩⟩
theorem step_and {k : List Pat} {p : Pat} {w : List Nat} : (∀ q ∈ step c8 k p, Lg q w) ↔ (∀ q ∈ k, Lg q w) ∧ Lg p w := by
  unfold step
  split
  · rename_i h
    obtain ⟨o, ho, hc⟩ := List.any_eq_true.mp h
    exact ⟨fun h => ⟨h, c8_sub hc w (h o ho)⟩, fun h => h.1⟩
  · constructor
    · intro h
      have hp : Lg p w := h p (List.mem_append.mpr (.inr (List.mem_singleton.mpr rfl)))
      refine ⟨fun q hq => ?_, hp⟩
      cases g : c8 q p with
      | true => exact c8_sub g w hp
      | false => exact h q (List.mem_append.mpr (.inl (List.mem_filter.mpr ⟨hq, by simp [g]⟩)))
    · rintro ⟨h, hp⟩ q hq
      rcases List.mem_append.mp hq with hq | hq
      · exact h q (List.mem_filter.mp hq).1
      · exact List.mem_singleton.mp hq ▸ hp
theorem needed_and (ps : List Pat) (w : List Nat) : (∀ q ∈ needed c8 ps, Lg q w) ↔ ∀ q ∈ ps, Lg q w := by
  have : ∀ (ps k : List Pat), (∀ q ∈ ps.foldl (step c8) k, Lg q w) ↔ (∀ q ∈ k, Lg q w) ∧ ∀ q ∈ ps, Lg q w := by
    intro ps
    induction ps with
    | nil => exact fun k => ⟨fun h => ⟨h, fun _ h => (by cases h)⟩, fun h => h.1⟩
    | cons p ps ih =>
      intro k
      rw [List.foldl_cons, ih, step_and, and_assoc]
      exact and_congr Iff.rfl ⟨fun h q a => (List.mem_cons.mp a).elim (fun e => e ▸ h.1) (h.2 q), fun h => ⟨h p List.mem_cons_self, fun q a => h q (List.mem_cons_of_mem _ a)⟩⟩
  unfold needed
  rw [this]
  exact ⟨fun h q a => h.2 q (srt_mem.mpr a), fun h => ⟨fun _ h => (by cases h), fun q a => h q (srt_mem.mp a)⟩⟩
theorem spread_or (ps : List Pat) (w : List Nat) : (∃ q ∈ spread partsO ps, Lg q w) ↔ ∃ q ∈ ps, Lg q w := by
  have one : ∀ p : Pat, (∃ q ∈ partsO p, Lg q w) ↔ Lg p w := fun p => by
    cases p with
    | or ps => exact LgO_iff.symm
    | _ => exact ⟨fun ⟨q, a, b⟩ => List.mem_singleton.mp a ▸ b, fun h => ⟨_, List.mem_singleton.mpr rfl, h⟩⟩
  constructor
  · rintro ⟨q, hq, h⟩
    obtain ⟨p, hp, hqp⟩ := List.mem_flatMap.mp hq
    exact ⟨p, hp, (one p).mp ⟨q, hqp, h⟩⟩
  · rintro ⟨p, hp, h⟩
    obtain ⟨q, hq, h⟩ := (one p).mpr h
    exact ⟨q, List.mem_flatMap.mpr ⟨p, hp, hq⟩, h⟩
theorem spread_and (ps : List Pat) (w : List Nat) : (∀ q ∈ spread partsA ps, Lg q w) ↔ ∀ q ∈ ps, Lg q w := by
  have one : ∀ p : Pat, (∀ q ∈ partsA p, Lg q w) ↔ Lg p w := fun p => by
    cases p with
    | and ps => exact LgA_iff.symm
    | _ => exact ⟨fun h => h _ (List.mem_singleton.mpr rfl), fun h q a => List.mem_singleton.mp a ▸ h⟩
  exact ⟨fun h p hp => (one p).mp fun q hq => h q (List.mem_flatMap.mpr ⟨p, hp, hq⟩), fun h q hq => let ⟨p, hp, hqp⟩ := List.mem_flatMap.mp hq; (one p).mpr (h p hp) q hqp⟩
theorem joined_or (k : List Pat) (w : List Nat) : Lg (joined .or k .none) w ↔ ∃ q ∈ k, Lg q w := by
  match k with
  | [] => exact ⟨fun h => h.elim, fun ⟨_, h, _⟩ => by cases h⟩
  | [p] => exact ⟨fun h => ⟨p, List.mem_singleton.mpr rfl, h⟩, fun ⟨q, a, b⟩ => List.mem_singleton.mp a ▸ b⟩
  | p :: q :: r => exact LgO_iff
theorem joined_and (k : List Pat) (w : List Nat) : Lg (joined .and k ALL) w ↔ ∀ q ∈ k, Lg q w := by
  match k with
  | [] => exact ⟨fun _ _ h => (by cases h), fun _ => all_all w⟩
  | [p] => exact ⟨fun h q a => List.mem_singleton.mp a ▸ h, fun h => h p (List.mem_singleton.mpr rfl)⟩
  | p :: q :: r => exact LgA_iff
theorem joined_row (k : List Pat) (w : List Nat) : Lg (joined .row k .empty) w ↔ LgR k w := by
  match k with
  | [] => exact Iff.rfl
  | [p] => exact LgR_one.symm
  | p :: q :: r => exact Iff.rfl
theorem kept_or (ps : List Pat) (w : List Nat) : (∃ q ∈ keptO ps, Lg q w) ↔ ∃ q ∈ ps, Lg q w := (needed_or _ w).trans (spread_or ps w)
theorem kept_and (ps : List Pat) (w : List Nat) : (∀ q ∈ keptA ps, Lg q w) ↔ ∀ q ∈ ps, Lg q w := (needed_and _ w).trans (spread_and ps w)
theorem either_lg (ps : List Pat) (w : List Nat) : Lg (either ps) w ↔ ∃ p ∈ ps, Lg p w := by
  rw [← kept_or ps w]
  unfold either
  split
  · rename_i h
    refine ⟨fun _ => ?_, fun _ => all_all w⟩
    unfold allO at h
    obtain ⟨p, hp, h⟩ := List.any_eq_true.mp h
    cases p with
    | not x =>
      obtain ⟨o, ho, hc⟩ := List.any_eq_true.mp h
      by_cases g : Lg x w
      · exact ⟨o, ho, c8_sub hc w g⟩
      · exact ⟨_, hp, g⟩
    | _ => cases h
  · exact joined_or _ w
theorem both_lg (ps : List Pat) (w : List Nat) : Lg (both ps) w ↔ ∀ p ∈ ps, Lg p w := by
  rw [← kept_and ps w]
  unfold both
  split
  · rename_i h
    refine ⟨fun h => h.elim, fun g => ?_⟩
    obtain ⟨o, ho, _, h2⟩ := unl_two (needed_unl _) h.2 h.1
    have hw : w = [] := g _ h.1
    subst hw
    have := c8_empty o ((null_iff o).mpr (g o ho))
    rw [h2] at this; cases this
  · split
    · rename_i _ h
      refine ⟨fun h => h.elim, fun g => ?_⟩
      unfold noneA at h
      obtain ⟨p, hp, h⟩ := List.any_eq_true.mp h
      cases p with
      | not x =>
        obtain ⟨o, ho, hc⟩ := List.any_eq_true.mp h
        exact g _ hp (c8_sub hc w (g o ho))
      | _ => cases h
    · exact joined_and _ w
theorem negated_lg (p : Pat) (w : List Nat) : Lg (negated p) w ↔ ¬ Lg p w := by
  cases p with
  | not x => exact ⟨fun h k => k h, fun h => Classical.byContradiction h⟩
  | _ => exact Iff.rfl
/-! rows -/
theorem along_star {g p : Pat} (h : along g p = true) : (∀ u v, Lg g u → Lg g v → Lg g (u ++ v)) ∧ Lg p [] ∧ Sub p g := by
  unfold along at h
  simp only [Bool.and_eq_true, Bool.or_eq_true, decide_eq_true_eq] at h
  refine ⟨?_, (null_iff p).mp h.2.1, c8_sub h.2.2⟩
  rcases h.1 with h | h
  · cases g with
    | many x => exact fun u v a b => KS.cat a b
    | _ => cases h
  · rw [h]; exact fun u v _ _ => all_all _
theorem along_gp {g p : Pat} (h : along g p = true) (w : List Nat) : LgR [g, p] w ↔ LgR [g] w := by
  obtain ⟨h1, h2, h3⟩ := along_star h
  rw [LgR_one]
  exact ⟨fun ⟨u, v, e, a, b⟩ => e ▸ h1 u v a (h3 v (LgR_one.mp b)), fun a => ⟨w, [], (List.append_nil w).symm, a, LgR_one.mpr h2⟩⟩
theorem along_pg {g p : Pat} (h : along g p = true) (w : List Nat) : LgR [p, g] w ↔ LgR [g] w := by
  obtain ⟨h1, h2, h3⟩ := along_star h
  rw [LgR_one]
  exact ⟨fun ⟨u, v, e, a, b⟩ => e ▸ h1 u v (h3 u a) (LgR_one.mp b), fun a => ⟨[], w, rfl, h2, LgR_one.mpr a⟩⟩
theorem popW_lg (p : Pat) : ∀ (st : List Pat) (w : List Nat), LgR ((popW p st).reverse ++ [p]) w ↔ LgR (st.reverse ++ [p]) w
  | [], w => Iff.rfl
  | t :: st, w => by
    rw [popW]
    split
    · rename_i h
      rw [popW_lg p st w, List.reverse_cons, List.append_assoc]
      exact (LgR_congr (fun _ => Iff.rfl) (fun u => along_pg h u) w).symm
    · exact Iff.rfl
theorem stepS_lg (st : List Pat) (p : Pat) (w : List Nat) : LgR (stepS st p).reverse w ↔ LgR (st.reverse ++ [p]) w := by
  cases st with
  | nil => exact Iff.rfl
  | cons t st =>
    unfold stepS
    simp only []
    split
    · rename_i h
      rw [List.reverse_cons, List.append_assoc]
      exact (LgR_congr (fun _ => Iff.rfl) (fun u => along_gp h u) w).symm
    · rw [List.reverse_cons]; exact popW_lg p (t :: st) w
theorem short_lg (ps : List Pat) (w : List Nat) : LgR (shortened ps) w ↔ LgR ps w := by
  have : ∀ (ps st : List Pat) (w : List Nat), LgR (ps.foldl stepS st).reverse w ↔ LgR (st.reverse ++ ps) w := by
    intro ps
    induction ps with
    | nil => exact fun st w => by rw [List.append_nil]; exact Iff.rfl
    | cons p ps ih =>
      intro st w
      rw [List.foldl_cons, ih, show p :: ps = [p] ++ ps from rfl, ← List.append_assoc]
      exact LgR_congr (fun u => stepS_lg st p u) (fun _ => Iff.rfl) w
  exact this ps [] w
theorem drop_empty : ∀ (ps : List Pat) (w : List Nat), LgR (ps.filter fun p => !decide (p = .empty)) w ↔ LgR ps w
  | [], w => Iff.rfl
  | p :: ps, w => by
    by_cases e : p = .empty
    · subst e
      rw [List.filter_cons_of_neg (by simp), drop_empty ps w]
      exact ⟨fun h => ⟨[], w, rfl, rfl, h⟩, fun ⟨u, v, e, (a : u = []), b⟩ => by rw [e, a]; exact b⟩
    · rw [List.filter_cons_of_pos (by simp [e])]
      exact exists_congr fun u => exists_congr fun v => and_congr Iff.rfl (and_congr Iff.rfl (drop_empty ps v))
theorem pieces_lg (s : Pat) (w : List Nat) : LgR (pieces s) w ↔ Lg s w := by
  cases s <;> first | exact LgR_one | exact Iff.rfl
theorem spread_row : ∀ (ps : List Pat) (w : List Nat), LgR (spread pieces ps) w ↔ LgR ps w
  | [], w => Iff.rfl
  | p :: ps, w => by
    show LgR (pieces p ++ spread pieces ps) w ↔ LgR ([p] ++ ps) w
    exact LgR_congr (fun u => (pieces_lg p u).trans LgR_one.symm) (fun u => spread_row ps u) w
theorem kept_row (ps : List Pat) (w : List Nat) : LgR (keptR ps) w ↔ LgR ps w := (short_lg _ w).trans ((drop_empty _ w).trans (spread_row ps w))
/-- n turns are enough -/
def rowK : Nat → List Pat → Prop
  | 0, _ => False
  | n + 1, ps => ∀ fs rest, keptR ps = .or fs :: rest → ∀ f ∈ fs, rowK n (f :: rest)
theorem none_row {ps : List Pat} (h : Pat.none ∈ ps) (w : List Nat) : ¬ LgR ps w := by
  induction ps generalizing w with
  | nil => cases h
  | cons p ps ih =>
    rintro ⟨u, v, _, a, b⟩
    rcases List.mem_cons.mp h with e | h
    · subst e; exact a
    · exact ih h v b
theorem rowF_lg : ∀ (n : Nat) (ps : List Pat), rowK n ps → ∀ w, Lg (rowF n ps) w ↔ LgR ps w
  | 0, _, h, _ => h.elim
  | n + 1, ps, h, w => by
    rw [← kept_row ps w]
    unfold rowF
    split
    · rename_i g
      exact ⟨fun h => h.elim, fun k => (none_row g w k).elim⟩
    · rename_i g
      generalize he : keptR ps = k at g
      split
      · rename_i fs rest
        rw [either_lg]
        constructor
        · rintro ⟨q, hq, hl⟩
          obtain ⟨f, hf, rfl⟩ := List.mem_map.mp hq
          obtain ⟨u, v, e, a, b⟩ := (rowF_lg n _ (h fs rest he f hf) w).mp hl
          exact ⟨u, v, e, LgO_iff.mpr ⟨f, hf, a⟩, b⟩
        · rintro ⟨u, v, e, a, b⟩
          obtain ⟨f, hf, a⟩ := LgO_iff.mp a
          exact ⟨_, List.mem_map.mpr ⟨f, hf, rfl⟩, (rowF_lg n _ (h fs rest he f hf) w).mpr ⟨u, v, e, a, b⟩⟩
      · exact joined_row _ w
/-! manys -/
mutual
theorem pk_lg : ∀ (p : Pat) (w : List Nat), KS (fun u => ∃ q ∈ pk p, Lg q u) w ↔ KS (fun u => Lg p u) w
  | .none, w => ⟨fun h => h.mono (fun _ ⟨_, a, _⟩ => by cases a), fun h => h.mono fun _ a => a.elim⟩
  | .empty, w => ⟨fun h => h.mono (fun _ ⟨_, a, _⟩ => by cases a), fun h => h.flat fun u a => by rw [show u = [] from a]; exact .nil⟩
  | .many p, w => ⟨fun h => ((pk_lg p w).mp h).mono fun _ a => KS.one a, fun h => (pk_lg p w).mpr (h.flat fun _ a => a)⟩
  | .sign c, w => ⟨fun h => h.mono fun _ ⟨_, a, b⟩ => List.mem_singleton.mp a ▸ b, fun h => h.mono fun _ a => ⟨_, List.mem_singleton.mpr rfl, a⟩⟩
  | .and ps, w => ⟨fun h => h.mono fun _ ⟨_, a, b⟩ => List.mem_singleton.mp a ▸ b, fun h => h.mono fun _ a => ⟨_, List.mem_singleton.mpr rfl, a⟩⟩
  | .not p, w => ⟨fun h => h.mono fun _ ⟨_, a, b⟩ => List.mem_singleton.mp a ▸ b, fun h => h.mono fun _ a => ⟨_, List.mem_singleton.mpr rfl, a⟩⟩
  | .or ps, w => by
    have e := pks_lg ps w
    show KS (fun u => ∃ q ∈ pks ps, Lg q u) w ↔ _
    exact e.trans ⟨fun h => h.mono fun u a => LgO_iff.mpr a, fun h => h.mono fun u a => LgO_iff.mp a⟩
  | .row ps, w => by
    rw [pk]
    split
    · rename_i hn
      refine (pks_lg ps w).trans ⟨fun h => h.mono fun u ⟨p, hp, a⟩ => ?_, fun h => h.flat fun u a => KS.row (fun p hp v b => KS.one ⟨p, hp, b⟩) a⟩
      have hall : ∀ q ∈ ps, Lg q [] := fun q hq => (null_iff q).mp (List.all_eq_true.mp ((nullAll_eq ps).symm.trans hn) q hq)
      obtain ⟨l, r, rfl⟩ := List.append_of_mem hp
      have em : ∀ qs : List Pat, (∀ q ∈ qs, Lg q []) → LgR qs [] := fun qs => by
        induction qs with
        | nil => exact fun _ => rfl
        | cons q qs ih => exact fun h => ⟨[], [], rfl, h q List.mem_cons_self, ih fun q' a => h q' (List.mem_cons_of_mem _ a)⟩
      exact LgR_app.mpr ⟨[], u, rfl, em l fun q a => hall q (List.mem_append.mpr (.inl a)), u, [], (List.append_nil u).symm, a, em r fun q a => hall q (List.mem_append.mpr (.inr (List.mem_cons_of_mem _ a)))⟩
    · exact ⟨fun h => h.mono fun _ ⟨_, a, b⟩ => List.mem_singleton.mp a ▸ b, fun h => h.mono fun _ a => ⟨_, List.mem_singleton.mpr rfl, a⟩⟩
theorem pks_lg : ∀ (ps : List Pat) (w : List Nat), KS (fun u => ∃ q ∈ pks ps, Lg q u) w ↔ KS (fun u => ∃ q ∈ ps, Lg q u) w
  | [], w => ⟨fun h => h, fun h => h⟩
  | p :: ps, w => by
    have left : ∀ u, Lg p u → KS (fun u => ∃ q ∈ pks (p :: ps), Lg q u) u := fun u a => ((pk_lg p u).mpr (KS.one a)).mono fun v ⟨q, hq, b⟩ => ⟨q, List.mem_append.mpr (.inl hq), b⟩
    have right : ∀ u, (∃ q ∈ ps, Lg q u) → KS (fun u => ∃ q ∈ pks (p :: ps), Lg q u) u := fun u a => ((pks_lg ps u).mpr (KS.one a)).mono fun v ⟨q, hq, b⟩ => ⟨q, List.mem_append.mpr (.inr hq), b⟩
    constructor
    · refine fun h => h.flat fun u ⟨q, hq, a⟩ => ?_
      rcases List.mem_append.mp hq with hq | hq
      · exact ((pk_lg p u).mp (KS.one ⟨q, hq, a⟩)).mono fun v b => ⟨p, List.mem_cons_self, b⟩
      · exact ((pks_lg ps u).mp (KS.one ⟨q, hq, a⟩)).mono fun v ⟨r, hr, b⟩ => ⟨r, List.mem_cons_of_mem _ hr, b⟩
    · refine fun h => h.flat fun u ⟨q, hq, a⟩ => ?_
      rcases List.mem_cons.mp hq with e | hq
      · exact left u (e ▸ a)
      · exact right u ⟨q, hq, a⟩
end
theorem stepM_lg (k : List Pat) (p : Pat) (w : List Nat) : KS (fun u => ∃ q ∈ stepM k p, Lg q u) w ↔ KS (fun u => ∃ q ∈ k, Lg q u) w := by
  unfold stepM
  split
  · rename_i h
    refine ⟨fun g => g.mono fun u ⟨q, a, b⟩ => ⟨q, (List.mem_filter.mp a).1, b⟩, fun g => g.flat fun u ⟨q, a, b⟩ => ?_⟩
    by_cases e : q = p
    · subst e
      exact KS.mono (fun v hv => (either_lg _ v).mp hv) (c8_sub h.2 u b)
    · exact KS.one ⟨q, List.mem_filter.mpr ⟨a, by simp [e]⟩, b⟩
  · exact Iff.rfl
theorem keptM_lg (p : Pat) (w : List Nat) : KS (fun u => ∃ q ∈ keptM p, Lg q u) w ↔ KS (fun u => Lg p u) w := by
  have : ∀ (ps k : List Pat), KS (fun u => ∃ q ∈ ps.foldl stepM k, Lg q u) w ↔ KS (fun u => ∃ q ∈ k, Lg q u) w := by
    intro ps
    induction ps with
    | nil => exact fun k => Iff.rfl
    | cons p ps ih => exact fun k => (ih _).trans (stepM_lg k p w)
  unfold keptM
  rw [this, ← pk_lg p w]
  exact ⟨fun h => h.mono fun u ⟨q, a, b⟩ => ⟨q, srt_mem.mp a, b⟩, fun h => h.mono fun u ⟨q, a, b⟩ => ⟨q, srt_mem.mpr a, b⟩⟩
theorem manyOf_lg (p : Pat) (w : List Nat) : Lg (manyOf p) w ↔ KS (fun u => Lg p u) w := by
  rw [← keptM_lg p w]
  have e : ∀ w, Lg (either (keptM p)) w ↔ ∃ q ∈ keptM p, Lg q w := either_lg _
  unfold manyOf manyE
  split
  · rename_i h
    rw [h] at e
    exact ⟨fun g => by rw [show w = [] from g]; exact .nil, fun g => by
      cases g with
      | nil => rfl
      | app a _ => exact ((e _).mpr a).elim⟩
  · split
    · rename_i h
      rw [h] at e
      exact ⟨fun _ => KS.one ((e w).mp (all_all w)), fun _ => all_all w⟩
    · exact ⟨fun g => g.mono fun u a => (e u).mp a, fun g => g.mono fun u a => (e u).mpr a⟩
end Bo
set_option Elab.async false
set_option linter.all false
set_option maxRecDepth 100000
/-! the fixed form: what holds of all that these functions tell -/
namespace Bo
def isOr : Pat → Bool
  | .or _ => true
  | _ => false
def isRow : Pat → Bool
  | .row _ => true
  | _ => false
def isAnd : Pat → Bool
  | .and _ => true
  | _ => false
def cO (p : Pat) : Bool := !isOr p && !decide (p = .none)
def cA (p : Pat) : Bool := !isAnd p && !decide (p = .none)
def cR (p : Pat) : Bool := !isRow p && (!decide (p = .none) && !decide (p = .empty))
def headOr : List Pat → Bool
  | p :: _ => isOr p
  | [] => false
mutual
def NF : Pat → Prop
  | .row ps => 2 ≤ ps.length ∧ headOr ps = false ∧ NFl cR ps
  | .or ps => 2 ≤ ps.length ∧ NFl cO ps
  | .and ps => 2 ≤ ps.length ∧ NFl cA ps
  | .many p => NF p
  | .not p => NF p
  | _ => True
def NFl (c : Pat → Bool) : List Pat → Prop
  | [] => True
  | p :: ps => c p = true ∧ NF p ∧ NFl c ps
end
theorem NFl_iff {c : Pat → Bool} : ∀ {ps : List Pat}, NFl c ps ↔ ∀ p ∈ ps, c p = true ∧ NF p
  | [] => ⟨fun _ _ h => (by cases h), fun _ => trivial⟩
  | p :: ps => ⟨fun h q a => (List.mem_cons.mp a).elim (fun e => e ▸ ⟨h.1, h.2.1⟩) fun a => NFl_iff.mp h.2.2 q a, fun h => ⟨(h p List.mem_cons_self).1, (h p List.mem_cons_self).2, NFl_iff.mpr fun q a => h q (List.mem_cons_of_mem _ a)⟩⟩
theorem nf_ALL : NF ALL := trivial
theorem joined_nf {mk : List Pat → Pat} {k : List Pat} {z : Pat} (h0 : NF z) (h1 : ∀ p ∈ k, NF p) (h2 : 2 ≤ k.length → NF (mk k)) : NF (joined mk k z) := by
  match k, h1, h2 with
  | [], _, _ => exact h0
  | [p], h1, _ => exact h1 p (List.mem_singleton.mpr rfl)
  | p :: q :: r, _, h2 => exact h2 (Nat.le_add_left _ _)
theorem partsO_nf {p q : Pat} (h : NF p) (a : q ∈ partsO p) : isOr q = false ∧ NF q := by
  cases p with
  | or ps =>
    have := NFl_iff.mp h.2 q a
    unfold cO at this
    simp only [Bool.and_eq_true, Bool.not_eq_true'] at this
    exact ⟨this.1.1, this.2⟩
  | _ => rw [List.mem_singleton.mp a]; exact ⟨rfl, h⟩
theorem partsA_nf {p q : Pat} (h : NF p) (a : q ∈ partsA p) : isAnd q = false ∧ NF q := by
  cases p with
  | and ps =>
    have := NFl_iff.mp h.2 q a
    unfold cA at this
    simp only [Bool.and_eq_true, Bool.not_eq_true'] at this
    exact ⟨this.1.1, this.2⟩
  | _ => rw [List.mem_singleton.mp a]; exact ⟨rfl, h⟩
theorem spread_mem {f : Pat → List Pat} {ps : List Pat} {q : Pat} (h : q ∈ spread f ps) : ∃ p ∈ ps, q ∈ f p := List.mem_flatMap.mp h
theorem keptO_nf {ps : List Pat} (h : ∀ p ∈ ps, NF p) {q : Pat} (a : q ∈ keptO ps) : isOr q = false ∧ NF q := let ⟨p, hp, b⟩ := spread_mem (needed_mem a); partsO_nf (h p hp) b
theorem keptA_nf {ps : List Pat} (h : ∀ p ∈ ps, NF p) {q : Pat} (a : q ∈ keptA ps) : isAnd q = false ∧ NF q := let ⟨p, hp, b⟩ := spread_mem (needed_mem a); partsA_nf (h p hp) b
theorem keptO_none {ps : List Pat} (l : 2 ≤ (keptO ps).length) : Pat.none ∉ keptO ps := fun h => by
  obtain ⟨o, _, h1, h2⟩ := unl_two (needed_unl _) l h
  have := c8_none o
  rw [h1] at this
  cases this
theorem keptA_none {ps : List Pat} (l : 2 ≤ (keptA ps).length) : Pat.none ∉ keptA ps := fun h => by
  obtain ⟨o, _, h1, h2⟩ := unl_two (needed_unl _) l h
  have := c8_none o
  rw [h2] at this
  cases this
theorem either_nf {ps : List Pat} (h : ∀ p ∈ ps, NF p) : NF (either ps) := by
  unfold either
  split
  · exact nf_ALL
  · refine joined_nf trivial (fun p a => (keptO_nf h a).2) fun l => ⟨l, NFl_iff.mpr fun p a => ⟨?_, (keptO_nf h a).2⟩⟩
    unfold cO
    rw [(keptO_nf h a).1]
    have : p ≠ .none := fun e => keptO_none l (e ▸ a)
    simp [this]
theorem both_nf {ps : List Pat} (h : ∀ p ∈ ps, NF p) : NF (both ps) := by
  unfold both
  split
  · trivial
  · split
    · trivial
    · refine joined_nf nf_ALL (fun p a => (keptA_nf h a).2) fun l => ⟨l, NFl_iff.mpr fun p a => ⟨?_, (keptA_nf h a).2⟩⟩
      unfold cA
      rw [(keptA_nf h a).1]
      have : p ≠ .none := fun e => keptA_none l (e ▸ a)
      simp [this]
theorem negated_nf {p : Pat} (h : NF p) : NF (negated p) := by cases p <;> exact h
/-! rows -/
theorem popW_mem {p q : Pat} : ∀ {st : List Pat}, q ∈ popW p st → q ∈ st
  | [], h => h
  | t :: st, h => by
    rw [popW] at h
    split at h
    · exact List.mem_cons_of_mem _ (popW_mem h)
    · exact h
theorem popW_len (p : Pat) : ∀ st : List Pat, (popW p st).length ≤ st.length
  | [] => Nat.le_refl _
  | t :: st => by
    rw [popW]
    split
    · exact Nat.le_succ_of_le (popW_len p st)
    · exact Nat.le_refl _
theorem stepS_mem {st : List Pat} {p q : Pat} (h : q ∈ stepS st p) : q ∈ st ∨ q = p := by
  cases st with
  | nil => exact .inr (List.mem_singleton.mp h)
  | cons t st =>
    unfold stepS at h
    simp only [] at h
    split at h
    · exact .inl h
    · rcases List.mem_cons.mp h with h | h
      · exact .inr h
      · exact .inl (popW_mem h)
theorem stepS_len (st : List Pat) (p : Pat) : (stepS st p).length ≤ st.length + 1 := by
  cases st with
  | nil => exact Nat.le_refl _
  | cons t st =>
    unfold stepS
    simp only []
    split
    · exact Nat.le_succ _
    · exact Nat.succ_le_succ (popW_len p (t :: st))
theorem short_mem {ps : List Pat} {q : Pat} (h : q ∈ shortened ps) : q ∈ ps := by
  have : ∀ (ps st : List Pat), q ∈ ps.foldl stepS st → q ∈ st ∨ q ∈ ps := by
    intro ps
    induction ps with
    | nil => exact fun st h => .inl h
    | cons p ps ih =>
      intro st h
      rcases ih _ h with h | h
      · exact (stepS_mem h).imp id fun (e : q = p) => e ▸ List.mem_cons_self
      · exact .inr (List.mem_cons_of_mem _ h)
  exact (this ps [] (List.mem_reverse.mp h)).elim (fun h => by cases h) id
theorem short_len (ps : List Pat) : (shortened ps).length ≤ ps.length := by
  have : ∀ (ps st : List Pat), (ps.foldl stepS st).length ≤ st.length + ps.length := by
    intro ps
    induction ps with
    | nil => exact fun st => Nat.le_refl _
    | cons p ps ih =>
      intro st
      have h1 := ih (stepS st p)
      have h2 := stepS_len st p
      show (ps.foldl stepS (stepS st p)).length ≤ st.length + (ps.length + 1)
      omega
  unfold shortened
  rw [List.length_reverse]
  have := this ps []
  simpa using this
/-- what stands first: the first one, or one that took it along -/
theorem short_head {a : Pat} {ps : List Pat} {x : Pat} {r : List Pat} (h : shortened (a :: ps) = x :: r) : x = a ∨ isMany x = true ∨ x = ALL := by
  let G : Pat → Prop := fun x => x = a ∨ isMany x = true ∨ x = ALL
  have pop : ∀ (p : Pat) (st : List Pat), (∀ y, st.getLast? = some y → G y) → ∀ y, (p :: popW p st).getLast? = some y → st ≠ [] → G y := by
    intro p st
    induction st with
    | nil => exact fun _ _ _ h => absurd rfl h
    | cons t st ih =>
      intro hG y hy _
      rw [popW] at hy
      split at hy
      · rename_i hal
        cases st with
        | nil =>
          have hy : some p = some y := hy
          cases hy
          unfold along at hal
          simp only [Bool.and_eq_true, Bool.or_eq_true, decide_eq_true_eq] at hal
          exact .inr hal.1
        | cons t' st' => exact ih (fun z hz => hG z (by rw [List.getLast?_cons_cons]; exact hz)) y hy (by simp)
      · rw [List.getLast?_cons_cons] at hy
        exact hG y hy
  have inv : ∀ (ps st : List Pat), st ≠ [] → (∀ y, st.getLast? = some y → G y) → ∀ y, (ps.foldl stepS st).getLast? = some y → G y := by
    intro ps
    induction ps with
    | nil => exact fun st _ h => h
    | cons p ps ih =>
      intro st hn hG
      refine ih (stepS st p) ?_ ?_
      · cases st with
        | nil => exact absurd rfl hn
        | cons t st => unfold stepS; simp only []; split <;> simp
      · intro y hy
        cases st with
        | nil => exact absurd rfl hn
        | cons t st =>
          unfold stepS at hy
          simp only [] at hy
          split at hy
          · exact hG y hy
          · exact pop p (t :: st) hG y hy (by simp)
  have hl : (ps.foldl stepS [a]).getLast? = some x := by
    have e : (ps.foldl stepS [a]).reverse = x :: r := h
    have : ps.foldl stepS [a] = (x :: r).reverse := by rw [← e, List.reverse_reverse]
    rw [this, List.reverse_cons, List.getLast?_append]; rfl
  exact inv ps [a] (by simp) (fun y hy => .inl (by have hy : some a = some y := hy; cases hy; rfl)) x hl
theorem pieces_nf {p q : Pat} (h : NF p) (a : q ∈ pieces p) : isRow q = false ∧ NF q ∧ (q = .none → p = .none) := by
  cases p with
  | row ps =>
    have := NFl_iff.mp h.2.2 q a
    unfold cR at this
    simp only [Bool.and_eq_true, Bool.not_eq_true', decide_eq_false_iff_not] at this
    exact ⟨this.1.1, this.2, fun e => absurd e this.1.2.1⟩
  | _ => rw [List.mem_singleton.mp a]; exact ⟨rfl, h, id⟩
theorem keptR_nf {ps : List Pat} (h : ∀ p ∈ ps, NF p) {q : Pat} (a : q ∈ keptR ps) : isRow q = false ∧ NF q ∧ q ≠ .empty := by
  obtain ⟨a1, a2⟩ := List.mem_filter.mp (short_mem a)
  obtain ⟨p, hp, b⟩ := spread_mem a1
  obtain ⟨b1, b2, _⟩ := pieces_nf (h p hp) b
  exact ⟨b1, b2, by simpa using a2⟩
theorem rowF_nf : ∀ (n : Nat) (ps : List Pat), (∀ p ∈ ps, NF p) → NF (rowF n ps)
  | 0, _, _ => trivial
  | n + 1, ps, h => by
    have hk := fun q a => keptR_nf (q := q) h a
    unfold rowF
    split
    · trivial
    · rename_i g
      generalize keptR ps = k at g hk
      split
      · rename_i fs rest
        refine either_nf fun q hq => ?_
        obtain ⟨f, hf, rfl⟩ := List.mem_map.mp hq
        refine rowF_nf n _ fun r hr => ?_
        rcases List.mem_cons.mp hr with e | hr
        · rw [e]; exact (NFl_iff.mp (hk _ List.mem_cons_self).2.1.2 f hf).2
        · exact (hk r (List.mem_cons_of_mem _ hr)).2.1
      · rename_i hno
        refine joined_nf trivial (fun p a => (hk p a).2.1) fun l => ⟨l, ?_, NFl_iff.mpr fun p a => ⟨?_, (hk p a).2.1⟩⟩
        · cases k with
          | nil => rfl
          | cons p r =>
            show isOr p = false
            cases p with
            | or fs => exact absurd rfl (hno fs r)
            | _ => rfl
        · unfold cR
          rw [(hk p a).1]
          have : p ≠ .none := fun e => g (e ▸ a)
          simp [this, (hk p a).2.2]
theorem rowOf_nf {ps : List Pat} (h : ∀ p ∈ ps, NF p) : NF (rowOf ps) := rowF_nf _ _ h
theorem spread_flat : ∀ {ps : List Pat}, (∀ p ∈ ps, isRow p = false) → spread pieces ps = ps
  | [], _ => rfl
  | p :: ps, h => by
    show pieces p ++ spread pieces ps = p :: ps
    rw [spread_flat fun q a => h q (List.mem_cons_of_mem _ a)]
    have := h p List.mem_cons_self
    cases p <;> first | rfl | cases this
theorem filter_all {ps : List Pat} (h : ∀ p ∈ ps, p ≠ .empty) : (ps.filter fun p => !decide (p = .empty)) = ps := List.filter_eq_self.mpr fun p a => by simp [h p a]
/-- as many turns as parts are enough -/
theorem rowK_nf : ∀ (n : Nat) (ps : List Pat), (∀ p ∈ ps, NF p) → (keptR ps).length < n → rowK n ps
  | 0, _, _, h => absurd h (Nat.not_lt_zero _)
  | n + 1, ps, h, hl => by
    intro fs rest e f hf
    have hk := fun q a => keptR_nf (q := q) h a
    rw [e] at hk hl
    have hrest : ∀ p ∈ rest, isRow p = false ∧ NF p ∧ p ≠ .empty := fun p a => hk p (List.mem_cons_of_mem _ a)
    have hor := NFl_iff.mp (hk _ List.mem_cons_self).2.1.2 f hf
    have hnf : ∀ p ∈ f :: rest, NF p := fun p a => (List.mem_cons.mp a).elim (fun e => e ▸ hor.2) fun a => (hrest p a).2.1
    have hl : rest.length + 1 < n + 1 := hl
    by_cases em : f = .empty
    · refine rowK_nf n _ hnf ?_
      subst em
      have e2 : keptR (.empty :: rest) = shortened rest := by
        unfold keptR
        show shortened (List.filter _ (Pat.empty :: spread pieces rest)) = _
        rw [spread_flat fun p a => (hrest p a).1, List.filter_cons_of_neg (by simp), filter_all fun p a => (hrest p a).2.2]
      rw [e2]
      have := short_len rest
      omega
    · -- the first one is no or, and no or comes first behind it
      cases n with
      | zero => omega
      | succ n =>
        intro fs' rest' e' f' hf'
        exfalso
        have first : ∃ a l, (spread pieces (f :: rest)).filter (fun p => !decide (p = .empty)) = a :: l ∧ isOr a = false := by
          have ho : isOr f = false := by
            have := hor.1
            unfold cO at this
            simp only [Bool.and_eq_true, Bool.not_eq_true'] at this
            exact this.1
          cases f with
          | row qs =>
            have hq := hor.2
            cases qs with
            | nil => exact absurd hq.1 (by decide)
            | cons q qs =>
              have hne : q ≠ .empty := by
                have := (NFl_iff.mp hq.2.2 q List.mem_cons_self).1
                unfold cR at this
                simp only [Bool.and_eq_true, Bool.not_eq_true', decide_eq_false_iff_not] at this
                exact this.2.2
              exact ⟨q, _, (show List.filter _ (q :: (qs ++ spread pieces rest)) = _ from List.filter_cons_of_pos (by simp [hne])), hq.2.1⟩
          | empty => exact absurd rfl em
          | _ => exact ⟨_, _, List.filter_cons_of_pos (by simp), ho⟩
        obtain ⟨a, l, e3, ha⟩ := first
        have e4 : shortened (a :: l) = .or fs' :: rest' := by rw [← e3]; exact e'
        rcases short_head e4 with h | h | h
        · rw [← h] at ha; cases ha
        · cases h
        · cases h
theorem rowOf_lg {ps : List Pat} (h : ∀ p ∈ ps, NF p) (w : List Nat) : Lg (rowOf ps) w ↔ LgR ps w := rowF_lg _ _ (rowK_nf _ _ h (Nat.lt_succ_self _)) w
/-! manys -/
mutual
theorem pk_nf : ∀ (p : Pat), NF p → ∀ q ∈ pk p, NF q
  | .none, _, _, a => by cases a
  | .empty, _, _, a => by cases a
  | .many p, h, q, a => pk_nf p h q a
  | .sign _, _, q, a => by rw [List.mem_singleton.mp a]; trivial
  | .and ps, h, q, a => by rw [List.mem_singleton.mp a]; exact h
  | .not p, h, q, a => by rw [List.mem_singleton.mp a]; exact h
  | .or ps, h, q, a => pks_nf ps (fun p b => (NFl_iff.mp h.2 p b).2) q a
  | .row ps, h, q, a => by
    rw [pk] at a
    split at a
    · exact pks_nf ps (fun p b => (NFl_iff.mp h.2.2 p b).2) q a
    · rw [List.mem_singleton.mp a]; exact h
theorem pks_nf : ∀ (ps : List Pat), (∀ p ∈ ps, NF p) → ∀ q ∈ pks ps, NF q
  | [], _, _, a => by cases a
  | p :: ps, h, q, a => by
    rcases List.mem_append.mp a with a | a
    · exact pk_nf p (h p List.mem_cons_self) q a
    · exact pks_nf ps (fun r b => h r (List.mem_cons_of_mem _ b)) q a
end
theorem stepM_mem {k : List Pat} {p q : Pat} (h : q ∈ stepM k p) : q ∈ k := by
  unfold stepM at h
  split at h
  · exact (List.mem_filter.mp h).1
  · exact h
theorem keptM_mem {p q : Pat} (h : q ∈ keptM p) : q ∈ pk p := by
  have : ∀ (ps k : List Pat), q ∈ ps.foldl stepM k → q ∈ k := by
    intro ps
    induction ps with
    | nil => exact fun k h => h
    | cons p ps ih => exact fun k h => stepM_mem (ih _ h)
  exact srt_mem.mp (this _ _ h)
theorem manyOf_nf {p : Pat} (h : NF p) : NF (manyOf p) := by
  have hi : NF (either (keptM p)) := either_nf fun q a => pk_nf p h q (keptM_mem a)
  unfold manyOf manyE
  split
  · trivial
  · split
    · exact nf_ALL
    · exact hi
mutual
theorem normal_nf : ∀ p : Pat, NF (normal p)
  | .none => trivial
  | .empty => trivial
  | .sign _ => trivial
  | .many p => manyOf_nf (normal_nf p)
  | .not p => negated_nf (normal_nf p)
  | .row ps => rowOf_nf (normals_nf ps)
  | .or ps => either_nf (normals_nf ps)
  | .and ps => both_nf (normals_nf ps)
theorem normals_nf : ∀ ps : List Pat, ∀ q ∈ normals ps, NF q
  | [], _, a => by cases a
  | p :: ps, q, a => (List.mem_cons.mp a).elim (fun e => e ▸ normal_nf p) (normals_nf ps q)
end
mutual
theorem normal_lg : ∀ (p : Pat) (w : List Nat), Lg (normal p) w ↔ Lg p w
  | .none, w => Iff.rfl
  | .empty, w => Iff.rfl
  | .sign _, w => Iff.rfl
  | .many p, w => (manyOf_lg _ w).trans ⟨fun h => h.mono fun u a => (normal_lg p u).mp a, fun h => h.mono fun u a => (normal_lg p u).mpr a⟩
  | .not p, w => (negated_lg _ w).trans (not_congr (normal_lg p w))
  | .row ps, w => (rowOf_lg (normals_nf ps) w).trans (normals_row ps w)
  | .or ps, w => (either_lg _ w).trans (LgO_iff.symm.trans (normals_or ps w))
  | .and ps, w => (both_lg _ w).trans (LgA_iff.symm.trans (normals_and ps w))
theorem normals_row : ∀ (ps : List Pat) (w : List Nat), LgR (normals ps) w ↔ LgR ps w
  | [], w => Iff.rfl
  | p :: ps, w => exists_congr fun u => exists_congr fun v => and_congr Iff.rfl (and_congr (normal_lg p u) (normals_row ps v))
theorem normals_or : ∀ (ps : List Pat) (w : List Nat), LgO (normals ps) w ↔ LgO ps w
  | [], w => Iff.rfl
  | p :: ps, w => or_congr (normal_lg p w) (normals_or ps w)
theorem normals_and : ∀ (ps : List Pat) (w : List Nat), LgA (normals ps) w ↔ LgA ps w
  | [], w => Iff.rfl
  | p :: ps, w => and_congr (normal_lg p w) (normals_and ps w)
end
/-! behind a sign -/
theorem NF.many {p : Pat} (h : NF (.many p)) : NF p := h
mutual
theorem behind_nf (s : Nat) : ∀ p : Pat, NF p → NF (behind s p)
  | .none, _ => trivial
  | .empty, _ => trivial
  | .sign c, _ => by rw [behind]; split <;> trivial
  | .many p, h => rowOf_nf fun q a => (List.mem_cons.mp a).elim (fun e => e ▸ behind_nf s p h) fun a => List.mem_singleton.mp a ▸ h
  | .not p, h => negated_nf (behind_nf s p h)
  | .row ps, h => either_nf (rowB_nf s ps fun p a => (NFl_iff.mp h.2.2 p a).2)
  | .or ps, h => either_nf (behinds_nf s ps fun p a => (NFl_iff.mp h.2 p a).2)
  | .and ps, h => both_nf (behinds_nf s ps fun p a => (NFl_iff.mp h.2 p a).2)
theorem behinds_nf (s : Nat) : ∀ ps : List Pat, (∀ p ∈ ps, NF p) → ∀ q ∈ behinds s ps, NF q
  | [], _, _, a => by cases a
  | p :: ps, h, q, a => (List.mem_cons.mp a).elim (fun e => e ▸ behind_nf s p (h p List.mem_cons_self)) (behinds_nf s ps (fun r b => h r (List.mem_cons_of_mem _ b)) q)
theorem rowB_nf (s : Nat) : ∀ ps : List Pat, (∀ p ∈ ps, NF p) → ∀ q ∈ rowB s ps, NF q
  | [], _, _, a => by cases a
  | p :: ps, h, q, a => by
    rw [rowB] at a
    rcases List.mem_cons.mp a with e | a
    · rw [e]
      exact rowOf_nf fun r b => (List.mem_cons.mp b).elim (fun e => e ▸ behind_nf s p (h p List.mem_cons_self)) fun b => h r (List.mem_cons_of_mem _ b)
    · split at a
      · exact rowB_nf s ps (fun r b => h r (List.mem_cons_of_mem _ b)) q a
      · cases a
end
theorem ks_cons {R : List Nat → Prop} {s : Nat} {w : List Nat} : KS R (s :: w) ↔ ∃ u v, w = u ++ v ∧ R (s :: u) ∧ KS R v := by
  constructor
  · intro h
    generalize e : s :: w = x at h
    induction h with
    | nil => cases e
    | @app u v a b ih =>
      cases u with
      | nil => exact ih e
      | cons c u =>
        obtain ⟨rfl, rfl⟩ := List.cons.inj e
        exact ⟨u, v, rfl, a, b⟩
  · rintro ⟨u, v, rfl, a, b⟩
    exact KS.app a b
mutual
theorem behind_lg (s : Nat) : ∀ (p : Pat), NF p → ∀ w : List Nat, Lg (behind s p) w ↔ Lg p (s :: w)
  | .none, _, w => Iff.rfl
  | .empty, _, w => ⟨fun h => h.elim, fun h => by cases h⟩
  | .sign c, _, w => by
    rw [behind]
    split
    · rename_i e
      subst e
      exact ⟨fun h => by rw [show w = [] from h]; exact rfl, fun h => (List.cons.inj h).2⟩
    · rename_i e
      exact ⟨fun h => h.elim, fun h => e (List.cons.inj h).1.symm⟩
  | .many p, h, w => by
    show Lg (rowOf [behind s p, .many p]) w ↔ _
    rw [rowOf_lg (fun q a => (List.mem_cons.mp a).elim (fun e => e ▸ behind_nf s p h) fun a => List.mem_singleton.mp a ▸ h)]
    show (∃ u v, w = u ++ v ∧ Lg (behind s p) u ∧ LgR [.many p] v) ↔ KS _ (s :: w)
    rw [ks_cons]
    exact exists_congr fun u => exists_congr fun v => and_congr Iff.rfl (and_congr (behind_lg s p h u) LgR_one)
  | .not p, h, w => (negated_lg _ w).trans (not_congr (behind_lg s p h w))
  | .row ps, h, w => (either_lg _ w).trans (rowB_lg s ps (fun p a => (NFl_iff.mp h.2.2 p a).2) w)
  | .or ps, h, w => (either_lg _ w).trans (LgO_iff.symm.trans (behinds_or s ps (fun p a => (NFl_iff.mp h.2 p a).2) w))
  | .and ps, h, w => (both_lg _ w).trans (LgA_iff.symm.trans (behinds_and s ps (fun p a => (NFl_iff.mp h.2 p a).2) w))
theorem behinds_or (s : Nat) : ∀ (ps : List Pat), (∀ p ∈ ps, NF p) → ∀ w : List Nat, LgO (behinds s ps) w ↔ LgO ps (s :: w)
  | [], _, w => Iff.rfl
  | p :: ps, h, w => or_congr (behind_lg s p (h p List.mem_cons_self) w) (behinds_or s ps (fun r b => h r (List.mem_cons_of_mem _ b)) w)
theorem behinds_and (s : Nat) : ∀ (ps : List Pat), (∀ p ∈ ps, NF p) → ∀ w : List Nat, LgA (behinds s ps) w ↔ LgA ps (s :: w)
  | [], _, w => Iff.rfl
  | p :: ps, h, w => and_congr (behind_lg s p (h p List.mem_cons_self) w) (behinds_and s ps (fun r b => h r (List.mem_cons_of_mem _ b)) w)
theorem rowB_lg (s : Nat) : ∀ (ps : List Pat), (∀ p ∈ ps, NF p) → ∀ w : List Nat, (∃ q ∈ rowB s ps, Lg q w) ↔ LgR ps (s :: w)
  | [], _, w => ⟨fun ⟨_, a, _⟩ => (by cases a), fun h => by cases h⟩
  | p :: ps, h, w => by
    have hp := h p List.mem_cons_self
    have hr : ∀ q ∈ ps, NF q := fun r b => h r (List.mem_cons_of_mem _ b)
    have first : Lg (rowOf (behind s p :: ps)) w ↔ ∃ u v, w = u ++ v ∧ Lg p (s :: u) ∧ LgR ps v := by
      rw [rowOf_lg (fun r b => (List.mem_cons.mp b).elim (fun e => e ▸ behind_nf s p hp) (hr r))]
      exact exists_congr fun u => exists_congr fun v => and_congr Iff.rfl (and_congr (behind_lg s p hp u) Iff.rfl)
    rw [rowB]
    constructor
    · rintro ⟨q, a, b⟩
      rcases List.mem_cons.mp a with e | a
      · subst e
        obtain ⟨u, v, rfl, c, d⟩ := first.mp b
        exact ⟨s :: u, v, rfl, c, d⟩
      · split at a
        · rename_i hn
          exact ⟨[], s :: w, rfl, (null_iff p).mp hn, (rowB_lg s ps hr w).mp ⟨q, a, b⟩⟩
        · cases a
    · rintro ⟨u, v, e, c, d⟩
      cases u with
      | nil =>
        have e : s :: w = v := e
        subst e
        obtain ⟨q, a, b⟩ := (rowB_lg s ps hr w).mpr d
        exact ⟨q, List.mem_cons_of_mem _ (by rw [if_pos ((null_iff p).mpr c)]; exact a), b⟩
      | cons x u =>
        obtain ⟨rfl, rfl⟩ := List.cons.inj e
        exact ⟨_, List.mem_cons_self, first.mpr ⟨u, v, rfl, c, d⟩⟩
end
theorem left_nf (p : Pat) (s : Nat) : NF (left p s) := behind_nf s _ (normal_nf p)
theorem left_lg (p : Pat) (s : Nat) (w : List Nat) : Lg (left p s) w ↔ Lg p (s :: w) := (behind_lg s _ (normal_nf p) w).trans (normal_lg p (s :: w))
end Bo
set_option Elab.async false
set_option linter.all false
set_option maxRecDepth 100000
/-! how deep the fixed forms are -/
namespace Bo
mutual
def dp : Pat → Nat
  | .row ps => dpL ps + 1
  | .or ps => dpL ps
  | .and ps => dpL ps + 1
  | .many p => dp p + 1
  | .not p => dp p + 1
  | _ => 0
def dpL : List Pat → Nat
  | [] => 0
  | p :: ps => max (dp p) (dpL ps)
end
theorem dpL_le : ∀ {ps : List Pat} {n : Nat}, dpL ps ≤ n ↔ ∀ p ∈ ps, dp p ≤ n
  | [], n => ⟨fun _ _ h => (by cases h), fun _ => Nat.zero_le _⟩
  | p :: ps, n => by
    rw [dpL, Nat.max_le, dpL_le]
    exact ⟨fun h q a => (List.mem_cons.mp a).elim (fun e => e ▸ h.1) (h.2 q), fun h => ⟨h p List.mem_cons_self, fun q a => h q (List.mem_cons_of_mem _ a)⟩⟩
theorem dp_mem {ps : List Pat} {p : Pat} (h : p ∈ ps) : dp p ≤ dpL ps := dpL_le.mp (Nat.le_refl _) p h
theorem joined_dp {mk : List Pat → Pat} {k : List Pat} {z : Pat} {n : Nat} (h0 : dp z ≤ n) (h1 : ∀ p ∈ k, dp p ≤ n) (h2 : dp (mk k) ≤ n) : dp (joined mk k z) ≤ n := by
  match k, h1, h2 with
  | [], _, _ => exact h0
  | [p], h1, _ => exact h1 p (List.mem_singleton.mpr rfl)
  | p :: q :: r, _, h2 => exact h2
theorem partsO_dp {p q : Pat} (a : q ∈ partsO p) : dp q ≤ dp p := by
  cases p with
  | or ps => exact dp_mem a
  | _ => rw [List.mem_singleton.mp a]; exact Nat.le_refl _
theorem partsA_dp {p q : Pat} (a : q ∈ partsA p) : dp q ≤ dp p := by
  cases p with
  | and ps => exact Nat.le_succ_of_le (dp_mem a)
  | _ => rw [List.mem_singleton.mp a]; exact Nat.le_refl _
theorem pieces_dp {p q : Pat} (a : q ∈ pieces p) : dp q ≤ dp p := by
  cases p with
  | row ps => exact Nat.le_succ_of_le (dp_mem a)
  | _ => rw [List.mem_singleton.mp a]; exact Nat.le_refl _
theorem keptO_dp {ps : List Pat} {q : Pat} (a : q ∈ keptO ps) : dp q ≤ dpL ps := let ⟨_, hp, b⟩ := spread_mem (needed_mem a); Nat.le_trans (partsO_dp b) (dp_mem hp)
theorem keptA_dp {ps : List Pat} {q : Pat} (a : q ∈ keptA ps) : dp q ≤ dpL ps := let ⟨_, hp, b⟩ := spread_mem (needed_mem a); Nat.le_trans (partsA_dp b) (dp_mem hp)
theorem keptR_dp {ps : List Pat} {q : Pat} (a : q ∈ keptR ps) : dp q ≤ dpL ps := let ⟨_, hp, b⟩ := spread_mem (List.mem_filter.mp (short_mem a)).1; Nat.le_trans (pieces_dp b) (dp_mem hp)
theorem either_dp (ps : List Pat) : dp (either ps) ≤ dpL ps := by
  unfold either
  split
  · rename_i h
    unfold allO at h
    obtain ⟨p, hp, h⟩ := List.any_eq_true.mp h
    have := keptO_dp hp
    cases p with
    | not x => exact Nat.le_trans (Nat.le_add_left 1 (dp x)) this
    | _ => cases h
  · exact joined_dp (Nat.zero_le _) (fun p a => keptO_dp a) (dpL_le.mpr fun p a => keptO_dp a)
theorem both_dp (ps : List Pat) : dp (both ps) ≤ dpL ps + 1 := by
  unfold both
  split
  · exact Nat.zero_le _
  · split
    · exact Nat.zero_le _
    · exact joined_dp (Nat.le_add_left 1 _) (fun p a => Nat.le_succ_of_le (keptA_dp a)) (Nat.succ_le_succ (dpL_le.mpr fun p a => keptA_dp a))
theorem negated_dp (p : Pat) : dp (negated p) ≤ dp p + 1 := by
  cases p with
  | not x => show dp x ≤ dp x + 1 + 1; omega
  | _ => exact Nat.le_refl _
theorem rowF_dp : ∀ (n : Nat) (ps : List Pat), dp (rowF n ps) ≤ dpL ps + 1
  | 0, _ => Nat.zero_le _
  | n + 1, ps => by
    have hk := fun q a => keptR_dp (ps := ps) (q := q) a
    unfold rowF
    split
    · exact Nat.zero_le _
    · generalize keptR ps = k at hk
      split
      · rename_i fs rest
        refine Nat.le_trans (either_dp _) (dpL_le.mpr fun q hq => ?_)
        obtain ⟨f, hf, rfl⟩ := List.mem_map.mp hq
        refine Nat.le_trans (rowF_dp n _) (Nat.succ_le_succ (dpL_le.mpr fun r hr => ?_))
        rcases List.mem_cons.mp hr with e | hr
        · rw [e]; exact Nat.le_trans (dp_mem hf) (hk _ List.mem_cons_self)
        · exact hk r (List.mem_cons_of_mem _ hr)
      · exact joined_dp (Nat.zero_le _) (fun p a => Nat.le_succ_of_le (hk p a)) (Nat.succ_le_succ (dpL_le.mpr hk))
theorem rowOf_dp (ps : List Pat) : dp (rowOf ps) ≤ dpL ps + 1 := rowF_dp _ _
mutual
theorem pk_dp : ∀ (p q : Pat), q ∈ pk p → dp q ≤ dp p
  | .none, _, a => by cases a
  | .empty, _, a => by cases a
  | .many p, q, a => Nat.le_succ_of_le (pk_dp p q a)
  | .sign _, q, a => by rw [List.mem_singleton.mp a]; exact Nat.le_refl _
  | .and ps, q, a => by rw [List.mem_singleton.mp a]; exact Nat.le_refl _
  | .not p, q, a => by rw [List.mem_singleton.mp a]; exact Nat.le_refl _
  | .or ps, q, a => pks_dp ps q a
  | .row ps, q, a => by
    rw [pk] at a
    split at a
    · exact Nat.le_succ_of_le (pks_dp ps q a)
    · rw [List.mem_singleton.mp a]; exact Nat.le_refl _
theorem pks_dp : ∀ (ps : List Pat) (q : Pat), q ∈ pks ps → dp q ≤ dpL ps
  | [], _, a => by cases a
  | p :: ps, q, a => by
    rw [dpL]
    rcases List.mem_append.mp a with a | a
    · have := pk_dp p q a; omega
    · have := pks_dp ps q a; omega
end
theorem manyE_dp {i : Pat} {n : Nat} (h : dp i ≤ n) : dp (manyE i) ≤ n + 1 := by
  unfold manyE
  split
  · exact Nat.zero_le _
  · split
    · exact Nat.le_add_left 1 n
    · exact Nat.succ_le_succ h
theorem manyOf_dp (p : Pat) : dp (manyOf p) ≤ dp p + 1 := manyE_dp (Nat.le_trans (either_dp _) (dpL_le.mpr fun q a => pk_dp p q (keptM_mem a)))
mutual
theorem normal_dp : ∀ p : Pat, dp (normal p) ≤ dp p
  | .none => Nat.le_refl _
  | .empty => Nat.le_refl _
  | .sign _ => Nat.le_refl _
  | .many p => Nat.le_trans (manyOf_dp _) (Nat.succ_le_succ (normal_dp p))
  | .not p => Nat.le_trans (negated_dp _) (Nat.succ_le_succ (normal_dp p))
  | .row ps => Nat.le_trans (rowOf_dp _) (Nat.succ_le_succ (normals_dp ps))
  | .or ps => Nat.le_trans (either_dp _) (normals_dp ps)
  | .and ps => Nat.le_trans (both_dp _) (Nat.succ_le_succ (normals_dp ps))
theorem normals_dp : ∀ ps : List Pat, dpL (normals ps) ≤ dpL ps
  | [] => Nat.le_refl _
  | p :: ps => by rw [normals, dpL, dpL]; have := normal_dp p; have := normals_dp ps; omega
end
mutual
theorem behind_dp (s : Nat) : ∀ p : Pat, dp (behind s p) ≤ dp p + 1
  | .none => Nat.zero_le _
  | .empty => Nat.zero_le _
  | .sign c => by rw [behind]; split <;> exact Nat.zero_le _
  | .many p => Nat.le_trans (rowOf_dp _) (Nat.succ_le_succ (by rw [dpL, dpL, dpL]; have := behind_dp s p; show max (dp (behind s p)) (max (dp p + 1) 0) ≤ dp p + 1; omega))
  | .not p => Nat.le_trans (negated_dp _) (Nat.succ_le_succ (behind_dp s p))
  | .row ps => Nat.le_trans (either_dp _) (rowB_dp s ps)
  | .or ps => Nat.le_trans (either_dp _) (behinds_dp s ps)
  | .and ps => Nat.le_trans (both_dp _) (Nat.succ_le_succ (behinds_dp s ps))
theorem behinds_dp (s : Nat) : ∀ ps : List Pat, dpL (behinds s ps) ≤ dpL ps + 1
  | [] => Nat.zero_le _
  | p :: ps => by rw [behinds, dpL, dpL]; have := behind_dp s p; have := behinds_dp s ps; omega
theorem rowB_dp (s : Nat) : ∀ ps : List Pat, dpL (rowB s ps) ≤ dpL ps + 1 + 1
  | [] => Nat.zero_le _
  | p :: ps => by
    rw [rowB, dpL, dpL]
    have h1 := rowOf_dp (behind s p :: ps)
    rw [dpL] at h1
    have := behind_dp s p
    have h2 : dpL (if nullb p = true then rowB s ps else []) ≤ dpL ps + 1 + 1 := by
      split
      · exact rowB_dp s ps
      · exact Nat.zero_le _
    omega
end
theorem left_dp (p : Pat) (s : Nat) : dp (left p s) ≤ dp p + 1 := Nat.le_trans (behind_dp s _) (Nat.succ_le_succ (normal_dp p))
mutual
theorem dp_size : ∀ p : Pat, dp p ≤ p.size
  | .none => Nat.zero_le _
  | .empty => Nat.zero_le _
  | .sign _ => Nat.zero_le _
  | .many p => Nat.succ_le_succ (dp_size p)
  | .not p => Nat.succ_le_succ (dp_size p)
  | .row ps => Nat.succ_le_succ (dpL_size ps)
  | .or ps => Nat.le_succ_of_le (dpL_size ps)
  | .and ps => Nat.succ_le_succ (dpL_size ps)
theorem dpL_size : ∀ ps : List Pat, dpL ps ≤ sizeL ps
  | [] => Nat.le_refl _
  | p :: ps => by
    rw [dpL, sizeL]
    have := dp_size p
    have := dpL_size ps
    omega
end
mutual
/-- in the fixed form no or stands right within an or -/
theorem nf_dep : ∀ p : Pat, NF p → p.dep ≤ 2 * dp p + (if isOr p = true then 2 else 1)
  | .none, _ => Nat.le_refl _
  | .empty, _ => Nat.le_refl _
  | .sign _, _ => Nat.le_refl _
  | .many p, h => by
    have := nf_dep p h
    show p.dep + 1 ≤ 2 * (dp p + 1) + 1
    split at this <;> omega
  | .not p, h => by
    have := nf_dep p h
    show p.dep + 1 ≤ 2 * (dp p + 1) + 1
    split at this <;> omega
  | .row ps, h => by
    have := nf_depL cR ps h.2.2
    show depL ps + 1 ≤ 2 * (dpL ps + 1) + 1
    omega
  | .and ps, h => by
    have := nf_depL cA ps h.2
    show depL ps + 1 ≤ 2 * (dpL ps + 1) + 1
    omega
  | .or ps, h => by
    have := nf_depO ps h.2
    show depL ps + 1 ≤ 2 * dpL ps + 2
    omega
theorem nf_depL (c : Pat → Bool) : ∀ ps : List Pat, NFl c ps → depL ps ≤ 2 * dpL ps + 2
  | [], _ => Nat.zero_le _
  | p :: ps, h => by
    have h1 := nf_dep p h.2.1
    have h2 := nf_depL c ps h.2.2
    rw [depL, dpL]
    split at h1 <;> omega
theorem nf_depO : ∀ ps : List Pat, NFl cO ps → depL ps ≤ 2 * dpL ps + 1
  | [], _ => Nat.zero_le _
  | p :: ps, h => by
    have h1 := nf_dep p h.2.1
    have h2 := nf_depO ps h.2.2
    have h3 : isOr p = false := by
      have := h.1
      unfold cO at this
      simp only [Bool.and_eq_true, Bool.not_eq_true'] at this
      exact this.1
    rw [depL, dpL]
    rw [h3] at h1
    have h1 : p.dep ≤ 2 * dp p + 1 := h1
    omega
end
theorem nf_dep2 {p : Pat} (h : NF p) : p.dep ≤ 2 * dp p + 2 := by
  have := nf_dep p h
  split at this <;> omega
end Bo
set_option Elab.async false
set_option linter.all false
set_option maxRecDepth 100000
/-! how many branches the fixed forms have: x now, y behind a sign, z behind two -/
namespace Bo
structure Wt where
  x : Nat
  y : Nat
  z : Nat
namespace Wt
def zero : Wt := ⟨0, 0, 0⟩
def one : Wt := ⟨1, 0, 0⟩
def u : Wt := ⟨1, 1, 1⟩
def add (a b : Wt) : Wt := ⟨a.x + b.x, a.y + b.y, a.z + b.z⟩
def mul (a b : Wt) : Wt := ⟨a.x * b.x, a.y * b.x + a.x * b.y, a.z * b.x + 2 * (a.y * b.y) + a.x * b.z⟩
def mu (a : Wt) : Wt := ⟨1, a.y, a.z + a.y * a.y⟩
structure Le (a b : Wt) : Prop where
  x : a.x ≤ b.x
  y : a.y ≤ b.y
  z : a.z ≤ b.z
theorem Le.rfl {a : Wt} : Le a a := ⟨Nat.le_refl _, Nat.le_refl _, Nat.le_refl _⟩
theorem Le.trans {a b c : Wt} (h : Le a b) (g : Le b c) : Le a c := ⟨Nat.le_trans h.x g.x, Nat.le_trans h.y g.y, Nat.le_trans h.z g.z⟩
theorem Le.of_eq {a b : Wt} (h : a = b) : Le a b := h ▸ .rfl
theorem zero_le (a : Wt) : Le zero a := ⟨Nat.zero_le _, Nat.zero_le _, Nat.zero_le _⟩
theorem ext {a b : Wt} (h1 : a.x = b.x) (h2 : a.y = b.y) (h3 : a.z = b.z) : a = b := by cases a; cases b; congr
theorem add_le {a b c d : Wt} (h : Le a c) (g : Le b d) : Le (add a b) (add c d) := ⟨Nat.add_le_add h.x g.x, Nat.add_le_add h.y g.y, Nat.add_le_add h.z g.z⟩
theorem mul_le {a b c d : Wt} (h : Le a c) (g : Le b d) : Le (mul a b) (mul c d) :=
  ⟨Nat.mul_le_mul h.x g.x, Nat.add_le_add (Nat.mul_le_mul h.y g.x) (Nat.mul_le_mul h.x g.y), Nat.add_le_add (Nat.add_le_add (Nat.mul_le_mul h.z g.x) (Nat.mul_le_mul_left _ (Nat.mul_le_mul h.y g.y))) (Nat.mul_le_mul h.x g.z)⟩
theorem mu_le {a b : Wt} (h : Le a b) : Le (mu a) (mu b) := ⟨Nat.le_refl _, h.y, Nat.add_le_add h.z (Nat.mul_le_mul h.y h.y)⟩
theorem le_addL (a b : Wt) : Le a (add a b) := ⟨Nat.le_add_right _ _, Nat.le_add_right _ _, Nat.le_add_right _ _⟩
theorem le_addR (a b : Wt) : Le b (add a b) := ⟨Nat.le_add_left _ _, Nat.le_add_left _ _, Nat.le_add_left _ _⟩
theorem add_assoc (a b c : Wt) : add (add a b) c = add a (add b c) := ext (Nat.add_assoc _ _ _) (Nat.add_assoc _ _ _) (Nat.add_assoc _ _ _)
theorem add_comm (a b : Wt) : add a b = add b a := ext (Nat.add_comm _ _) (Nat.add_comm _ _) (Nat.add_comm _ _)
theorem zero_add (a : Wt) : add zero a = a := ext (Nat.zero_add _) (Nat.zero_add _) (Nat.zero_add _)
theorem add_zero (a : Wt) : add a zero = a := rfl
theorem one_mul (a : Wt) : mul one a = a := ext (by simp [mul, one]) (by simp [mul, one]) (by simp [mul, one])
theorem mul_one (a : Wt) : mul a one = a := ext (by simp [mul, one]) (by simp [mul, one]) (by simp [mul, one])
theorem zero_mul (a : Wt) : mul zero a = zero := ext (by simp [mul, zero]) (by simp [mul, zero]) (by simp [mul, zero])
theorem mul_zero (a : Wt) : mul a zero = zero := ext (by simp [mul, zero]) (by simp [mul, zero]) (by simp [mul, zero])
theorem add_mul (a b c : Wt) : mul (add a b) c = add (mul a c) (mul b c) := by
  refine ext ?_ ?_ ?_
  · exact Nat.add_mul _ _ _
  · show (a.y + b.y) * c.x + (a.x + b.x) * c.y = a.y * c.x + a.x * c.y + (b.y * c.x + b.x * c.y)
    rw [Nat.add_mul, Nat.add_mul]; omega
  · show (a.z + b.z) * c.x + 2 * ((a.y + b.y) * c.y) + (a.x + b.x) * c.z = a.z * c.x + 2 * (a.y * c.y) + a.x * c.z + (b.z * c.x + 2 * (b.y * c.y) + b.x * c.z)
    rw [Nat.add_mul, Nat.add_mul, Nat.add_mul]; omega
theorem mul_assoc (a b c : Wt) : mul (mul a b) c = mul a (mul b c) := by
  refine ext (Nat.mul_assoc _ _ _) ?_ ?_
  · show (a.y * b.x + a.x * b.y) * c.x + a.x * b.x * c.y = a.y * (b.x * c.x) + a.x * (b.y * c.x + b.x * c.y)
    rw [Nat.add_mul, Nat.mul_add, Nat.mul_assoc, Nat.mul_assoc, Nat.mul_assoc]; omega
  · show (a.z * b.x + 2 * (a.y * b.y) + a.x * b.z) * c.x + 2 * ((a.y * b.x + a.x * b.y) * c.y) + a.x * b.x * c.z = a.z * (b.x * c.x) + 2 * (a.y * (b.y * c.x + b.x * c.y)) + a.x * (b.z * c.x + 2 * (b.y * c.y) + b.x * c.z)
    simp only [Nat.add_mul, Nat.mul_add, Nat.mul_assoc]
    have e1 : a.x * (2 * (b.y * c.y)) = 2 * (a.x * (b.y * c.y)) := by rw [← Nat.mul_assoc, Nat.mul_comm a.x 2, Nat.mul_assoc]
    rw [e1]; omega
/-- of what has a branch at least, a product is no less than what stands beside it -/
theorem le_mulR {a b : Wt} (h : 1 ≤ a.x) : Le b (mul a b) := ⟨Nat.le_mul_of_pos_left _ h, Nat.le_trans (Nat.le_mul_of_pos_left _ h) (Nat.le_add_left _ _), Nat.le_trans (Nat.le_mul_of_pos_left _ h) (Nat.le_add_left _ _)⟩
end Wt
open Wt
mutual
def wt : Pat → Wt
  | .none => zero
  | .empty => one
  | .sign _ => ⟨1, 1, 0⟩
  | .row ps => wtP ps
  | .or ps => wtS ps
  | .and ps => add u (wtS ps)
  | .many p => mu (wt p)
  | .not p => add u (wt p)
def wtS : List Pat → Wt
  | [] => zero
  | p :: ps => add (wt p) (wtS ps)
def wtP : List Pat → Wt
  | [] => one
  | p :: ps => mul (wt p) (wtP ps)
end
theorem wtS_app : ∀ a b : List Pat, wtS (a ++ b) = add (wtS a) (wtS b)
  | [], b => (zero_add _).symm
  | p :: a, b => by show add (wt p) (wtS (a ++ b)) = add (add (wt p) (wtS a)) (wtS b); rw [wtS_app a b, Wt.add_assoc]
theorem wtP_app : ∀ a b : List Pat, wtP (a ++ b) = mul (wtP a) (wtP b)
  | [], b => (one_mul _).symm
  | p :: a, b => by show mul (wt p) (wtP (a ++ b)) = mul (mul (wt p) (wtP a)) (wtP b); rw [wtP_app a b, Wt.mul_assoc]
theorem wtS_perm {a b : List Pat} (h : a.Perm b) : wtS a = wtS b := by
  induction h with
  | nil => rfl
  | cons p _ ih => show add (wt p) _ = add (wt p) _; rw [ih]
  | swap p q l => show add (wt q) (add (wt p) _) = add (wt p) (add (wt q) _); rw [← Wt.add_assoc, Wt.add_comm (wt q), Wt.add_assoc]
  | trans _ _ h1 h2 => exact h1.trans h2
theorem wtS_sub {a b : List Pat} (h : a.Sublist b) : Le (wtS a) (wtS b) := by
  induction h with
  | slnil => exact .rfl
  | cons p _ ih => exact ih.trans (le_addR _ _)
  | cons_cons p _ ih => exact add_le .rfl ih
theorem wtS_mem {p : Pat} {ps : List Pat} (h : p ∈ ps) : Le (wt p) (wtS ps) := by
  have := wtS_sub (List.singleton_sublist.mpr h)
  exact Le.trans (le_addL (wt p) zero) this
/-! what is needed is no more -/
theorem step_wt (idle : Pat → Pat → Bool) (k : List Pat) (p : Pat) : Le (wtS (step idle k p)) (add (wtS k) (wt p)) := by
  unfold step
  split
  · exact le_addL _ _
  · rw [wtS_app]
    exact add_le (wtS_sub List.filter_sublist) (Le.of_eq (Wt.add_zero _))
theorem needed_wt (idle : Pat → Pat → Bool) (ps : List Pat) : Le (wtS (needed idle ps)) (wtS ps) := by
  have : ∀ (ps k : List Pat), Le (wtS (ps.foldl (step idle) k)) (add (wtS k) (wtS ps)) := by
    intro ps
    induction ps with
    | nil => exact fun k => le_addL _ _
    | cons p ps ih =>
      intro k
      refine (ih _).trans ?_
      show Le _ (add (wtS k) (add (wt p) (wtS ps)))
      rw [← Wt.add_assoc]
      exact add_le (step_wt idle k p) .rfl
  refine (this (srt ps) []).trans ?_
  rw [wtS_perm (srt_perm ps)]
  exact Le.of_eq (zero_add _)
theorem spreadO_wt : ∀ ps : List Pat, wtS (spread partsO ps) = wtS ps
  | [] => rfl
  | p :: ps => by
    show wtS (partsO p ++ spread partsO ps) = add (wt p) (wtS ps)
    rw [wtS_app, spreadO_wt ps]
    congr 1
    cases p <;> first | rfl | exact Wt.add_zero _
theorem spreadA_wt : ∀ ps : List Pat, Le (wtS (spread partsA ps)) (wtS ps)
  | [] => .rfl
  | p :: ps => by
    show Le (wtS (partsA p ++ spread partsA ps)) (add (wt p) (wtS ps))
    rw [wtS_app]
    refine add_le ?_ (spreadA_wt ps)
    cases p <;> first | exact le_addR _ _ | exact Le.of_eq (Wt.add_zero _)
theorem spreadR_wt : ∀ ps : List Pat, wtP (spread pieces ps) = wtP ps
  | [] => rfl
  | p :: ps => by
    show wtP (pieces p ++ spread pieces ps) = mul (wt p) (wtP ps)
    rw [wtP_app, spreadR_wt ps]
    congr 1
    cases p <;> first | rfl | exact Wt.mul_one _
theorem joined_wt {mk : List Pat → Pat} {k : List Pat} {z : Pat} {m : Wt} (h0 : k = [] → Le (wt z) m) (h1 : ∀ p, k = [p] → Le (wt p) m) (h2 : Le (wt (mk k)) m) : Le (wt (joined mk k z)) m := by
  match k, h0, h1, h2 with
  | [], h0, _, _ => exact h0 rfl
  | [p], _, h1, _ => exact h1 p rfl
  | p :: q :: r, _, _, h2 => exact h2
theorem keptO_wt (ps : List Pat) : Le (wtS (keptO ps)) (wtS ps) := (needed_wt _ _).trans (Le.of_eq (spreadO_wt ps))
theorem keptA_wt (ps : List Pat) : Le (wtS (keptA ps)) (wtS ps) := (needed_wt _ _).trans (spreadA_wt ps)
theorem either_wt (ps : List Pat) : Le (wt (either ps)) (wtS ps) := by
  refine Le.trans ?_ (keptO_wt ps)
  unfold either
  split
  · rename_i h
    unfold allO at h
    obtain ⟨p, hp, h⟩ := List.any_eq_true.mp h
    cases p with
    | not x => exact Le.trans (add_le .rfl (Wt.zero_le _)) (wtS_mem hp)
    | _ => cases h
  · exact joined_wt (fun _ => Wt.zero_le _) (fun p e => by rw [e]; exact le_addL _ _) .rfl
theorem both_wt (ps : List Pat) : Le (wt (both ps)) (add u (wtS ps)) := by
  refine Le.trans ?_ (add_le .rfl (keptA_wt ps))
  unfold both
  split
  · exact Wt.zero_le _
  · split
    · exact Wt.zero_le _
    · exact joined_wt (fun _ => add_le .rfl (Wt.zero_le _)) (fun p e => by rw [e]; exact Le.trans (le_addL (wt p) zero) (le_addR _ _)) .rfl
theorem negated_wt (p : Pat) : Le (wt (negated p)) (add u (wt p)) := by
  cases p with
  | not x => exact (le_addR _ _).trans (le_addR _ _)
  | _ => exact .rfl
/-! rows -/
mutual
theorem null_x : ∀ p : Pat, nullb p = true → 1 ≤ (wt p).x
  | .none, h => by cases h
  | .empty, _ => Nat.le_refl _
  | .sign _, h => by cases h
  | .many _, _ => Nat.le_refl _
  | .not p, _ => Nat.le_add_right _ _
  | .and ps, _ => Nat.le_add_right _ _
  | .row ps, h => nullP_x ps h
  | .or ps, h => nullS_x ps h
theorem nullP_x : ∀ ps : List Pat, nullAll ps = true → 1 ≤ (wtP ps).x
  | [], _ => Nat.le_refl _
  | p :: ps, h => by
    rw [nullAll, Bool.and_eq_true] at h
    exact Nat.mul_pos (null_x p h.1) (nullP_x ps h.2)
theorem nullS_x : ∀ ps : List Pat, nullAny ps = true → 1 ≤ (wtS ps).x
  | [], h => by cases h
  | p :: ps, h => by
    rw [nullAny, Bool.or_eq_true] at h
    rcases h with h | h
    · exact Nat.le_trans (null_x p h) (Nat.le_add_right _ _)
    · exact Nat.le_trans (nullS_x ps h) (Nat.le_add_left _ _)
end
theorem along_null {g p : Pat} (h : along g p = true) : nullb p = true := by
  unfold along at h
  simp only [Bool.and_eq_true] at h
  exact h.2.1
theorem popW_wt (p : Pat) : ∀ st : List Pat, Le (wtP (popW p st).reverse) (wtP st.reverse)
  | [] => .rfl
  | t :: st => by
    rw [popW]
    split
    · rename_i h
      refine (popW_wt p st).trans ?_
      rw [List.reverse_cons, wtP_app]
      have h1 := null_x t (along_null h)
      have e : wtP [t] = wt t := Wt.mul_one _
      rw [e]
      exact ⟨Nat.le_mul_of_pos_right _ h1, Nat.le_trans (Nat.le_mul_of_pos_right _ h1) (Nat.le_add_right _ _), Nat.le_trans (Nat.le_mul_of_pos_right _ h1) (Nat.le_trans (Nat.le_add_right _ _) (Nat.le_add_right _ _))⟩
    · exact .rfl
theorem le_mulL {a b : Wt} (h1 : 1 ≤ b.x) : Le a (mul a b) := ⟨Nat.le_mul_of_pos_right _ h1, Nat.le_trans (Nat.le_mul_of_pos_right _ h1) (Nat.le_add_right _ _), Nat.le_trans (Nat.le_mul_of_pos_right _ h1) (Nat.le_trans (Nat.le_add_right _ _) (Nat.le_add_right _ _))⟩
theorem stepS_wt (st : List Pat) (p : Pat) : Le (wtP (stepS st p).reverse) (mul (wtP st.reverse) (wt p)) := by
  cases st with
  | nil => exact Le.of_eq (by show mul (wt p) one = mul one (wt p); rw [Wt.mul_one, Wt.one_mul])
  | cons t st =>
    unfold stepS
    simp only []
    split
    · rename_i h
      exact le_mulL (null_x p (along_null h))
    · rw [List.reverse_cons, wtP_app, show wtP [p] = wt p from Wt.mul_one _]
      exact mul_le (popW_wt p (t :: st)) .rfl
theorem short_wt (ps : List Pat) : Le (wtP (shortened ps)) (wtP ps) := by
  have : ∀ (ps st : List Pat), Le (wtP (ps.foldl stepS st).reverse) (mul (wtP st.reverse) (wtP ps)) := by
    intro ps
    induction ps with
    | nil => exact fun st => Le.of_eq (Wt.mul_one _).symm
    | cons p ps ih =>
      intro st
      refine (ih _).trans ?_
      show Le _ (mul (wtP st.reverse) (mul (wt p) (wtP ps)))
      rw [← Wt.mul_assoc]
      exact mul_le (stepS_wt st p) .rfl
  exact (this ps []).trans (Le.of_eq (Wt.one_mul _))
theorem filter_wt : ∀ ps : List Pat, wtP (ps.filter fun p => !decide (p = .empty)) = wtP ps
  | [] => rfl
  | p :: ps => by
    by_cases e : p = .empty
    · subst e
      rw [List.filter_cons_of_neg (by simp), filter_wt ps]
      exact (Wt.one_mul _).symm
    · rw [List.filter_cons_of_pos (by simp [e])]
      show mul (wt p) _ = mul (wt p) _
      rw [filter_wt ps]
theorem keptR_wt (ps : List Pat) : Le (wtP (keptR ps)) (wtP ps) := (short_wt _).trans (Le.of_eq ((filter_wt _).trans (spreadR_wt ps)))
theorem rowF_wt : ∀ (n : Nat) (ps : List Pat), Le (wt (rowF n ps)) (wtP ps)
  | 0, _ => Wt.zero_le _
  | n + 1, ps => by
    refine Le.trans ?_ (keptR_wt ps)
    unfold rowF
    split
    · exact Wt.zero_le _
    · generalize keptR ps = k
      split
      · rename_i fs rest
        refine (either_wt _).trans ?_
        show Le _ (mul (wtS fs) (wtP rest))
        induction fs with
        | nil => exact Wt.zero_le _
        | cons f fs ih =>
          show Le (add (wt (rowF n (f :: rest))) _) (mul (add (wt f) (wtS fs)) (wtP rest))
          rw [Wt.add_mul]
          exact add_le (rowF_wt n _) ih
      · exact joined_wt (fun e => by rw [e]; exact .rfl) (fun p e => by rw [e]; exact Le.of_eq (Wt.mul_one _).symm) .rfl
theorem rowOf_wt (ps : List Pat) : Le (wt (rowOf ps)) (wtP ps) := rowF_wt _ _
/-! manys: y and z alone -/
structure Le2 (a b : Wt) : Prop where
  y : a.y ≤ b.y
  z : a.z ≤ b.z
theorem Wt.Le.le2 {a b : Wt} (h : Le a b) : Le2 a b := ⟨h.y, h.z⟩
theorem Le2.trans {a b c : Wt} (h : Le2 a b) (g : Le2 b c) : Le2 a c := ⟨Nat.le_trans h.y g.y, Nat.le_trans h.z g.z⟩
theorem Le2.add {a b c d : Wt} (h : Le2 a c) (g : Le2 b d) : Le2 (Wt.add a b) (Wt.add c d) := ⟨Nat.add_le_add h.y g.y, Nat.add_le_add h.z g.z⟩
theorem sum_prod {a b : Wt} (h : 1 ≤ a.x) (g : 1 ≤ b.x) : Le2 (Wt.add a b) (mul a b) :=
  ⟨Nat.add_le_add (Nat.le_mul_of_pos_right _ g) (Nat.le_mul_of_pos_left _ h), Nat.add_le_add (Nat.le_trans (Nat.le_mul_of_pos_right _ g) (Nat.le_add_right _ _)) (Nat.le_mul_of_pos_left _ h)⟩
theorem row_sum : ∀ ps : List Pat, nullAll ps = true → Le2 (wtS ps) (wtP ps)
  | [], _ => ⟨Nat.le_refl _, Nat.le_refl _⟩
  | p :: ps, h => by
    rw [nullAll, Bool.and_eq_true] at h
    refine (Le2.add (Le.rfl (a := wt p)).le2 (row_sum ps h.2)).trans ?_
    exact sum_prod (null_x p h.1) (nullP_x ps h.2)
mutual
theorem pk_wt : ∀ p : Pat, Le2 (wtS (pk p)) (wt p)
  | .none => ⟨Nat.le_refl _, Nat.le_refl _⟩
  | .empty => ⟨Nat.le_refl _, Nat.le_refl _⟩
  | .many p => ⟨(pk_wt p).y, Nat.le_trans (pk_wt p).z (Nat.le_add_right _ _)⟩
  | .sign _ => (Le.of_eq (Wt.add_zero _)).le2
  | .and ps => (Le.of_eq (Wt.add_zero _)).le2
  | .not p => (Le.of_eq (Wt.add_zero _)).le2
  | .or ps => pks_wt ps
  | .row ps => by
    rw [pk]
    split
    · rename_i h
      exact (pks_wt ps).trans (row_sum ps h)
    · exact (Le.of_eq (Wt.add_zero _)).le2
theorem pks_wt : ∀ ps : List Pat, Le2 (wtS (pks ps)) (wtS ps)
  | [] => ⟨Nat.le_refl _, Nat.le_refl _⟩
  | p :: ps => by
    show Le2 (wtS (pk p ++ pks ps)) (Wt.add (wt p) (wtS ps))
    rw [wtS_app]
    exact (pk_wt p).add (pks_wt ps)
end
theorem stepM_sub (k : List Pat) (p : Pat) : (stepM k p).Sublist k := by
  unfold stepM
  split
  · exact List.filter_sublist
  · exact List.Sublist.refl _
theorem keptM_sub (p : Pat) : (keptM p).Sublist (srt (pk p)) := by
  have : ∀ (ps k : List Pat), (ps.foldl stepM k).Sublist k := by
    intro ps
    induction ps with
    | nil => exact fun k => List.Sublist.refl _
    | cons p ps ih => exact fun k => (ih _).trans (stepM_sub k p)
  exact this _ _
theorem keptM_wt (p : Pat) : Le2 (wt (either (keptM p))) (wt p) :=
  ((either_wt _).trans ((wtS_sub (keptM_sub p)).trans (Le.of_eq (wtS_perm (srt_perm _))))).le2.trans (pk_wt p)
theorem manyOf_wt (p : Pat) : Le (wt (manyOf p)) (mu (wt p)) := by
  have h := keptM_wt p
  unfold manyOf manyE
  split
  · exact ⟨Nat.le_refl _, Nat.zero_le _, Nat.zero_le _⟩
  · split
    · rename_i e
      rw [e] at h
      have hy : 1 ≤ (wt p).y := h.y
      exact ⟨Nat.le_refl _, hy, Nat.le_trans (Nat.mul_pos hy hy) (Nat.le_add_left _ _)⟩
    · exact ⟨Nat.le_refl _, h.y, Nat.add_le_add h.z (Nat.mul_le_mul h.y h.y)⟩
mutual
theorem normal_wt : ∀ p : Pat, Le (wt (normal p)) (wt p)
  | .none => .rfl
  | .empty => .rfl
  | .sign _ => .rfl
  | .many p => (manyOf_wt _).trans (mu_le (normal_wt p))
  | .not p => (negated_wt _).trans (add_le .rfl (normal_wt p))
  | .row ps => (rowOf_wt _).trans (normals_wtP ps)
  | .or ps => (either_wt _).trans (normals_wtS ps)
  | .and ps => (both_wt _).trans (add_le .rfl (normals_wtS ps))
theorem normals_wtP : ∀ ps : List Pat, Le (wtP (normals ps)) (wtP ps)
  | [] => .rfl
  | p :: ps => mul_le (normal_wt p) (normals_wtP ps)
theorem normals_wtS : ∀ ps : List Pat, Le (wtS (normals ps)) (wtS ps)
  | [] => .rfl
  | p :: ps => add_le (normal_wt p) (normals_wtS ps)
end
/-! behind a sign the weights move on -/
structure Sh (a b : Wt) : Prop where
  x : a.x ≤ b.y
  y : a.y ≤ b.z
theorem Sh.of_le {a b c : Wt} (h : Le a b) (g : Sh b c) : Sh a c := ⟨Nat.le_trans h.x g.x, Nat.le_trans h.y g.y⟩
theorem Sh.add {a b c d : Wt} (h : Sh a c) (g : Sh b d) : Sh (Wt.add a b) (Wt.add c d) := ⟨Nat.add_le_add h.x g.x, Nat.add_le_add h.y g.y⟩
theorem Sh.le {a b c : Wt} (h : Sh a b) (g : Le b c) : Sh a c := ⟨Nat.le_trans h.x g.y, Nat.le_trans h.y g.z⟩
theorem sh_u : Sh u u := ⟨Nat.le_refl _, Nat.le_refl _⟩
theorem sh_zero (a : Wt) : Sh zero a := ⟨Nat.zero_le _, Nat.zero_le _⟩
mutual
theorem behind_wt (s : Nat) : ∀ p : Pat, Sh (wt (behind s p)) (wt p)
  | .none => sh_zero _
  | .empty => sh_zero _
  | .sign c => by
    rw [behind]
    split
    · exact ⟨Nat.le_refl 1, Nat.le_refl 0⟩
    · exact sh_zero _
  | .many p => by
    have h := behind_wt s p
    refine Sh.of_le (rowOf_wt _) ?_
    show Sh (mul (wt (behind s p)) (mul (mu (wt p)) one)) (mu (wt p))
    rw [Wt.mul_one]
    refine ⟨?_, ?_⟩
    · show (wt (behind s p)).x * 1 ≤ (wt p).y
      rw [Nat.mul_one]; exact h.x
    · show (wt (behind s p)).y * 1 + (wt (behind s p)).x * (wt p).y ≤ (wt p).z + (wt p).y * (wt p).y
      rw [Nat.mul_one]
      exact Nat.add_le_add h.y (Nat.mul_le_mul_right _ h.x)
  | .not p => Sh.of_le (negated_wt _) (sh_u.add (behind_wt s p))
  | .row ps => Sh.of_le (either_wt _) (rowB_wt s ps)
  | .or ps => Sh.of_le (either_wt _) (behinds_wt s ps)
  | .and ps => Sh.of_le (both_wt _) (sh_u.add (behinds_wt s ps))
theorem behinds_wt (s : Nat) : ∀ ps : List Pat, Sh (wtS (behinds s ps)) (wtS ps)
  | [] => sh_zero _
  | p :: ps => (behind_wt s p).add (behinds_wt s ps)
theorem rowB_wt (s : Nat) : ∀ ps : List Pat, Sh (wtS (rowB s ps)) (wtP ps)
  | [] => sh_zero _
  | p :: ps => by
    have h := behind_wt s p
    have h1 : Le (wt (rowOf (behind s p :: ps))) (mul (wt (behind s p)) (wtP ps)) := rowOf_wt _
    have h2 : (wtS (if nullb p = true then rowB s ps else [])).x ≤ (wt p).x * (wtP ps).y ∧ (wtS (if nullb p = true then rowB s ps else [])).y ≤ (wt p).x * (wtP ps).z := by
      split
      · rename_i hn
        have := null_x p hn
        have g := rowB_wt s ps
        exact ⟨Nat.le_trans g.x (Nat.le_mul_of_pos_left _ this), Nat.le_trans g.y (Nat.le_mul_of_pos_left _ this)⟩
      · exact ⟨Nat.zero_le _, Nat.zero_le _⟩
    rw [rowB]
    refine ⟨?_, ?_⟩
    · show (wt (rowOf (behind s p :: ps))).x + _ ≤ (wt p).y * (wtP ps).x + (wt p).x * (wtP ps).y
      exact Nat.add_le_add (Nat.le_trans h1.x (Nat.mul_le_mul_right _ h.x)) h2.1
    · show (wt (rowOf (behind s p :: ps))).y + _ ≤ (wt p).z * (wtP ps).x + 2 * ((wt p).y * (wtP ps).y) + (wt p).x * (wtP ps).z
      refine Nat.add_le_add (Nat.le_trans h1.y ?_) h2.2
      show (wt (behind s p)).y * (wtP ps).x + (wt (behind s p)).x * (wtP ps).y ≤ _
      refine Nat.add_le_add (Nat.mul_le_mul_right _ h.y) (Nat.le_trans (Nat.mul_le_mul_right _ h.x) ?_)
      omega
end
/-! of a pattern of few nodes they are small -/
theorem pow_split (b n m : Nat) : b ^ (n + m) = b ^ n * b ^ m := Nat.pow_add b n m
structure Small (w : Wt) (n : Nat) : Prop where
  x : w.x ≤ 2 ^ n
  y : w.y ≤ 2 ^ n
  z : w.z ≤ 4 ^ n
theorem p2 (n : Nat) : 1 ≤ 2 ^ n := Nat.one_le_two_pow
theorem p4 (n : Nat) : 1 ≤ 4 ^ n := Nat.pow_pos (by decide)
theorem p24 (n : Nat) : 2 ^ n ≤ 4 ^ n := Nat.pow_le_pow_left (by decide) n
theorem p22 (n : Nat) : 2 ^ n * 2 ^ n = 4 ^ n := by rw [← Nat.mul_pow]
mutual
theorem wt_small : ∀ p : Pat, Small (wt p) (p.size - 1)
  | .none => ⟨Nat.zero_le _, Nat.zero_le _, Nat.zero_le _⟩
  | .empty => ⟨Nat.le_refl _, Nat.zero_le _, Nat.zero_le _⟩
  | .sign _ => ⟨Nat.le_refl _, Nat.le_refl _, Nat.zero_le _⟩
  | .row ps => wtP_small ps
  | .or ps => (wtS_small ps).1
  | .and ps => (wtS_small ps).2
  | .many p => by
    have h := wt_small p
    have hs := size_pos p
    show Small (mu (wt p)) p.size
    obtain ⟨m, e⟩ : ∃ m, p.size = m + 1 := ⟨p.size - 1, by omega⟩
    rw [e] at h ⊢
    have h : Small (wt p) m := h
    refine ⟨p2 _, Nat.le_trans h.y (Nat.pow_le_pow_right (by decide) (Nat.le_succ _)), ?_⟩
    show (wt p).z + (wt p).y * (wt p).y ≤ 4 ^ (m + 1)
    have h1 := Nat.mul_le_mul h.y h.y
    rw [p22] at h1
    have h2 := h.z
    rw [Nat.pow_succ]
    omega
  | .not p => by
    have h := wt_small p
    have hs := size_pos p
    show Small (add u (wt p)) p.size
    obtain ⟨m, e⟩ : ∃ m, p.size = m + 1 := ⟨p.size - 1, by omega⟩
    rw [e] at h ⊢
    have h : Small (wt p) m := h
    have a := h.x
    have b := h.y
    have c := h.z
    have d := p2 m
    have f := p4 m
    refine ⟨?_, ?_, ?_⟩
    · show 1 + (wt p).x ≤ 2 ^ (m + 1); rw [Nat.pow_succ]; omega
    · show 1 + (wt p).y ≤ 2 ^ (m + 1); rw [Nat.pow_succ]; omega
    · show 1 + (wt p).z ≤ 4 ^ (m + 1); rw [Nat.pow_succ]; omega
theorem wtS_small : ∀ ps : List Pat, Small (wtS ps) (sizeL ps) ∧ Small (add u (wtS ps)) (sizeL ps)
  | [] => ⟨⟨Nat.zero_le _, Nat.zero_le _, Nat.zero_le _⟩, ⟨Nat.le_refl _, Nat.le_refl _, Nat.le_refl _⟩⟩
  | p :: ps => by
    have h := wt_small p
    have hs := size_pos p
    obtain ⟨m, e⟩ : ∃ m, p.size = m + 1 := ⟨p.size - 1, by omega⟩
    have h : Small (wt p) m := by rw [e] at h; exact h
    have g := (wtS_small ps).2
    rw [sizeL, e]
    generalize sizeL ps = n at g
    have gx : 1 + (wtS ps).x ≤ 2 ^ n := g.x
    have gy : 1 + (wtS ps).y ≤ 2 ^ n := g.y
    have gz : 1 + (wtS ps).z ≤ 4 ^ n := g.z
    have hx := h.x
    have hy := h.y
    have hz := h.z
    have e2 : 2 ^ (m + 1 + n) = 2 * (2 ^ m * 2 ^ n) := by rw [Nat.pow_add, Nat.pow_succ, Nat.mul_comm (2 ^ m) 2, Nat.mul_assoc]
    have e4 : 4 ^ (m + 1 + n) = 4 * (4 ^ m * 4 ^ n) := by rw [Nat.pow_add, Nat.pow_succ, Nat.mul_comm (4 ^ m) 4, Nat.mul_assoc]
    have a1 : 2 ^ m ≤ 2 ^ m * 2 ^ n := Nat.le_mul_of_pos_right _ (p2 n)
    have a2 : 2 ^ n ≤ 2 ^ m * 2 ^ n := Nat.le_mul_of_pos_left _ (p2 m)
    have a3 : 4 ^ m ≤ 4 ^ m * 4 ^ n := Nat.le_mul_of_pos_right _ (p4 n)
    have a4 : 4 ^ n ≤ 4 ^ m * 4 ^ n := Nat.le_mul_of_pos_left _ (p4 m)
    have s : Small (add u (add (wt p) (wtS ps))) (m + 1 + n) := by
      refine ⟨?_, ?_, ?_⟩
      · show 1 + ((wt p).x + (wtS ps).x) ≤ _; rw [e2]; omega
      · show 1 + ((wt p).y + (wtS ps).y) ≤ _; rw [e2]; omega
      · show 1 + ((wt p).z + (wtS ps).z) ≤ _; rw [e4]; omega
    exact ⟨⟨Nat.le_trans (Nat.le_add_left _ _) s.x, Nat.le_trans (Nat.le_add_left _ _) s.y, Nat.le_trans (Nat.le_add_left _ _) s.z⟩, s⟩
theorem wtP_small : ∀ ps : List Pat, Small (wtP ps) (sizeL ps)
  | [] => ⟨Nat.le_refl _, Nat.zero_le _, Nat.zero_le _⟩
  | p :: ps => by
    have h := wt_small p
    have hs := size_pos p
    obtain ⟨m, e⟩ : ∃ m, p.size = m + 1 := ⟨p.size - 1, by omega⟩
    have h : Small (wt p) m := by rw [e] at h; exact h
    have g := wtP_small ps
    rw [sizeL, e]
    generalize sizeL ps = n at g
    have e2 : 2 ^ (m + 1 + n) = 2 * (2 ^ m * 2 ^ n) := by rw [Nat.pow_add, Nat.pow_succ, Nat.mul_comm (2 ^ m) 2, Nat.mul_assoc]
    have e4 : 4 ^ (m + 1 + n) = 4 * (4 ^ m * 4 ^ n) := by rw [Nat.pow_add, Nat.pow_succ, Nat.mul_comm (4 ^ m) 4, Nat.mul_assoc]
    have b1 := Nat.mul_le_mul h.x g.x
    have b2 := Nat.mul_le_mul h.y g.x
    have b3 := Nat.mul_le_mul h.x g.y
    have b4 := Nat.mul_le_mul h.z (Nat.le_trans g.x (p24 n))
    have b5 := Nat.mul_le_mul (Nat.le_trans h.y (p24 m)) (Nat.le_trans g.y (p24 n))
    have b6 := Nat.mul_le_mul (Nat.le_trans h.x (p24 m)) g.z
    refine ⟨?_, ?_, ?_⟩
    · show (wt p).x * (wtP ps).x ≤ _; rw [e2]; omega
    · show (wt p).y * (wtP ps).x + (wt p).x * (wtP ps).y ≤ _; rw [e2]; omega
    · show (wt p).z * (wtP ps).x + 2 * ((wt p).y * (wtP ps).y) + (wt p).x * (wtP ps).z ≤ _; rw [e4]; omega
end
end Bo
set_option Elab.async false
set_option linter.all false
set_option maxRecDepth 100000
/-! how long the rows of the fixed forms are: a now, b behind a sign, c behind two -/
namespace Bo
structure Lm where
  a : Nat
  b : Nat
  c : Nat
namespace Lm
def cat (p r : Lm) : Lm := ⟨p.a + r.a, max (p.b + r.a) r.b, max (max (p.c + r.a) r.b) r.c⟩
def cap (p : Lm) : Lm := ⟨max 1 p.a, max 1 p.b, max 1 p.c⟩
def sup (p r : Lm) : Lm := ⟨max p.a r.a, max p.b r.b, max p.c r.c⟩
def nul : Lm := ⟨0, 0, 0⟩
def uno : Lm := ⟨1, 1, 1⟩
def mu (p : Lm) : Lm := ⟨1, p.b + 1, max p.c p.b + 1⟩
structure Le (p r : Lm) : Prop where
  a : p.a ≤ r.a
  b : p.b ≤ r.b
  c : p.c ≤ r.c
theorem Le.rfl {p : Lm} : Le p p := ⟨Nat.le_refl _, Nat.le_refl _, Nat.le_refl _⟩
theorem Le.trans {p q r : Lm} (h : Le p q) (g : Le q r) : Le p r := ⟨Nat.le_trans h.a g.a, Nat.le_trans h.b g.b, Nat.le_trans h.c g.c⟩
theorem nul_le (p : Lm) : Le nul p := ⟨Nat.zero_le _, Nat.zero_le _, Nat.zero_le _⟩
theorem cat_le {p q r s : Lm} (h : Le p r) (g : Le q s) : Le (cat p q) (cat r s) := by
  have := h.a; have := h.b; have := h.c; have := g.a; have := g.b; have := g.c
  refine ⟨?_, ?_, ?_⟩ <;> simp only [cat] <;> omega
theorem cap_le {p r : Lm} (h : Le p r) : Le (cap p) (cap r) := by
  have := h.a; have := h.b; have := h.c
  refine ⟨?_, ?_, ?_⟩ <;> simp only [cap] <;> omega
theorem le_cap (p : Lm) : Le p (cap p) := ⟨Nat.le_max_right _ _, Nat.le_max_right _ _, Nat.le_max_right _ _⟩
theorem uno_cap (p : Lm) : Le uno (cap p) := ⟨Nat.le_max_left _ _, Nat.le_max_left _ _, Nat.le_max_left _ _⟩
theorem cap_of {p m : Lm} (h : Le uno m) (g : Le p m) : Le (cap p) m := ⟨Nat.max_le.mpr ⟨h.a, g.a⟩, Nat.max_le.mpr ⟨h.b, g.b⟩, Nat.max_le.mpr ⟨h.c, g.c⟩⟩
theorem mu_le {p r : Lm} (h : Le p r) : Le (mu p) (mu r) := by
  have := h.a; have := h.b; have := h.c
  refine ⟨?_, ?_, ?_⟩ <;> simp only [mu] <;> omega
theorem le_catL (p r : Lm) : Le p (cat p r) := by refine ⟨?_, ?_, ?_⟩ <;> simp only [cat] <;> omega
theorem le_catR (p r : Lm) : Le r (cat p r) := by refine ⟨?_, ?_, ?_⟩ <;> simp only [cat] <;> omega
theorem nul_cat (p : Lm) : Le p (cat nul p) := le_catR _ _
theorem cat_nul (p : Lm) : Le (cat p nul) p := by refine ⟨?_, ?_, ?_⟩ <;> simp only [cat, nul] <;> omega
theorem cat_assoc (p q r : Lm) : Le (cat (cat p q) r) (cat p (cat q r)) := by refine ⟨?_, ?_, ?_⟩ <;> simp only [cat] <;> omega
theorem cat_assoc' (p q r : Lm) : Le (cat p (cat q r)) (cat (cat p q) r) := by refine ⟨?_, ?_, ?_⟩ <;> simp only [cat] <;> omega
theorem supL (p r : Lm) : Le p (sup p r) := ⟨Nat.le_max_left _ _, Nat.le_max_left _ _, Nat.le_max_left _ _⟩
theorem supR (p r : Lm) : Le r (sup p r) := ⟨Nat.le_max_right _ _, Nat.le_max_right _ _, Nat.le_max_right _ _⟩
theorem sup_of {p q m : Lm} (h : Le p m) (g : Le q m) : Le (sup p q) m := ⟨Nat.max_le.mpr ⟨h.a, g.a⟩, Nat.max_le.mpr ⟨h.b, g.b⟩, Nat.max_le.mpr ⟨h.c, g.c⟩⟩
end Lm
open Lm
mutual
def lm : Pat → Lm
  | .row ps => cap (lmP ps)
  | .or ps => lmS ps
  | .and ps => lmS ps
  | .many p => Lm.mu (lm p)
  | .not p => lm p
  | _ => uno
def lmS : List Pat → Lm
  | [] => uno
  | p :: ps => sup (lm p) (lmS ps)
def lmP : List Pat → Lm
  | [] => nul
  | p :: ps => cat (lm p) (lmP ps)
end
theorem lmS_of : ∀ {ps : List Pat} {m : Lm}, Lm.Le uno m → (∀ p ∈ ps, Lm.Le (lm p) m) → Lm.Le (lmS ps) m
  | [], _, h, _ => h
  | p :: ps, m, h, g => sup_of (g p List.mem_cons_self) (lmS_of h fun q a => g q (List.mem_cons_of_mem _ a))
theorem lmS_mem : ∀ {ps : List Pat} {p : Pat}, p ∈ ps → Lm.Le (lm p) (lmS ps)
  | q :: ps, p, h => by
    rcases List.mem_cons.mp h with e | h
    · rw [e]; exact supL _ _
    · exact (lmS_mem h).trans (supR _ _)
theorem lmS_uno : ∀ ps : List Pat, Lm.Le uno (lmS ps)
  | [] => .rfl
  | p :: ps => (lmS_uno ps).trans (supR _ _)
mutual
theorem lm_uno : ∀ p : Pat, Lm.Le uno (lm p)
  | .none => .rfl
  | .empty => .rfl
  | .sign _ => .rfl
  | .row ps => uno_cap _
  | .or ps => lmS_uno ps
  | .and ps => lmS_uno ps
  | .many p => by
    have h := lm_uno p
    refine ⟨Nat.le_refl _, Nat.le_add_left _ _, Nat.le_add_left _ _⟩
  | .not p => lm_uno p
end
theorem lmP_app : ∀ a b : List Pat, Lm.Le (lmP (a ++ b)) (cat (lmP a) (lmP b))
  | [], b => nul_cat _
  | p :: a, b => (cat_le .rfl (lmP_app a b)).trans (cat_assoc' _ _ _)
theorem lmP_sub {a b : List Pat} (h : a.Sublist b) : Lm.Le (lmP a) (lmP b) := by
  induction h with
  | slnil => exact .rfl
  | cons p _ ih => exact ih.trans (le_catR _ _)
  | cons_cons p _ ih => exact cat_le .rfl ih
theorem lmP_mem {ps : List Pat} {p : Pat} (h : p ∈ ps) : Lm.Le (lm p) (lmP ps) := (le_catL (lm p) nul).trans (lmP_sub (List.singleton_sublist.mpr h))
/-! what is kept of a row stands in the same order -/
theorem popW_sub (p : Pat) : ∀ st : List Pat, (popW p st).Sublist st
  | [] => List.Sublist.refl _
  | t :: st => by
    rw [popW]
    split
    · exact (popW_sub p st).trans (List.sublist_cons_self _ _)
    · exact List.Sublist.refl _
theorem stepS_sub (st : List Pat) (p : Pat) : (stepS st p).Sublist (p :: st) := by
  cases st with
  | nil => exact List.Sublist.refl _
  | cons t st =>
    unfold stepS
    simp only []
    split
    · exact List.sublist_cons_self _ _
    · exact (popW_sub p (t :: st)).cons_cons p
theorem short_sub (ps : List Pat) : (shortened ps).Sublist ps := by
  have : ∀ (ps st : List Pat), (ps.foldl stepS st).reverse.Sublist (st.reverse ++ ps) := by
    intro ps
    induction ps with
    | nil => exact fun st => by rw [List.append_nil]; exact List.Sublist.refl _
    | cons p ps ih =>
      intro st
      refine (ih _).trans ?_
      have h := (stepS_sub st p).reverse
      rw [List.reverse_cons] at h
      have h2 := h.append_right ps
      rw [List.append_assoc] at h2
      exact h2
  exact this ps []
theorem spreadR_lm : ∀ ps : List Pat, Lm.Le (lmP (spread pieces ps)) (lmP ps)
  | [] => .rfl
  | p :: ps => by
    refine (lmP_app (pieces p) (spread pieces ps)).trans (cat_le ?_ (spreadR_lm ps))
    cases p <;> first | exact cat_nul _ | exact le_cap _
theorem keptR_lm (ps : List Pat) : Lm.Le (lmP (keptR ps)) (lmP ps) := (lmP_sub ((short_sub _).trans List.filter_sublist)).trans (spreadR_lm ps)
theorem lmP_len : ∀ ps : List Pat, ps.length ≤ (lmP ps).a
  | [] => Nat.le_refl _
  | p :: ps => by
    show ps.length + 1 ≤ (lm p).a + (lmP ps).a
    have := lmP_len ps
    have : 1 ≤ (lm p).a := (lm_uno p).a
    omega
theorem spreadR_len (ps : List Pat) : (spread pieces ps).length ≤ (lmP ps).a := Nat.le_trans (lmP_len _) (spreadR_lm ps).a
theorem partsO_lm {p q : Pat} (a : q ∈ partsO p) : Lm.Le (lm q) (lm p) := by
  cases p with
  | or ps => exact lmS_mem a
  | _ => rw [List.mem_singleton.mp a]; exact .rfl
theorem partsA_lm {p q : Pat} (a : q ∈ partsA p) : Lm.Le (lm q) (lm p) := by
  cases p with
  | and ps => exact lmS_mem a
  | _ => rw [List.mem_singleton.mp a]; exact .rfl
theorem joined_lm {mk : List Pat → Pat} {k : List Pat} {z : Pat} {m : Lm} (h0 : Lm.Le (lm z) m) (h1 : ∀ p, k = [p] → Lm.Le (lm p) m) (h2 : Lm.Le (lm (mk k)) m) : Lm.Le (lm (joined mk k z)) m := by
  match k, h1, h2 with
  | [], _, _ => exact h0
  | [p], h1, _ => exact h1 p rfl
  | p :: q :: r, _, h2 => exact h2
theorem either_lm (ps : List Pat) : Lm.Le (lm (either ps)) (lmS ps) := by
  have hk : ∀ p ∈ keptO ps, Lm.Le (lm p) (lmS ps) := fun p a => let ⟨_, hp, b⟩ := spread_mem (needed_mem a); (partsO_lm b).trans (lmS_mem hp)
  unfold either
  split
  · exact lmS_uno _
  · exact joined_lm (lmS_uno _) (fun p e => hk p (by rw [e]; exact List.mem_singleton.mpr rfl)) (lmS_of (lmS_uno _) hk)
theorem both_lm (ps : List Pat) : Lm.Le (lm (both ps)) (lmS ps) := by
  have hk : ∀ p ∈ keptA ps, Lm.Le (lm p) (lmS ps) := fun p a => let ⟨_, hp, b⟩ := spread_mem (needed_mem a); (partsA_lm b).trans (lmS_mem hp)
  unfold both
  split
  · exact lmS_uno _
  · split
    · exact lmS_uno _
    · exact joined_lm (lmS_uno _) (fun p e => hk p (by rw [e]; exact List.mem_singleton.mpr rfl)) (lmS_of (lmS_uno _) hk)
theorem negated_lm (p : Pat) : Lm.Le (lm (negated p)) (lm p) := by cases p <;> exact .rfl
theorem rowF_lm : ∀ (n : Nat) (ps : List Pat), Lm.Le (lm (rowF n ps)) (cap (lmP ps))
  | 0, _ => uno_cap _
  | n + 1, ps => by
    refine Lm.Le.trans ?_ (cap_le (keptR_lm ps))
    unfold rowF
    split
    · exact uno_cap _
    · generalize keptR ps = k
      split
      · rename_i fs rest
        refine (either_lm _).trans (lmS_of (uno_cap _) fun q hq => ?_)
        obtain ⟨f, hf, rfl⟩ := List.mem_map.mp hq
        exact (rowF_lm n _).trans (cap_le (cat_le (lmS_mem hf) .rfl))
      · exact joined_lm (uno_cap _) (fun p e => by rw [e]; exact (le_catL (lm p) nul).trans (le_cap _)) .rfl
theorem rowOf_lm (ps : List Pat) : Lm.Le (lm (rowOf ps)) (cap (lmP ps)) := rowF_lm _ _
/-! manys: b and c alone -/
structure Lm2 (p r : Lm) : Prop where
  b : p.b ≤ r.b
  c : p.c ≤ r.c
theorem Lm.Le.two {p r : Lm} (h : Lm.Le p r) : Lm2 p r := ⟨h.b, h.c⟩
theorem Lm2.trans {p q r : Lm} (h : Lm2 p q) (g : Lm2 q r) : Lm2 p r := ⟨Nat.le_trans h.b g.b, Nat.le_trans h.c g.c⟩
mutual
theorem pk_lm : ∀ (p q : Pat), q ∈ pk p → Lm2 (lm q) (lm p)
  | .none, _, a => by cases a
  | .empty, _, a => by cases a
  | .many p, q, a => by
    have h := pk_lm p q a
    have := h.b; have := h.c
    refine ⟨?_, ?_⟩ <;> simp only [lm, Lm.mu] <;> omega
  | .sign _, q, a => by rw [List.mem_singleton.mp a]; exact Lm.Le.rfl.two
  | .and ps, q, a => by rw [List.mem_singleton.mp a]; exact Lm.Le.rfl.two
  | .not p, q, a => by rw [List.mem_singleton.mp a]; exact Lm.Le.rfl.two
  | .or ps, q, a => let ⟨_, hp, h⟩ := pks_lm ps q a; h.trans (lmS_mem hp).two
  | .row ps, q, a => by
    rw [pk] at a
    split at a
    · obtain ⟨p, hp, h⟩ := pks_lm ps q a
      exact h.trans ((lmP_mem hp).trans (le_cap _)).two
    · rw [List.mem_singleton.mp a]; exact Lm.Le.rfl.two
theorem pks_lm : ∀ (ps : List Pat) (q : Pat), q ∈ pks ps → ∃ p ∈ ps, Lm2 (lm q) (lm p)
  | [], _, a => by cases a
  | p :: ps, q, a => by
    rcases List.mem_append.mp a with a | a
    · exact ⟨p, List.mem_cons_self, pk_lm p q a⟩
    · obtain ⟨r, hr, h⟩ := pks_lm ps q a
      exact ⟨r, List.mem_cons_of_mem _ hr, h⟩
end
theorem keptM_lm (p : Pat) : Lm2 (lm (either (keptM p))) (lm p) := by
  have : Lm.Le (lmS (keptM p)) ⟨(lmS (keptM p)).a, (lm p).b, (lm p).c⟩ := by
    have : ∀ ps : List Pat, (∀ q ∈ ps, Lm2 (lm q) (lm p)) → Lm2 (lmS ps) (lm p) := by
      intro ps
      induction ps with
      | nil => exact fun _ => (lm_uno p).two
      | cons q ps ih => exact fun h => ⟨Nat.max_le.mpr ⟨(h q List.mem_cons_self).b, (ih fun r a => h r (List.mem_cons_of_mem _ a)).b⟩, Nat.max_le.mpr ⟨(h q List.mem_cons_self).c, (ih fun r a => h r (List.mem_cons_of_mem _ a)).c⟩⟩
    have := this (keptM p) fun q a => pk_lm p q (keptM_mem a)
    exact ⟨Nat.le_refl _, this.b, this.c⟩
  have h := (either_lm (keptM p)).trans this
  exact ⟨h.b, h.c⟩
theorem manyOf_lm (p : Pat) : Lm.Le (lm (manyOf p)) (Lm.mu (lm p)) := by
  have h := keptM_lm p
  have u : Lm.Le uno (Lm.mu (lm p)) := ⟨Nat.le_refl _, Nat.le_add_left _ _, Nat.le_add_left _ _⟩
  unfold manyOf manyE
  split
  · exact u
  · split
    · exact u
    · have := h.b; have := h.c
      refine ⟨?_, ?_, ?_⟩ <;> simp only [lm, Lm.mu] <;> omega
mutual
theorem normal_lm : ∀ p : Pat, Lm.Le (lm (normal p)) (lm p)
  | .none => .rfl
  | .empty => .rfl
  | .sign _ => .rfl
  | .many p => (manyOf_lm _).trans (Lm.mu_le (normal_lm p))
  | .not p => (negated_lm _).trans (normal_lm p)
  | .row ps => (rowOf_lm _).trans (cap_le (normals_lmP ps))
  | .or ps => (either_lm _).trans (normals_lmS ps)
  | .and ps => (both_lm _).trans (normals_lmS ps)
theorem normals_lmP : ∀ ps : List Pat, Lm.Le (lmP (normals ps)) (lmP ps)
  | [] => .rfl
  | p :: ps => cat_le (normal_lm p) (normals_lmP ps)
theorem normals_lmS : ∀ ps : List Pat, Lm.Le (lmS (normals ps)) (lmS ps)
  | [] => .rfl
  | p :: ps => sup_of ((normal_lm p).trans (supL _ _)) ((normals_lmS ps).trans (supR _ _))
end
/-! behind a sign -/
structure Lh (p r : Lm) : Prop where
  a : p.a ≤ r.b
  b : p.b ≤ r.c
theorem Lh.of_le {p q r : Lm} (h : Lm.Le p q) (g : Lh q r) : Lh p r := ⟨Nat.le_trans h.a g.a, Nat.le_trans h.b g.b⟩
theorem Lh.le {p q r : Lm} (h : Lh p q) (g : Lm.Le q r) : Lh p r := ⟨Nat.le_trans h.a g.b, Nat.le_trans h.b g.c⟩
theorem lh_uno {m : Lm} (h : Lm.Le uno m) : Lh uno m := ⟨h.b, h.c⟩
theorem lh_sup {p q m : Lm} (h : Lh p m) (g : Lh q m) : Lh (sup p q) m := ⟨Nat.max_le.mpr ⟨h.a, g.a⟩, Nat.max_le.mpr ⟨h.b, g.b⟩⟩
theorem lh_cap {p m : Lm} (u : Lm.Le uno m) (h : Lh p m) : Lh (cap p) m := ⟨Nat.max_le.mpr ⟨u.b, h.a⟩, Nat.max_le.mpr ⟨u.c, h.b⟩⟩
mutual
theorem behind_lm (s : Nat) : ∀ p : Pat, Lh (lm (behind s p)) (lm p)
  | .none => lh_uno .rfl
  | .empty => lh_uno .rfl
  | .sign c => by rw [behind]; split <;> exact lh_uno .rfl
  | .many p => by
    have h := behind_lm s p
    refine Lh.of_le (rowOf_lm _) (lh_cap (lm_uno _) ?_)
    have := h.a; have := h.b
    refine ⟨?_, ?_⟩ <;> simp only [lmP, lm, Lm.mu, cat, nul] <;> omega
  | .not p => Lh.of_le (negated_lm _) (behind_lm s p)
  | .row ps => Lh.of_le (either_lm _) (rowB_lm s ps)
  | .or ps => Lh.of_le (either_lm _) (behinds_lm s ps)
  | .and ps => Lh.of_le (both_lm _) (behinds_lm s ps)
theorem behinds_lm (s : Nat) : ∀ ps : List Pat, Lh (lmS (behinds s ps)) (lmS ps)
  | [] => lh_uno .rfl
  | p :: ps => lh_sup ((behind_lm s p).le (supL _ _)) ((behinds_lm s ps).le (supR _ _))
theorem rowB_lm (s : Nat) : ∀ ps : List Pat, Lh (lmS (rowB s ps)) (cap (lmP ps))
  | [] => lh_uno (uno_cap _)
  | p :: ps => by
    rw [rowB]
    refine lh_sup (Lh.of_le (rowOf_lm _) (lh_cap (uno_cap _) ?_)) ?_
    · have h := behind_lm s p
      have := h.a; have := h.b
      refine ⟨?_, ?_⟩ <;> simp only [lmP, cat, cap] <;> omega
    · split
      · exact (rowB_lm s ps).le (cap_le (le_catR _ _))
      · exact lh_uno (uno_cap _)
end
mutual
theorem lm_size : ∀ p : Pat, Lm.Le (lm p) ⟨p.size, p.size, p.size⟩
  | .none => .rfl
  | .empty => .rfl
  | .sign _ => .rfl
  | .many p => by
    have h := lm_size p
    have := h.b; have := h.c
    have := size_pos p
    refine ⟨?_, ?_, ?_⟩ <;> simp only [lm, Lm.mu, Pat.size] at * <;> omega
  | .not p => by
    have h := lm_size p
    exact ⟨Nat.le_succ_of_le h.a, Nat.le_succ_of_le h.b, Nat.le_succ_of_le h.c⟩
  | .row ps => by
    have h := lmP_size ps
    have := h.a; have := h.b; have := h.c
    refine ⟨?_, ?_, ?_⟩ <;> simp only [lm, cap, Pat.size] at * <;> omega
  | .or ps => lmS_size ps
  | .and ps => lmS_size ps
theorem lmS_size : ∀ ps : List Pat, Lm.Le (lmS ps) ⟨sizeL ps + 1, sizeL ps + 1, sizeL ps + 1⟩
  | [] => .rfl
  | p :: ps => by
    have h := lm_size p
    have g := lmS_size ps
    have := h.a; have := h.b; have := h.c; have := g.a; have := g.b; have := g.c
    refine ⟨?_, ?_, ?_⟩ <;> simp only [lmS, sup, sizeL] at * <;> omega
theorem lmP_size : ∀ ps : List Pat, Lm.Le (lmP ps) ⟨sizeL ps, sizeL ps, sizeL ps⟩
  | [] => .rfl
  | p :: ps => by
    have h := lm_size p
    have g := lmP_size ps
    have := h.a; have := h.b; have := h.c; have := g.a; have := g.b; have := g.c
    refine ⟨?_, ?_, ?_⟩ <;> simp only [lmP, cat, sizeL] at * <;> omega
end
end Bo
set_option Elab.async false
set_option linter.all false
set_option maxRecDepth 100000
/-! how many pieces a many has -/
namespace Bo
mutual
def kp : Pat → Nat
  | .none => 0
  | .empty => 1
  | .sign _ => 2
  | .row ps => kpP ps
  | .or ps => kpS ps
  | .and ps => 2 + kpS ps
  | .many p => 2 + kp p
  | .not p => 2 + kp p
def kpS : List Pat → Nat
  | [] => 0
  | p :: ps => kp p + kpS ps
def kpP : List Pat → Nat
  | [] => 1
  | p :: ps => kp p * kpP ps
end
theorem kpS_app : ∀ a b : List Pat, kpS (a ++ b) = kpS a + kpS b
  | [], b => (Nat.zero_add _).symm
  | p :: a, b => by show kp p + kpS (a ++ b) = kp p + kpS a + kpS b; rw [kpS_app a b, Nat.add_assoc]
theorem kpP_app : ∀ a b : List Pat, kpP (a ++ b) = kpP a * kpP b
  | [], b => (Nat.one_mul _).symm
  | p :: a, b => by show kp p * kpP (a ++ b) = kp p * kpP a * kpP b; rw [kpP_app a b, Nat.mul_assoc]
theorem kpS_perm {a b : List Pat} (h : a.Perm b) : kpS a = kpS b := by
  induction h with
  | nil => rfl
  | cons p _ ih => show kp p + _ = kp p + _; rw [ih]
  | swap p q l => show kp q + (kp p + _) = kp p + (kp q + _); omega
  | trans _ _ h1 h2 => exact h1.trans h2
theorem kpS_sub {a b : List Pat} (h : a.Sublist b) : kpS a ≤ kpS b := by
  induction h with
  | slnil => exact Nat.le_refl _
  | cons p _ ih => exact Nat.le_trans ih (Nat.le_add_left _ _)
  | cons_cons p _ ih => exact Nat.add_le_add_left ih _
theorem kpS_mem {p : Pat} {ps : List Pat} (h : p ∈ ps) : kp p ≤ kpS ps := kpS_sub (List.singleton_sublist.mpr h)
theorem step_kp (idle : Pat → Pat → Bool) (k : List Pat) (p : Pat) : kpS (step idle k p) ≤ kpS k + kp p := by
  unfold step
  split
  · exact Nat.le_add_right _ _
  · rw [kpS_app]
    exact Nat.add_le_add (kpS_sub List.filter_sublist) (Nat.le_refl _)
theorem needed_kp (idle : Pat → Pat → Bool) (ps : List Pat) : kpS (needed idle ps) ≤ kpS ps := by
  have : ∀ (ps k : List Pat), kpS (ps.foldl (step idle) k) ≤ kpS k + kpS ps := by
    intro ps
    induction ps with
    | nil => exact fun k => Nat.le_add_right _ _
    | cons p ps ih =>
      intro k
      have h1 := ih (step idle k p)
      have h2 := step_kp idle k p
      show kpS (ps.foldl (step idle) (step idle k p)) ≤ kpS k + (kp p + kpS ps)
      omega
  have h := this (srt ps) []
  rw [kpS_perm (srt_perm ps)] at h
  exact Nat.le_trans h (Nat.le_of_eq (Nat.zero_add _))
theorem spreadO_kp : ∀ ps : List Pat, kpS (spread partsO ps) = kpS ps
  | [] => rfl
  | p :: ps => by
    show kpS (partsO p ++ spread partsO ps) = kp p + kpS ps
    rw [kpS_app, spreadO_kp ps]
    congr 1
    cases p <;> rfl
theorem spreadA_kp : ∀ ps : List Pat, kpS (spread partsA ps) ≤ kpS ps
  | [] => Nat.le_refl _
  | p :: ps => by
    show kpS (partsA p ++ spread partsA ps) ≤ kp p + kpS ps
    rw [kpS_app]
    refine Nat.add_le_add ?_ (spreadA_kp ps)
    cases p <;> first | exact Nat.le_refl _ | exact Nat.le_add_left _ _
theorem spreadR_kp : ∀ ps : List Pat, kpP (spread pieces ps) = kpP ps
  | [] => rfl
  | p :: ps => by
    show kpP (pieces p ++ spread pieces ps) = kp p * kpP ps
    rw [kpP_app, spreadR_kp ps]
    congr 1
    cases p <;> first | rfl | exact Nat.mul_one _
theorem joined_kp {mk : List Pat → Pat} {k : List Pat} {z : Pat} {m : Nat} (h0 : k = [] → kp z ≤ m) (h1 : ∀ p, k = [p] → kp p ≤ m) (h2 : kp (mk k) ≤ m) : kp (joined mk k z) ≤ m := by
  match k, h0, h1, h2 with
  | [], h0, _, _ => exact h0 rfl
  | [p], _, h1, _ => exact h1 p rfl
  | p :: q :: r, _, _, h2 => exact h2
theorem either_kp (ps : List Pat) : kp (either ps) ≤ kpS ps := by
  refine Nat.le_trans ?_ (Nat.le_trans (needed_kp (fun s b => c8 b s) _) (Nat.le_of_eq (spreadO_kp ps)))
  show kp (either ps) ≤ kpS (keptO ps)
  unfold either
  split
  · rename_i h
    unfold allO at h
    obtain ⟨p, hp, h⟩ := List.any_eq_true.mp h
    cases p with
    | not x => exact Nat.le_trans (Nat.le_add_right 2 (kp x)) (kpS_mem hp)
    | _ => cases h
  · exact joined_kp (fun _ => Nat.zero_le _) (fun p e => by rw [e]; exact Nat.le_add_right _ _) (Nat.le_refl _)
theorem both_kp (ps : List Pat) : kp (both ps) ≤ 2 + kpS ps := by
  have h : kpS (keptA ps) ≤ kpS ps := Nat.le_trans (needed_kp c8 _) (spreadA_kp ps)
  unfold both
  split
  · exact Nat.zero_le _
  · split
    · exact Nat.zero_le _
    · exact joined_kp (fun _ => Nat.le_add_right 2 _) (fun p e => by rw [e] at h; have h : kp p + 0 ≤ kpS ps := h; omega) (Nat.add_le_add_left h 2)
theorem negated_kp (p : Pat) : kp (negated p) ≤ 2 + kp p := by
  cases p with
  | not x => show kp x ≤ 2 + (2 + kp x); omega
  | _ => exact Nat.le_refl _
mutual
theorem null_kp : ∀ p : Pat, nullb p = true → 1 ≤ kp p
  | .none, h => by cases h
  | .empty, _ => Nat.le_refl _
  | .sign _, h => by cases h
  | .many p, _ => by show 1 ≤ 2 + kp p; omega
  | .not p, _ => by show 1 ≤ 2 + kp p; omega
  | .and ps, _ => by show 1 ≤ 2 + kpS ps; omega
  | .row ps, h => nullP_kp ps h
  | .or ps, h => nullS_kp ps h
theorem nullP_kp : ∀ ps : List Pat, nullAll ps = true → 1 ≤ kpP ps
  | [], _ => Nat.le_refl _
  | p :: ps, h => by
    rw [nullAll, Bool.and_eq_true] at h
    exact Nat.mul_pos (null_kp p h.1) (nullP_kp ps h.2)
theorem nullS_kp : ∀ ps : List Pat, nullAny ps = true → 1 ≤ kpS ps
  | [], h => by cases h
  | p :: ps, h => by
    rw [nullAny, Bool.or_eq_true] at h
    rcases h with h | h
    · exact Nat.le_trans (null_kp p h) (Nat.le_add_right _ _)
    · exact Nat.le_trans (nullS_kp ps h) (Nat.le_add_left _ _)
end
theorem popW_kp (p : Pat) : ∀ st : List Pat, kpP (popW p st).reverse ≤ kpP st.reverse
  | [] => Nat.le_refl _
  | t :: st => by
    rw [popW]
    split
    · rename_i h
      refine Nat.le_trans (popW_kp p st) ?_
      rw [List.reverse_cons, kpP_app]
      exact Nat.le_mul_of_pos_right _ (by show 1 ≤ kp t * 1; rw [Nat.mul_one]; exact null_kp t (along_null h))
    · exact Nat.le_refl _
theorem stepS_kp (st : List Pat) (p : Pat) : kpP (stepS st p).reverse ≤ kpP st.reverse * kp p := by
  cases st with
  | nil => show kp p * 1 ≤ 1 * kp p; omega
  | cons t st =>
    unfold stepS
    simp only []
    split
    · rename_i h
      exact Nat.le_mul_of_pos_right _ (null_kp p (along_null h))
    · rw [List.reverse_cons, kpP_app, show kpP [p] = kp p from Nat.mul_one _]
      exact Nat.mul_le_mul_right _ (popW_kp p (t :: st))
theorem short_kp (ps : List Pat) : kpP (shortened ps) ≤ kpP ps := by
  have : ∀ (ps st : List Pat), kpP (ps.foldl stepS st).reverse ≤ kpP st.reverse * kpP ps := by
    intro ps
    induction ps with
    | nil => exact fun st => Nat.le_of_eq (Nat.mul_one _).symm
    | cons p ps ih =>
      intro st
      refine Nat.le_trans (ih _) ?_
      show _ ≤ kpP st.reverse * (kp p * kpP ps)
      rw [← Nat.mul_assoc]
      exact Nat.mul_le_mul_right _ (stepS_kp st p)
  exact Nat.le_trans (this ps []) (Nat.le_of_eq (Nat.one_mul _))
theorem filter_kp : ∀ ps : List Pat, kpP (ps.filter fun p => !decide (p = .empty)) = kpP ps
  | [] => rfl
  | p :: ps => by
    by_cases e : p = .empty
    · subst e
      rw [List.filter_cons_of_neg (by simp), filter_kp ps]
      exact (Nat.one_mul _).symm
    · rw [List.filter_cons_of_pos (by simp [e])]
      show kp p * _ = kp p * _
      rw [filter_kp ps]
theorem keptR_kp (ps : List Pat) : kpP (keptR ps) ≤ kpP ps := Nat.le_trans (short_kp _) (Nat.le_of_eq ((filter_kp _).trans (spreadR_kp ps)))
theorem rowF_kp : ∀ (n : Nat) (ps : List Pat), kp (rowF n ps) ≤ kpP ps
  | 0, _ => Nat.zero_le _
  | n + 1, ps => by
    refine Nat.le_trans ?_ (keptR_kp ps)
    unfold rowF
    split
    · exact Nat.zero_le _
    · generalize keptR ps = k
      split
      · rename_i fs rest
        refine Nat.le_trans (either_kp _) ?_
        show _ ≤ kpS fs * kpP rest
        induction fs with
        | nil => exact Nat.zero_le _
        | cons f fs ih =>
          show kp (rowF n (f :: rest)) + _ ≤ (kp f + kpS fs) * kpP rest
          rw [Nat.add_mul]
          exact Nat.add_le_add (rowF_kp n _) ih
      · exact joined_kp (fun e => by rw [e]; exact Nat.le_refl _) (fun p e => by rw [e]; exact Nat.le_of_eq (Nat.mul_one _).symm) (Nat.le_refl _)
/-! the pieces -/
theorem two_mul_ge {a b : Nat} (h : 2 ≤ a) (g : 2 ≤ b) : a + b ≤ a * b := by
  obtain ⟨c, rfl⟩ : ∃ c, a = 2 + c := ⟨a - 2, by omega⟩
  obtain ⟨d, rfl⟩ : ∃ d, b = 2 + d := ⟨b - 2, by omega⟩
  rw [Nat.add_mul, Nat.mul_add, Nat.mul_add]
  have := Nat.zero_le (c * d)
  omega
mutual
theorem nf_kp : ∀ p : Pat, NF p → p ≠ .none → 1 ≤ kp p
  | .none, _, n => absurd rfl n
  | .empty, _, _ => Nat.le_refl _
  | .sign _, _, _ => Nat.le_add_left _ _
  | .many p, _, _ => by show 1 ≤ 2 + kp p; omega
  | .not p, _, _ => by show 1 ≤ 2 + kp p; omega
  | .and ps, _, _ => by show 1 ≤ 2 + kpS ps; omega
  | .row ps, h, _ => nfP_kp ps h.2.2
  | .or ps, h, _ => by
    have := nfS_kp ps h.2
    have := h.1
    show 1 ≤ kpS ps
    omega
theorem nfP_kp : ∀ ps : List Pat, NFl cR ps → 1 ≤ kpP ps
  | [], _ => Nat.le_refl _
  | p :: ps, h => by
    have hn : p ≠ .none := by
      have := h.1
      unfold cR at this
      simp only [Bool.and_eq_true, Bool.not_eq_true', decide_eq_false_iff_not] at this
      exact this.2.1
    exact Nat.mul_pos (nf_kp p h.2.1 hn) (nfP_kp ps h.2.2)
theorem nfS_kp : ∀ ps : List Pat, NFl cO ps → ps.length ≤ kpS ps
  | [], _ => Nat.le_refl _
  | p :: ps, h => by
    have hn : p ≠ .none := by
      have := h.1
      unfold cO at this
      simp only [Bool.and_eq_true, Bool.not_eq_true', decide_eq_false_iff_not] at this
      exact this.2
    have := nf_kp p h.2.1 hn
    have := nfS_kp ps h.2.2
    show ps.length + 1 ≤ kp p + kpS ps
    omega
end
mutual
theorem pk_ne : ∀ (p q : Pat), q ∈ pk p → q ≠ .none
  | .none, _, a => by cases a
  | .empty, _, a => by cases a
  | .many p, q, a => pk_ne p q a
  | .sign _, q, a => by rw [List.mem_singleton.mp a]; exact fun e => by cases e
  | .and ps, q, a => by rw [List.mem_singleton.mp a]; exact fun e => by cases e
  | .not p, q, a => by rw [List.mem_singleton.mp a]; exact fun e => by cases e
  | .or ps, q, a => pks_ne ps q a
  | .row ps, q, a => by
    rw [pk] at a
    split at a
    · exact pks_ne ps q a
    · rw [List.mem_singleton.mp a]; exact fun e => by cases e
theorem pks_ne : ∀ (ps : List Pat) (q : Pat), q ∈ pks ps → q ≠ .none
  | [], _, a => by cases a
  | p :: ps, q, a => (List.mem_append.mp a).elim (pk_ne p q) (pks_ne ps q)
end
theorem pk_pos {p : Pat} (h : NF p) : ∀ q ∈ pk p, 1 ≤ kp q := fun q a => nf_kp q (pk_nf p h q a) (pk_ne p q a)
theorem pks_pos {ps : List Pat} (h : ∀ p ∈ ps, NF p) : ∀ q ∈ pks ps, 1 ≤ kp q := fun q a => nf_kp q (pks_nf ps h q a) (pks_ne ps q a)
theorem pos_nil {l : List Pat} (a : ∀ q ∈ l, 1 ≤ kp q) (b : kpS l ≤ 0) : l = [] := by
  cases l with
  | nil => rfl
  | cons q l => have := a q List.mem_cons_self; have b : kp q + kpS l ≤ 0 := b; omega
theorem pos_len {l : List Pat} (a : ∀ q ∈ l, 1 ≤ kp q) : l.length ≤ kpS l := by
  induction l with
  | nil => exact Nat.le_refl _
  | cons q l ih =>
    have := a q List.mem_cons_self
    have := ih fun r b => a r (List.mem_cons_of_mem _ b)
    show l.length + 1 ≤ kp q + kpS l
    omega
mutual
/-- what may be empty has two at least, or no pieces -/
theorem null_two : ∀ p : Pat, NF p → nullb p = true → 2 ≤ kp p ∨ (kp p = 1 ∧ pk p = [])
  | .none, _, h => by cases h
  | .empty, _, _ => .inr ⟨rfl, rfl⟩
  | .sign _, _, h => by cases h
  | .many p, _, _ => .inl (Nat.le_add_right _ _)
  | .not p, _, _ => .inl (Nat.le_add_right _ _)
  | .and ps, _, _ => .inl (Nat.le_add_right _ _)
  | .row ps, n, h => by
    have h' : nullAll ps = true := h
    rw [show pk (.row ps) = pks ps by rw [pk, if_pos h']]
    exact (nullP_two ps (fun p a => (NFl_iff.mp n.2.2 p a).2) h').2
  | .or ps, n, _ => by
    have := nfS_kp ps n.2
    have := n.1
    exact .inl (by show 2 ≤ kpS ps; omega)
theorem nullP_two : ∀ ps : List Pat, (∀ p ∈ ps, NF p) → nullAll ps = true → kpS (pks ps) ≤ kpP ps ∧ (2 ≤ kpP ps ∨ (kpP ps = 1 ∧ pks ps = []))
  | [], _, _ => ⟨Nat.zero_le _, .inr ⟨rfl, rfl⟩⟩
  | p :: ps, n, h => by
    rw [nullAll, Bool.and_eq_true] at h
    have np := n p List.mem_cons_self
    have h1 := null_two p np h.1
    obtain ⟨h2, h3⟩ := nullP_two ps (fun q a => n q (List.mem_cons_of_mem _ a)) h.2
    have h4 := pk_kp p np
    show kpS (pk p ++ pks ps) ≤ kp p * kpP ps ∧ (2 ≤ kp p * kpP ps ∨ (kp p * kpP ps = 1 ∧ pk p ++ pks ps = []))
    rw [kpS_app]
    rcases h1 with h1 | ⟨h1, e1⟩
    · rcases h3 with h3 | ⟨h3, e3⟩
      · have := two_mul_ge h1 h3
        exact ⟨by omega, .inl (by omega)⟩
      · rw [h3, e3, Nat.mul_one]
        exact ⟨h4, .inl h1⟩
    · rw [h1, e1, Nat.one_mul]
      exact ⟨by show 0 + _ ≤ _; omega, h3⟩
theorem pk_kp : ∀ p : Pat, NF p → kpS (pk p) ≤ kp p
  | .none, _ => Nat.le_refl _
  | .empty, _ => Nat.zero_le _
  | .many p, n => Nat.le_trans (pk_kp p n) (Nat.le_add_left _ _)
  | .sign _, _ => Nat.le_refl _
  | .and ps, _ => Nat.le_refl _
  | .not p, _ => Nat.le_refl _
  | .or ps, n => pks_kp ps fun p a => (NFl_iff.mp n.2 p a).2
  | .row ps, n => by
    by_cases h : nullAll ps = true
    · rw [show pk (.row ps) = pks ps by rw [pk, if_pos h]]
      exact (nullP_two ps (fun p a => (NFl_iff.mp n.2.2 p a).2) h).1
    · rw [show pk (.row ps) = [.row ps] by rw [pk, if_neg h]]
      exact Nat.le_refl _
theorem pks_kp : ∀ ps : List Pat, (∀ p ∈ ps, NF p) → kpS (pks ps) ≤ kpS ps
  | [], _ => Nat.le_refl _
  | p :: ps, n => by
    show kpS (pk p ++ pks ps) ≤ kp p + kpS ps
    rw [kpS_app]
    exact Nat.add_le_add (pk_kp p (n p List.mem_cons_self)) (pks_kp ps fun q a => n q (List.mem_cons_of_mem _ a))
end
theorem pk_len {p : Pat} (h : NF p) : (pk p).length ≤ kp p := Nat.le_trans (pos_len (pk_pos h)) (pk_kp p h)
theorem keptM_kp {p : Pat} (h : NF p) : kpS (keptM p) ≤ kp p := by
  have := kpS_sub (keptM_sub p)
  rw [kpS_perm (srt_perm _)] at this
  exact Nat.le_trans this (pk_kp p h)
theorem manyOf_kp {p : Pat} (h : NF p) : kp (manyOf p) ≤ 2 + kp p := by
  have h1 : kp (either (keptM p)) ≤ kp p := Nat.le_trans (either_kp _) (keptM_kp h)
  unfold manyOf manyE
  split
  · show 1 ≤ 2 + kp p; omega
  · split
    · show 2 + 0 ≤ 2 + kp p; omega
    · show 2 + kp (either (keptM p)) ≤ _; omega
mutual
theorem normal_kp : ∀ p : Pat, kp (normal p) ≤ kp p
  | .none => Nat.le_refl _
  | .empty => Nat.le_refl _
  | .sign _ => Nat.le_refl _
  | .many p => Nat.le_trans (manyOf_kp (normal_nf p)) (Nat.add_le_add_left (normal_kp p) 2)
  | .not p => Nat.le_trans (negated_kp _) (Nat.add_le_add_left (normal_kp p) 2)
  | .row ps => Nat.le_trans (rowF_kp _ _) (normals_kpP ps)
  | .or ps => Nat.le_trans (either_kp _) (normals_kpS ps)
  | .and ps => Nat.le_trans (both_kp _) (Nat.add_le_add_left (normals_kpS ps) 2)
theorem normals_kpP : ∀ ps : List Pat, kpP (normals ps) ≤ kpP ps
  | [] => Nat.le_refl _
  | p :: ps => Nat.mul_le_mul (normal_kp p) (normals_kpP ps)
theorem normals_kpS : ∀ ps : List Pat, kpS (normals ps) ≤ kpS ps
  | [] => Nat.le_refl _
  | p :: ps => Nat.add_le_add (normal_kp p) (normals_kpS ps)
end
mutual
theorem kp_size : ∀ p : Pat, kp p ≤ 2 ^ p.size
  | .none => Nat.zero_le _
  | .empty => by decide
  | .sign _ => Nat.le_refl _
  | .many p => by
    have h := kp_size p
    have := Nat.pow_le_pow_right (show 0 < 2 by decide) (size_pos p)
    show 2 + kp p ≤ 2 ^ (p.size + 1)
    rw [Nat.pow_succ]; omega
  | .not p => by
    have h := kp_size p
    have := Nat.pow_le_pow_right (show 0 < 2 by decide) (size_pos p)
    show 2 + kp p ≤ 2 ^ (p.size + 1)
    rw [Nat.pow_succ]; omega
  | .row ps => Nat.le_trans (kpP_size ps) (Nat.pow_le_pow_right (by decide) (Nat.le_succ _))
  | .or ps => by
    have h := kpS_size ps
    show kpS ps ≤ 2 ^ (sizeL ps + 1)
    rw [Nat.pow_succ]; omega
  | .and ps => by
    have h := kpS_size ps
    show 2 + kpS ps ≤ 2 ^ (sizeL ps + 1)
    rw [Nat.pow_succ]; omega
theorem kpP_size : ∀ ps : List Pat, kpP ps ≤ 2 ^ sizeL ps
  | [] => Nat.le_refl _
  | p :: ps => by
    show kp p * kpP ps ≤ 2 ^ (p.size + sizeL ps)
    rw [Nat.pow_add]
    exact Nat.mul_le_mul (kp_size p) (kpP_size ps)
theorem kpS_size : ∀ ps : List Pat, kpS ps + 2 ≤ 2 * 2 ^ sizeL ps
  | [] => Nat.le_refl _
  | p :: ps => by
    have h := kp_size p
    have g := kpS_size ps
    show kp p + kpS ps + 2 ≤ 2 * 2 ^ (p.size + sizeL ps)
    rw [Nat.pow_add]
    have a := p2 p.size
    have b := p2 (sizeL ps)
    have hs := Nat.pow_le_pow_right (show 0 < 2 by decide) (size_pos p)
    generalize 2 ^ p.size = x at *
    generalize 2 ^ sizeL ps = y at *
    have e1 : x ≤ x * y := Nat.le_mul_of_pos_right _ b
    have e2 : 2 * y ≤ x * y := Nat.mul_le_mul_right y (by simpa using hs)
    omega
end
end Bo
set_option Elab.async false
set_option linter.all false
set_option maxRecDepth 100000
/-! all that stands in a pattern is small, for so many signs behind which it is asked -/
namespace Bo
structure WB (k : Nat) (w : Wt) : Prop where
  x : w.x ≤ 1048576
  y : 1 ≤ k → w.y ≤ 1048576
  z : 2 ≤ k → w.z ≤ 1048576
structure LB (k : Nat) (l : Lm) : Prop where
  a : l.a ≤ 11
  b : 1 ≤ k → l.b ≤ 11
  c : 2 ≤ k → l.c ≤ 11
theorem WB.le {k : Nat} {v w : Wt} (h : WB k w) (g : Wt.Le v w) : WB k v := ⟨Nat.le_trans g.x h.x, fun e => Nat.le_trans g.y (h.y e), fun e => Nat.le_trans g.z (h.z e)⟩
theorem LB.le {k : Nat} {v w : Lm} (h : LB k w) (g : Lm.Le v w) : LB k v := ⟨Nat.le_trans g.a h.a, fun e => Nat.le_trans g.b (h.b e), fun e => Nat.le_trans g.c (h.c e)⟩
theorem WB.sh {k : Nat} {v w : Wt} (h : WB (k + 1) w) (g : Sh v w) (hk : k ≤ 1) : WB k v := ⟨Nat.le_trans g.x (h.y (by omega)), fun e => Nat.le_trans g.y (h.z (by omega)), fun e => by omega⟩
theorem LB.sh {k : Nat} {v w : Lm} (h : LB (k + 1) w) (g : Lh v w) (hk : k ≤ 1) : LB k v := ⟨Nat.le_trans g.a (h.b (by omega)), fun e => Nat.le_trans g.b (h.c (by omega)), fun e => by omega⟩
theorem WB.down {k : Nat} {w : Wt} (h : WB (k + 1) w) : WB k w := ⟨h.x, fun e => h.y (by omega), fun e => h.z (by omega)⟩
theorem LB.down {k : Nat} {w : Lm} (h : LB (k + 1) w) : LB k w := ⟨h.a, fun e => h.b (by omega), fun e => h.c (by omega)⟩
theorem wb_u (k : Nat) : WB k (Wt.add Wt.u Wt.zero) := ⟨by decide, fun _ => by decide, fun _ => by decide⟩
theorem lb_uno (k : Nat) : LB k Lm.uno := ⟨by decide, fun _ => by decide, fun _ => by decide⟩
theorem lb_sup {k : Nat} {p q : Lm} (h : LB k p) (g : LB k q) : LB k (Lm.sup p q) := ⟨Nat.max_le.mpr ⟨h.a, g.a⟩, fun e => Nat.max_le.mpr ⟨h.b e, g.b e⟩, fun e => Nat.max_le.mpr ⟨h.c e, g.c e⟩⟩
mutual
def Hb (k : Nat) : Pat → Prop
  | .row ps => WB k (wtP ps) ∧ LB k (Lm.cap (lmP ps)) ∧ HbL k ps
  | .or ps => WB k (wtS ps) ∧ LB k (lmS ps) ∧ HbL k ps
  | .and ps => WB k (Wt.add Wt.u (wtS ps)) ∧ LB k (lmS ps) ∧ HbL k ps
  | .many p => kp p ≤ 1048576 ∧ WB k (Wt.mu (wt p)) ∧ LB k (Lm.mu (lm p)) ∧ Hb k p
  | .not p => WB k (Wt.add Wt.u (wt p)) ∧ LB k (lm p) ∧ Hb k p
  | _ => True
def HbL (k : Nat) : List Pat → Prop
  | [] => True
  | p :: ps => Hb k p ∧ HbL k ps
end
theorem HbL_iff {k : Nat} : ∀ {ps : List Pat}, HbL k ps ↔ ∀ p ∈ ps, Hb k p
  | [] => ⟨fun _ _ h => (by cases h), fun _ => trivial⟩
  | p :: ps => ⟨fun h q a => (List.mem_cons.mp a).elim (fun e => e ▸ h.1) fun a => HbL_iff.mp h.2 q a, fun h => ⟨h p List.mem_cons_self, HbL_iff.mpr fun q a => h q (List.mem_cons_of_mem _ a)⟩⟩
theorem hb_wt {k : Nat} {p : Pat} (h : Hb k p) : WB k (wt p) ∧ LB k (lm p) := by
  cases p with
  | none => exact ⟨⟨by decide, fun _ => by decide, fun _ => by decide⟩, lb_uno k⟩
  | empty => exact ⟨⟨by decide, fun _ => by decide, fun _ => by decide⟩, lb_uno k⟩
  | sign c => exact ⟨⟨show 1 ≤ 1048576 by decide, fun _ => show 1 ≤ 1048576 by decide, fun _ => show 0 ≤ 1048576 by decide⟩, lb_uno k⟩
  | row ps => exact ⟨h.1, h.2.1⟩
  | or ps => exact ⟨h.1, h.2.1⟩
  | and ps => exact ⟨h.1, h.2.1⟩
  | many p => exact ⟨h.2.1, h.2.2.1⟩
  | not p => exact ⟨h.1, h.2.1⟩
mutual
theorem hb_down {k : Nat} : ∀ p : Pat, Hb (k + 1) p → Hb k p
  | .none, _ => trivial
  | .empty, _ => trivial
  | .sign _, _ => trivial
  | .row ps, h => ⟨h.1.down, h.2.1.down, hbL_down ps h.2.2⟩
  | .or ps, h => ⟨h.1.down, h.2.1.down, hbL_down ps h.2.2⟩
  | .and ps, h => ⟨h.1.down, h.2.1.down, hbL_down ps h.2.2⟩
  | .many p, h => ⟨h.1, h.2.1.down, h.2.2.1.down, hb_down p h.2.2.2⟩
  | .not p, h => ⟨h.1.down, h.2.1.down, hb_down p h.2.2⟩
theorem hbL_down {k : Nat} : ∀ ps : List Pat, HbL (k + 1) ps → HbL k ps
  | [], _ => trivial
  | p :: ps, h => ⟨hb_down p h.1, hbL_down ps h.2⟩
end
theorem hb_ALL (k : Nat) : Hb k ALL := ⟨wb_u k, lb_uno k, trivial⟩
theorem joined_hb {k : Nat} {mk : List Pat → Pat} {ps : List Pat} {z : Pat} (h0 : Hb k z) (h1 : ∀ p ∈ ps, Hb k p) (h2 : Hb k (mk ps)) : Hb k (joined mk ps z) := by
  match ps, h1, h2 with
  | [], _, _ => exact h0
  | [p], h1, _ => exact h1 p (List.mem_singleton.mpr rfl)
  | p :: q :: r, _, h2 => exact h2
theorem partsO_hb {k : Nat} {p q : Pat} (h : Hb k p) (a : q ∈ partsO p) : Hb k q := by
  cases p with
  | or ps => exact HbL_iff.mp h.2.2 q a
  | _ => rw [List.mem_singleton.mp a]; exact h
theorem partsA_hb {k : Nat} {p q : Pat} (h : Hb k p) (a : q ∈ partsA p) : Hb k q := by
  cases p with
  | and ps => exact HbL_iff.mp h.2.2 q a
  | _ => rw [List.mem_singleton.mp a]; exact h
theorem pieces_hb {k : Nat} {p q : Pat} (h : Hb k p) (a : q ∈ pieces p) : Hb k q := by
  cases p with
  | row ps => exact HbL_iff.mp h.2.2 q a
  | _ => rw [List.mem_singleton.mp a]; exact h
theorem keptO_hb {k : Nat} {ps : List Pat} (h : ∀ p ∈ ps, Hb k p) {q : Pat} (a : q ∈ keptO ps) : Hb k q := let ⟨p, hp, b⟩ := spread_mem (needed_mem a); partsO_hb (h p hp) b
theorem keptA_hb {k : Nat} {ps : List Pat} (h : ∀ p ∈ ps, Hb k p) {q : Pat} (a : q ∈ keptA ps) : Hb k q := let ⟨p, hp, b⟩ := spread_mem (needed_mem a); partsA_hb (h p hp) b
theorem keptR_hb {k : Nat} {ps : List Pat} (h : ∀ p ∈ ps, Hb k p) {q : Pat} (a : q ∈ keptR ps) : Hb k q := let ⟨p, hp, b⟩ := spread_mem (List.mem_filter.mp (short_mem a)).1; pieces_hb (h p hp) b
theorem keptO_lm (ps : List Pat) : Lm.Le (lmS (keptO ps)) (lmS ps) := lmS_of (lmS_uno _) fun p a => let ⟨_, hp, b⟩ := spread_mem (needed_mem a); (partsO_lm b).trans (lmS_mem hp)
theorem keptA_lm (ps : List Pat) : Lm.Le (lmS (keptA ps)) (lmS ps) := lmS_of (lmS_uno _) fun p a => let ⟨_, hp, b⟩ := spread_mem (needed_mem a); (partsA_lm b).trans (lmS_mem hp)
theorem either_hb {k : Nat} {ps : List Pat} (h : ∀ p ∈ ps, Hb k p) (w : WB k (wtS ps)) (l : LB k (lmS ps)) : Hb k (either ps) := by
  unfold either
  split
  · exact hb_ALL k
  · exact joined_hb trivial (fun p a => keptO_hb h a) ⟨w.le (keptO_wt ps), l.le (keptO_lm ps), HbL_iff.mpr fun p a => keptO_hb h a⟩
theorem both_hb {k : Nat} {ps : List Pat} (h : ∀ p ∈ ps, Hb k p) (w : WB k (Wt.add Wt.u (wtS ps))) (l : LB k (lmS ps)) : Hb k (both ps) := by
  unfold both
  split
  · trivial
  · split
    · trivial
    · exact joined_hb (hb_ALL k) (fun p a => keptA_hb h a) ⟨w.le (Wt.add_le .rfl (keptA_wt ps)), l.le (keptA_lm ps), HbL_iff.mpr fun p a => keptA_hb h a⟩
theorem negated_hb {k : Nat} {p : Pat} (h : Hb k p) (w : WB k (Wt.add Wt.u (wt p))) : Hb k (negated p) := by
  have l := (hb_wt h).2
  cases p with
  | not x => exact h.2.2
  | _ => exact ⟨w, l, h⟩
theorem map_wt (n : Nat) (rest : List Pat) : ∀ fs : List Pat, Wt.Le (wtS (fs.map fun f => rowF n (f :: rest))) (Wt.mul (wtS fs) (wtP rest))
  | [] => Wt.zero_le _
  | f :: fs => by
    show Wt.Le (Wt.add (wt (rowF n (f :: rest))) _) (Wt.mul (Wt.add (wt f) (wtS fs)) (wtP rest))
    rw [Wt.add_mul]
    exact Wt.add_le (rowF_wt n _) (map_wt n rest fs)
theorem map_lm (n : Nat) (rest fs : List Pat) : Lm.Le (lmS (fs.map fun f => rowF n (f :: rest))) (Lm.cap (Lm.cat (lmS fs) (lmP rest))) := by
  refine lmS_of (Lm.uno_cap _) fun q hq => ?_
  obtain ⟨f, hf, rfl⟩ := List.mem_map.mp hq
  exact (rowF_lm n _).trans (Lm.cap_le (Lm.cat_le (lmS_mem hf) .rfl))
theorem rowF_hb {k : Nat} : ∀ (n : Nat) (ps : List Pat), (∀ p ∈ ps, Hb k p) → WB k (wtP ps) → LB k (Lm.cap (lmP ps)) → Hb k (rowF n ps)
  | 0, _, _, _, _ => trivial
  | n + 1, ps, h, w, l => by
    have hk := fun q a => keptR_hb (q := q) h a
    replace w := w.le (keptR_wt ps)
    replace l := l.le (Lm.cap_le (keptR_lm ps))
    unfold rowF
    split
    · trivial
    · generalize keptR ps = ks at hk w l
      split
      · rename_i fs rest
        have ho := hk _ List.mem_cons_self
        refine either_hb (fun q hq => ?_) (w.le (map_wt n rest fs)) (l.le (map_lm n rest fs))
        obtain ⟨f, hf, rfl⟩ := List.mem_map.mp hq
        refine rowF_hb n _ (fun r hr => ?_) (w.le (Wt.mul_le (wtS_mem hf) .rfl)) (l.le (Lm.cap_le (Lm.cat_le (lmS_mem hf) .rfl)))
        rcases List.mem_cons.mp hr with e | hr
        · rw [e]; exact HbL_iff.mp ho.2.2 f hf
        · exact hk r (List.mem_cons_of_mem _ hr)
      · exact joined_hb trivial hk ⟨w, l, HbL_iff.mpr hk⟩
mutual
theorem pk_hb {k : Nat} : ∀ (p : Pat), Hb k p → ∀ q ∈ pk p, Hb k q
  | .none, _, _, a => by cases a
  | .empty, _, _, a => by cases a
  | .many p, h, q, a => pk_hb p h.2.2.2 q a
  | .sign _, _, q, a => by rw [List.mem_singleton.mp a]; trivial
  | .and ps, h, q, a => by rw [List.mem_singleton.mp a]; exact h
  | .not p, h, q, a => by rw [List.mem_singleton.mp a]; exact h
  | .or ps, h, q, a => pks_hb ps h.2.2 q a
  | .row ps, h, q, a => by
    rw [pk] at a
    split at a
    · exact pks_hb ps h.2.2 q a
    · rw [List.mem_singleton.mp a]; exact h
theorem pks_hb {k : Nat} : ∀ (ps : List Pat), HbL k ps → ∀ q ∈ pks ps, Hb k q
  | [], _, _, a => by cases a
  | p :: ps, h, q, a => (List.mem_append.mp a).elim (pk_hb p h.1 q) (pks_hb ps h.2 q)
end
mutual
theorem x_kp : ∀ p : Pat, (wt p).x ≤ kp p
  | .none => Nat.le_refl _
  | .empty => Nat.le_refl _
  | .sign _ => Nat.le_succ _
  | .many p => by show 1 ≤ 2 + kp p; omega
  | .not p => by have := x_kp p; show 1 + (wt p).x ≤ 2 + kp p; omega
  | .and ps => by have := xS_kp ps; show 1 + (wtS ps).x ≤ 2 + kpS ps; omega
  | .row ps => xP_kp ps
  | .or ps => xS_kp ps
theorem xS_kp : ∀ ps : List Pat, (wtS ps).x ≤ kpS ps
  | [] => Nat.le_refl _
  | p :: ps => Nat.add_le_add (x_kp p) (xS_kp ps)
theorem xP_kp : ∀ ps : List Pat, (wtP ps).x ≤ kpP ps
  | [] => Nat.le_refl _
  | p :: ps => Nat.mul_le_mul (x_kp p) (xP_kp ps)
end
theorem lb_all {k : Nat} : ∀ {ps : List Pat}, (∀ p ∈ ps, Hb k p) → LB k (lmS ps)
  | [], _ => lb_uno k
  | p :: ps, h => lb_sup (hb_wt (h p List.mem_cons_self)).2 (lb_all fun q a => h q (List.mem_cons_of_mem _ a))
theorem sub_wb {k : Nat} {p : Pat} {qs : List Pat} (hs : qs.Sublist (srt (pk p))) (n : NF p) (h : Hb k p) (hk : kp p ≤ 1048576) : WB k (wtS qs) := by
  have e := (wtS_sub hs).trans (Wt.Le.of_eq (wtS_perm (srt_perm (pk p))))
  have w := (hb_wt h).1
  have g := pk_wt p
  exact ⟨Nat.le_trans e.x (Nat.le_trans (xS_kp _) (Nat.le_trans (pk_kp p n) hk)), fun i => Nat.le_trans e.y (Nat.le_trans g.y (w.y i)), fun i => Nat.le_trans e.z (Nat.le_trans g.z (w.z i))⟩
theorem manyOf_hb {k : Nat} {p : Pat} (n : NF p) (h : Hb k p) (hk : kp p ≤ 1048576) (w : WB k (Wt.mu (wt p))) (l : LB k (Lm.mu (lm p))) : Hb k (manyOf p) := by
  have hq : ∀ q ∈ keptM p, Hb k q := fun q a => pk_hb p h q (keptM_mem a)
  have hi : Hb k (either (keptM p)) := either_hb hq (sub_wb (keptM_sub p) n h hk) (lb_all hq)
  have h1 := keptM_wt p
  have h2 := keptM_lm p
  unfold manyOf manyE
  split
  · trivial
  · split
    · exact hb_ALL k
    · refine ⟨Nat.le_trans (either_kp _) (Nat.le_trans (keptM_kp n) hk), w.le ⟨Nat.le_refl _, h1.y, Nat.add_le_add h1.z (Nat.mul_le_mul h1.y h1.y)⟩, l.le ⟨Nat.le_refl _, Nat.succ_le_succ h2.b, ?_⟩, hi⟩
      have := h2.b; have := h2.c
      simp only [Lm.mu]; omega
mutual
theorem normal_hb {k : Nat} : ∀ p : Pat, Hb k p → Hb k (normal p)
  | .none, _ => trivial
  | .empty, _ => trivial
  | .sign _, _ => trivial
  | .many p, h => manyOf_hb (normal_nf p) (normal_hb p h.2.2.2) (Nat.le_trans (normal_kp p) h.1) (h.2.1.le (Wt.mu_le (normal_wt p))) (h.2.2.1.le (Lm.mu_le (normal_lm p)))
  | .not p, h => negated_hb (normal_hb p h.2.2) (h.1.le (Wt.add_le .rfl (normal_wt p)))
  | .row ps, h => rowF_hb _ _ (normals_hb ps h.2.2) (h.1.le (normals_wtP ps)) (h.2.1.le (Lm.cap_le (normals_lmP ps)))
  | .or ps, h => either_hb (normals_hb ps h.2.2) (h.1.le (normals_wtS ps)) (h.2.1.le (normals_lmS ps))
  | .and ps, h => both_hb (normals_hb ps h.2.2) (h.1.le (Wt.add_le .rfl (normals_wtS ps))) (h.2.1.le (normals_lmS ps))
theorem normals_hb {k : Nat} : ∀ ps : List Pat, HbL k ps → ∀ q ∈ normals ps, Hb k q
  | [], _, _, a => by cases a
  | p :: ps, h, q, a => (List.mem_cons.mp a).elim (fun e => e ▸ normal_hb p h.1) (normals_hb ps h.2 q)
end
/-! behind a sign -/
theorem row_sh (s : Nat) (p : Pat) (ps : List Pat) : Sh (wtP (behind s p :: ps)) (wtP (p :: ps)) := by
  have h := behind_wt s p
  refine ⟨Nat.le_trans (Nat.mul_le_mul_right _ h.x) (Nat.le_add_right _ _), ?_⟩
  show (wt (behind s p)).y * (wtP ps).x + (wt (behind s p)).x * (wtP ps).y ≤ (wt p).z * (wtP ps).x + 2 * ((wt p).y * (wtP ps).y) + (wt p).x * (wtP ps).z
  have h1 := Nat.mul_le_mul_right (wtP ps).x h.y
  have h2 := Nat.mul_le_mul_right (wtP ps).y h.x
  omega
theorem row_lh (s : Nat) (p : Pat) (ps : List Pat) : Lh (Lm.cap (lmP (behind s p :: ps))) (Lm.cap (lmP (p :: ps))) := by
  have h := behind_lm s p
  have := h.a; have := h.b
  refine ⟨?_, ?_⟩ <;> simp only [lmP, Lm.cat, Lm.cap] <;> omega
theorem many_sh (s : Nat) (p : Pat) : Sh (wtP [behind s p, .many p]) (wt (.many p)) := by
  have h := behind_wt s p
  show Sh (Wt.mul (wt (behind s p)) (Wt.mul (Wt.mu (wt p)) Wt.one)) (Wt.mu (wt p))
  rw [Wt.mul_one]
  refine ⟨?_, ?_⟩
  · show (wt (behind s p)).x * 1 ≤ (wt p).y
    rw [Nat.mul_one]; exact h.x
  · show (wt (behind s p)).y * 1 + (wt (behind s p)).x * (wt p).y ≤ (wt p).z + (wt p).y * (wt p).y
    rw [Nat.mul_one]
    exact Nat.add_le_add h.y (Nat.mul_le_mul_right _ h.x)
theorem many_lh (s : Nat) (p : Pat) : Lh (Lm.cap (lmP [behind s p, .many p])) (lm (.many p)) := by
  have h := behind_lm s p
  have := h.a; have := h.b
  refine ⟨?_, ?_⟩ <;> simp only [lmP, lm, Lm.cap, Lm.mu, Lm.cat, Lm.nul] <;> omega
mutual
theorem behind_hb {k : Nat} (hk : k ≤ 1) (s : Nat) : ∀ p : Pat, Hb (k + 1) p → Hb k (behind s p)
  | .none, _ => trivial
  | .empty, _ => trivial
  | .sign c, _ => by rw [behind]; split <;> trivial
  | .many p, h => rowF_hb _ _ (fun q a => (List.mem_cons.mp a).elim (fun e => e ▸ behind_hb hk s p h.2.2.2) fun a => List.mem_singleton.mp a ▸ hb_down (.many p) h) (h.2.1.sh (many_sh s p) hk) (h.2.2.1.sh (many_lh s p) hk)
  | .not p, h => negated_hb (behind_hb hk s p h.2.2) (h.1.sh (sh_u.add (behind_wt s p)) hk)
  | .row ps, h => either_hb (rowB_hb hk s ps h.1 h.2.1 h.2.2) (h.1.sh (rowB_wt s ps) hk) (h.2.1.sh (rowB_lm s ps) hk)
  | .or ps, h => either_hb (behinds_hb hk s ps h.2.2) (h.1.sh (behinds_wt s ps) hk) (h.2.1.sh (behinds_lm s ps) hk)
  | .and ps, h => both_hb (behinds_hb hk s ps h.2.2) (h.1.sh (sh_u.add (behinds_wt s ps)) hk) (h.2.1.sh (behinds_lm s ps) hk)
theorem behinds_hb {k : Nat} (hk : k ≤ 1) (s : Nat) : ∀ ps : List Pat, HbL (k + 1) ps → ∀ q ∈ behinds s ps, Hb k q
  | [], _, _, a => by cases a
  | p :: ps, h, q, a => (List.mem_cons.mp a).elim (fun e => e ▸ behind_hb hk s p h.1) (behinds_hb hk s ps h.2 q)
theorem rowB_hb {k : Nat} (hk : k ≤ 1) (s : Nat) : ∀ ps : List Pat, WB (k + 1) (wtP ps) → LB (k + 1) (Lm.cap (lmP ps)) → HbL (k + 1) ps → ∀ q ∈ rowB s ps, Hb k q
  | [], _, _, _, _, a => by cases a
  | p :: ps, w, l, h, q, a => by
    rw [rowB] at a
    rcases List.mem_cons.mp a with e | a
    · rw [e]
      exact rowF_hb _ _ (fun r b => (List.mem_cons.mp b).elim (fun e => e ▸ behind_hb hk s p h.1) fun b => hb_down r (HbL_iff.mp h.2 r b)) (w.sh (row_sh s p ps) hk) (l.sh (row_lh s p ps) hk)
    · split at a
      · rename_i hn
        exact rowB_hb hk s ps (w.le (Wt.le_mulR (null_x p hn))) (l.le (Lm.cap_le (Lm.le_catR _ _))) h.2 q a
      · cases a
end
/-! a pattern of at most ten nodes -/
theorem small_wb {w : Wt} {n : Nat} (h : Small w n) (hn : n ≤ 10) : WB 2 w :=
  ⟨Nat.le_trans h.x (Nat.le_trans (Nat.pow_le_pow_right (by decide) hn) (by decide)), fun _ => Nat.le_trans h.y (Nat.le_trans (Nat.pow_le_pow_right (by decide) hn) (by decide)), fun _ => Nat.le_trans h.z (Nat.le_trans (Nat.pow_le_pow_right (by decide) hn) (by decide))⟩
theorem size_lb {l : Lm} {n : Nat} (h : Lm.Le l ⟨n, n, n⟩) (hn : n ≤ 11) : LB 2 l := ⟨Nat.le_trans h.a hn, fun _ => Nat.le_trans h.b hn, fun _ => Nat.le_trans h.c hn⟩
mutual
theorem hb_size : ∀ p : Pat, p.size ≤ 11 → Hb 2 p
  | .none, _ => trivial
  | .empty, _ => trivial
  | .sign _, _ => trivial
  | .row ps, h => ⟨small_wb (wt_small (.row ps)) (by omega), size_lb (lm_size (.row ps)) h, hbL_size ps (Nat.le_of_succ_le h)⟩
  | .or ps, h => ⟨small_wb (wt_small (.or ps)) (by omega), size_lb (lm_size (.or ps)) h, hbL_size ps (Nat.le_of_succ_le h)⟩
  | .and ps, h => ⟨small_wb (wt_small (.and ps)) (by omega), size_lb (lm_size (.and ps)) h, hbL_size ps (Nat.le_of_succ_le h)⟩
  | .many p, h => ⟨Nat.le_trans (kp_size p) (Nat.le_trans (Nat.pow_le_pow_right (by decide) (Nat.le_of_succ_le h)) (by decide)), small_wb (wt_small (.many p)) (by omega), size_lb (lm_size (.many p)) h, hb_size p (Nat.le_of_succ_le h)⟩
  | .not p, h => ⟨small_wb (wt_small (.not p)) (by omega), size_lb (lm_size p) (Nat.le_of_succ_le h), hb_size p (Nat.le_of_succ_le h)⟩
theorem hbL_size : ∀ ps : List Pat, sizeL ps ≤ 11 → HbL 2 ps
  | [], _ => trivial
  | p :: ps, h => ⟨hb_size p (Nat.le_trans (Nat.le_add_right _ _) h), hbL_size ps (Nat.le_trans (Nat.le_add_left _ _) h)⟩
end
/-! how long the spread lists are -/
mutual
theorem nf_x : ∀ p : Pat, NF p → p ≠ .none → 1 ≤ (wt p).x
  | .none, _, n => absurd rfl n
  | .empty, _, _ => Nat.le_refl _
  | .sign _, _, _ => Nat.le_refl _
  | .many p, _, _ => Nat.le_refl _
  | .not p, _, _ => Nat.le_add_right _ _
  | .and ps, _, _ => Nat.le_add_right _ _
  | .row ps, h, _ => nfP_x ps h.2.2
  | .or ps, h, _ => by
    have := nfS_x cO (fun p a => by unfold cO at a; simp only [Bool.and_eq_true, Bool.not_eq_true', decide_eq_false_iff_not] at a; exact a.2) ps h.2
    have := h.1
    show 1 ≤ (wtS ps).x
    omega
theorem nfP_x : ∀ ps : List Pat, NFl cR ps → 1 ≤ (wtP ps).x
  | [], _ => Nat.le_refl _
  | p :: ps, h => by
    have hn : p ≠ .none := by
      have := h.1
      unfold cR at this
      simp only [Bool.and_eq_true, Bool.not_eq_true', decide_eq_false_iff_not] at this
      exact this.2.1
    exact Nat.mul_pos (nf_x p h.2.1 hn) (nfP_x ps h.2.2)
theorem nfS_x (c : Pat → Bool) (hc : ∀ p, c p = true → p ≠ .none) : ∀ ps : List Pat, NFl c ps → ps.length ≤ (wtS ps).x
  | [], _ => Nat.le_refl _
  | p :: ps, h => by
    have := nf_x p h.2.1 (hc p h.1)
    have := nfS_x c hc ps h.2.2
    show ps.length + 1 ≤ (wt p).x + (wtS ps).x
    omega
end
theorem cO_none (p : Pat) (a : cO p = true) : p ≠ .none := by
  unfold cO at a; simp only [Bool.and_eq_true, Bool.not_eq_true', decide_eq_false_iff_not] at a; exact a.2
theorem cA_none (p : Pat) (a : cA p = true) : p ≠ .none := by
  unfold cA at a; simp only [Bool.and_eq_true, Bool.not_eq_true', decide_eq_false_iff_not] at a; exact a.2
theorem spreadO_len : ∀ ps : List Pat, (∀ p ∈ ps, NF p) → (spread partsO ps).length ≤ ps.length + (wtS ps).x
  | [], _ => Nat.le_refl _
  | p :: ps, h => by
    have ih := spreadO_len ps fun q a => h q (List.mem_cons_of_mem _ a)
    have hp := h p List.mem_cons_self
    have h1 : (partsO p).length ≤ 1 + (wt p).x := by
      cases p with
      | or qs => exact Nat.le_trans (nfS_x cO cO_none qs hp.2) (Nat.le_add_left _ _)
      | _ => exact Nat.le_add_right _ _
    show (partsO p ++ spread partsO ps).length ≤ ps.length + 1 + ((wt p).x + (wtS ps).x)
    rw [List.length_append]
    omega
theorem spreadA_len : ∀ ps : List Pat, (∀ p ∈ ps, NF p) → (spread partsA ps).length ≤ ps.length + (wtS ps).x
  | [], _ => Nat.le_refl _
  | p :: ps, h => by
    have ih := spreadA_len ps fun q a => h q (List.mem_cons_of_mem _ a)
    have hp := h p List.mem_cons_self
    have h1 : (partsA p).length ≤ 1 + (wt p).x := by
      cases p with
      | and qs => exact Nat.le_trans (nfS_x cA cA_none qs hp.2) (Nat.le_trans (Nat.le_add_left _ 1) (Nat.le_add_left _ _))
      | _ => exact Nat.le_add_right _ _
    show (partsA p ++ spread partsA ps).length ≤ ps.length + 1 + ((wt p).x + (wtS ps).x)
    rw [List.length_append]
    omega
/-- the widths of a pattern in the fixed form -/
theorem nf_width {ps : List Pat} (h : NF (.or ps)) : ps.length ≤ (wtS ps).x := nfS_x cO cO_none ps h.2
theorem nf_widthA {ps : List Pat} (h : NF (.and ps)) : ps.length ≤ (wtS ps).x := nfS_x cA cA_none ps h.2
end Bo
set_option Elab.async false
set_option linter.all false
set_option maxRecDepth 100000
/-! the signs of what is told are signs of what was asked -/
namespace Bo
mutual
def Sg (P : Nat → Prop) : Pat → Prop
  | .sign c => P c
  | .row ps => SgL P ps
  | .or ps => SgL P ps
  | .and ps => SgL P ps
  | .many p => Sg P p
  | .not p => Sg P p
  | _ => True
def SgL (P : Nat → Prop) : List Pat → Prop
  | [] => True
  | p :: ps => Sg P p ∧ SgL P ps
end
variable {P : Nat → Prop}
theorem SgL_iff : ∀ {ps : List Pat}, SgL P ps ↔ ∀ p ∈ ps, Sg P p
  | [] => ⟨fun _ _ h => (by cases h), fun _ => trivial⟩
  | p :: ps => ⟨fun h q a => (List.mem_cons.mp a).elim (fun e => e ▸ h.1) fun a => SgL_iff.mp h.2 q a, fun h => ⟨h p List.mem_cons_self, SgL_iff.mpr fun q a => h q (List.mem_cons_of_mem _ a)⟩⟩
theorem joined_sg {mk : List Pat → Pat} {ps : List Pat} {z : Pat} (h0 : Sg P z) (h1 : ∀ p ∈ ps, Sg P p) (h2 : Sg P (mk ps)) : Sg P (joined mk ps z) := by
  match ps, h1, h2 with
  | [], _, _ => exact h0
  | [p], h1, _ => exact h1 p (List.mem_singleton.mpr rfl)
  | p :: q :: r, _, h2 => exact h2
theorem partsO_sg {p q : Pat} (h : Sg P p) (a : q ∈ partsO p) : Sg P q := by
  cases p with
  | or ps => exact SgL_iff.mp h q a
  | _ => rw [List.mem_singleton.mp a]; exact h
theorem partsA_sg {p q : Pat} (h : Sg P p) (a : q ∈ partsA p) : Sg P q := by
  cases p with
  | and ps => exact SgL_iff.mp h q a
  | _ => rw [List.mem_singleton.mp a]; exact h
theorem pieces_sg {p q : Pat} (h : Sg P p) (a : q ∈ pieces p) : Sg P q := by
  cases p with
  | row ps => exact SgL_iff.mp h q a
  | _ => rw [List.mem_singleton.mp a]; exact h
theorem either_sg {ps : List Pat} (h : ∀ p ∈ ps, Sg P p) : Sg P (either ps) := by
  have hk : ∀ p ∈ keptO ps, Sg P p := fun p a => let ⟨q, hq, b⟩ := spread_mem (needed_mem a); partsO_sg (h q hq) b
  unfold either
  split
  · exact trivial
  · exact joined_sg trivial hk (SgL_iff.mpr hk)
theorem both_sg {ps : List Pat} (h : ∀ p ∈ ps, Sg P p) : Sg P (both ps) := by
  have hk : ∀ p ∈ keptA ps, Sg P p := fun p a => let ⟨q, hq, b⟩ := spread_mem (needed_mem a); partsA_sg (h q hq) b
  unfold both
  split
  · exact trivial
  · split
    · exact trivial
    · exact joined_sg trivial hk (SgL_iff.mpr hk)
theorem negated_sg {p : Pat} (h : Sg P p) : Sg P (negated p) := by cases p <;> exact h
theorem keptR_sg {ps : List Pat} (h : ∀ p ∈ ps, Sg P p) : ∀ p ∈ keptR ps, Sg P p := fun p a => let ⟨q, hq, b⟩ := spread_mem (List.mem_filter.mp (short_mem a)).1; pieces_sg (h q hq) b
theorem rowF_sg : ∀ (n : Nat) (ps : List Pat), (∀ p ∈ ps, Sg P p) → Sg P (rowF n ps)
  | 0, _, _ => trivial
  | n + 1, ps, h => by
    have hk := keptR_sg h
    unfold rowF
    split
    · exact trivial
    · generalize keptR ps = ks at hk
      split
      · rename_i fs rest
        refine either_sg fun q hq => ?_
        obtain ⟨f, hf, rfl⟩ := List.mem_map.mp hq
        refine rowF_sg n _ fun r hr => ?_
        rcases List.mem_cons.mp hr with e | hr
        · rw [e]; exact SgL_iff.mp (show SgL P fs from hk _ List.mem_cons_self) f hf
        · exact hk r (List.mem_cons_of_mem _ hr)
      · exact joined_sg trivial hk (SgL_iff.mpr hk)
mutual
theorem pk_sg : ∀ (p : Pat), Sg P p → ∀ q ∈ pk p, Sg P q
  | .none, _, _, a => by cases a
  | .empty, _, _, a => by cases a
  | .many p, h, q, a => pk_sg p h q a
  | .sign _, h, q, a => by rw [List.mem_singleton.mp a]; exact h
  | .and ps, h, q, a => by rw [List.mem_singleton.mp a]; exact h
  | .not p, h, q, a => by rw [List.mem_singleton.mp a]; exact h
  | .or ps, h, q, a => pks_sg ps h q a
  | .row ps, h, q, a => by
    rw [pk] at a
    split at a
    · exact pks_sg ps h q a
    · rw [List.mem_singleton.mp a]; exact h
theorem pks_sg : ∀ (ps : List Pat), SgL P ps → ∀ q ∈ pks ps, Sg P q
  | [], _, _, a => by cases a
  | p :: ps, h, q, a => (List.mem_append.mp a).elim (pk_sg p h.1 q) (pks_sg ps h.2 q)
end
theorem manyOf_sg {p : Pat} (h : Sg P p) : Sg P (manyOf p) := by
  have hi : Sg P (either (keptM p)) := either_sg fun q a => pk_sg p h q (keptM_mem a)
  unfold manyOf manyE
  split
  · exact trivial
  · split
    · exact trivial
    · exact hi
mutual
theorem normal_sg : ∀ p : Pat, Sg P p → Sg P (normal p)
  | .none, _ => trivial
  | .empty, _ => trivial
  | .sign _, h => h
  | .many p, h => manyOf_sg (normal_sg p h)
  | .not p, h => negated_sg (normal_sg p h)
  | .row ps, h => rowF_sg _ _ (normals_sg ps h)
  | .or ps, h => either_sg (normals_sg ps h)
  | .and ps, h => both_sg (normals_sg ps h)
theorem normals_sg : ∀ ps : List Pat, SgL P ps → ∀ q ∈ normals ps, Sg P q
  | [], _, _, a => by cases a
  | p :: ps, h, q, a => (List.mem_cons.mp a).elim (fun e => e ▸ normal_sg p h.1) (normals_sg ps h.2 q)
end
mutual
theorem behind_sg (s : Nat) : ∀ p : Pat, Sg P p → Sg P (behind s p)
  | .none, _ => trivial
  | .empty, _ => trivial
  | .sign c, _ => by rw [behind]; split <;> exact trivial
  | .many p, h => rowF_sg _ _ fun q a => (List.mem_cons.mp a).elim (fun e => e ▸ behind_sg s p h) fun a => List.mem_singleton.mp a ▸ h
  | .not p, h => negated_sg (behind_sg s p h)
  | .row ps, h => either_sg (rowB_sg s ps h)
  | .or ps, h => either_sg (behinds_sg s ps h)
  | .and ps, h => both_sg (behinds_sg s ps h)
theorem behinds_sg (s : Nat) : ∀ ps : List Pat, SgL P ps → ∀ q ∈ behinds s ps, Sg P q
  | [], _, _, a => by cases a
  | p :: ps, h, q, a => (List.mem_cons.mp a).elim (fun e => e ▸ behind_sg s p h.1) (behinds_sg s ps h.2 q)
theorem rowB_sg (s : Nat) : ∀ ps : List Pat, SgL P ps → ∀ q ∈ rowB s ps, Sg P q
  | [], _, _, a => by cases a
  | p :: ps, h, q, a => by
    rw [rowB] at a
    rcases List.mem_cons.mp a with e | a
    · rw [e]
      exact rowF_sg _ _ fun r b => (List.mem_cons.mp b).elim (fun e => e ▸ behind_sg s p h.1) (SgL_iff.mp h.2 r)
    · split at a
      · exact rowB_sg s ps h.2 q a
      · cases a
end
theorem left_sg {p : Pat} (s : Nat) (h : Sg P p) : Sg P (left p s) := behind_sg s _ (normal_sg p h)
end Bo
set_option Elab.async false
set_option linter.all false
set_option maxRecDepth 100000
set_option maxHeartbeats 0
namespace Bo
open PySem PySem.Spec PyProof.Rows L2
def top (i : Nat) : Stmt := PySem.Challenge.pw_bothreed_k05_what_is_left.main.body.getD i (.Pass ⟨0, 0, 0, 0⟩)
abbrev sTakesEmpty : Stmt := top 4
abbrev sCovers : Stmt := top 7
abbrev sCoversByShape : Stmt := top 8
abbrev sManyCovers : Stmt := top 9
abbrev sRowCovers : Stmt := top 10
abbrev sPiecesOf : Stmt := top 11
abbrev sNormal : Stmt := top 13
abbrev sNegated : Stmt := top 14
abbrev sEither : Stmt := top 15
abbrev sBoth : Stmt := top 16
abbrev sJoined : Stmt := top 17
abbrev sNeeded : Stmt := top 18
abbrev sCovered : Stmt := top 19
abbrev sSpread : Stmt := top 20
abbrev sRowOf : Stmt := top 21
abbrev sShortened : Stmt := top 22
abbrev sTakesAlong : Stmt := top 23
abbrev sManyOf : Stmt := top 24
abbrev sPieceKinds : Stmt := top 25
abbrev sEmpty : Stmt := top 27
abbrev sLeft : Stmt := top 28
abbrev sBehind : Stmt := top 29
abbrev sRowBehind : Stmt := top 30
abbrev sLawCellAt : Stmt := top 32
abbrev sLawLetters : Stmt := top 33
abbrev sLawSize : Stmt := top 34
abbrev sLawStep : Stmt := top 35
abbrev sLawDrawn : Stmt := top 36
abbrev sLawEnds : Stmt := top 37
abbrev sLawRowEnds : Stmt := top 38
abbrev sLawManyEnds : Stmt := top 39
abbrev sLawFit : Stmt := top 40
abbrev sLawTexts : Stmt := top 41
abbrev sLawShaped : Stmt := top 42
abbrev sLawBehind : Stmt := top 43
abbrev sLawWide : Stmt := top 44
abbrev sLaw : Stmt := top 45
def dTakesEmpty : He.DefD := ⟨("takes_empty", none), "takes_empty", "takes_empty", defArgs sTakesEmpty, defBody sTakesEmpty, defScope sTakesEmpty, [], []⟩
def dCovers : He.DefD := ⟨("covers", none), "covers", "covers", defArgs sCovers, defBody sCovers, defScope sCovers, [.int 8], []⟩
def dCoversByShape : He.DefD := ⟨("covers_by_shape", none), "covers_by_shape", "covers_by_shape", defArgs sCoversByShape, defBody sCoversByShape, defScope sCoversByShape, [], []⟩
def dManyCovers : He.DefD := ⟨("many_covers", none), "many_covers", "many_covers", defArgs sManyCovers, defBody sManyCovers, defScope sManyCovers, [], []⟩
def dRowCovers : He.DefD := ⟨("row_covers", none), "row_covers", "row_covers", defArgs sRowCovers, defBody sRowCovers, defScope sRowCovers, [], []⟩
def dPiecesOf : He.DefD := ⟨("pieces_of", none), "pieces_of", "pieces_of", defArgs sPiecesOf, defBody sPiecesOf, defScope sPiecesOf, [], []⟩
def dNormal : He.DefD := ⟨("normal", none), "normal", "normal", defArgs sNormal, defBody sNormal, defScope sNormal, [], []⟩
def dNegated : He.DefD := ⟨("negated", none), "negated", "negated", defArgs sNegated, defBody sNegated, defScope sNegated, [], []⟩
def dEither : He.DefD := ⟨("either", none), "either", "either", defArgs sEither, defBody sEither, defScope sEither, [], []⟩
def dBoth : He.DefD := ⟨("both", none), "both", "both", defArgs sBoth, defBody sBoth, defScope sBoth, [], []⟩
def dJoined : He.DefD := ⟨("joined", none), "joined", "joined", defArgs sJoined, defBody sJoined, defScope sJoined, [], []⟩
def dNeeded : He.DefD := ⟨("needed", none), "needed", "needed", defArgs sNeeded, defBody sNeeded, defScope sNeeded, [], []⟩
def dCovered : He.DefD := ⟨("covered", none), "covered", "covered", defArgs sCovered, defBody sCovered, defScope sCovered, [], []⟩
def dSpread : He.DefD := ⟨("spread", none), "spread", "spread", defArgs sSpread, defBody sSpread, defScope sSpread, [], []⟩
def dRowOf : He.DefD := ⟨("row_of", none), "row_of", "row_of", defArgs sRowOf, defBody sRowOf, defScope sRowOf, [], []⟩
def dShortened : He.DefD := ⟨("shortened", none), "shortened", "shortened", defArgs sShortened, defBody sShortened, defScope sShortened, [], []⟩
def dTakesAlong : He.DefD := ⟨("takes_along", none), "takes_along", "takes_along", defArgs sTakesAlong, defBody sTakesAlong, defScope sTakesAlong, [], []⟩
def dManyOf : He.DefD := ⟨("many_of", none), "many_of", "many_of", defArgs sManyOf, defBody sManyOf, defScope sManyOf, [], []⟩
def dPieceKinds : He.DefD := ⟨("piece_kinds", none), "piece_kinds", "piece_kinds", defArgs sPieceKinds, defBody sPieceKinds, defScope sPieceKinds, [], []⟩
def dEmpty : He.DefD := ⟨("empty", none), "empty", "empty", defArgs sEmpty, defBody sEmpty, defScope sEmpty, [], []⟩
def dLeft : He.DefD := ⟨("left", none), "left", "left", defArgs sLeft, defBody sLeft, defScope sLeft, [], []⟩
def dBehind : He.DefD := ⟨("behind", none), "behind", "behind", defArgs sBehind, defBody sBehind, defScope sBehind, [], []⟩
def dRowBehind : He.DefD := ⟨("row_behind", none), "row_behind", "row_behind", defArgs sRowBehind, defBody sRowBehind, defScope sRowBehind, [], []⟩
def dLawCellAt : He.DefD := ⟨("_law_cell_at", none), "_law_cell_at", "_law_cell_at", defArgs sLawCellAt, defBody sLawCellAt, defScope sLawCellAt, [], []⟩
def dLawLetters : He.DefD := ⟨("_law_letters", none), "_law_letters", "_law_letters", defArgs sLawLetters, defBody sLawLetters, defScope sLawLetters, [], []⟩
def dLawSize : He.DefD := ⟨("_law_size", none), "_law_size", "_law_size", defArgs sLawSize, defBody sLawSize, defScope sLawSize, [], []⟩
def dLawStep : He.DefD := ⟨("_law_step", none), "_law_step", "_law_step", defArgs sLawStep, defBody sLawStep, defScope sLawStep, [], []⟩
def dLawDrawn : He.DefD := ⟨("_law_drawn", none), "_law_drawn", "_law_drawn", defArgs sLawDrawn, defBody sLawDrawn, defScope sLawDrawn, [], []⟩
def dLawEnds : He.DefD := ⟨("_law_ends", none), "_law_ends", "_law_ends", defArgs sLawEnds, defBody sLawEnds, defScope sLawEnds, [], []⟩
def dLawRowEnds : He.DefD := ⟨("_law_row_ends", none), "_law_row_ends", "_law_row_ends", defArgs sLawRowEnds, defBody sLawRowEnds, defScope sLawRowEnds, [], []⟩
def dLawManyEnds : He.DefD := ⟨("_law_many_ends", none), "_law_many_ends", "_law_many_ends", defArgs sLawManyEnds, defBody sLawManyEnds, defScope sLawManyEnds, [], []⟩
def dLawFit : He.DefD := ⟨("_law_fit", none), "_law_fit", "_law_fit", defArgs sLawFit, defBody sLawFit, defScope sLawFit, [], []⟩
def dLawTexts : He.DefD := ⟨("_law_texts", none), "_law_texts", "_law_texts", defArgs sLawTexts, defBody sLawTexts, defScope sLawTexts, [], []⟩
def dLawShaped : He.DefD := ⟨("_law_shaped", none), "_law_shaped", "_law_shaped", defArgs sLawShaped, defBody sLawShaped, defScope sLawShaped, [], []⟩
def dLawBehind : He.DefD := ⟨("_law_behind", none), "_law_behind", "_law_behind", defArgs sLawBehind, defBody sLawBehind, defScope sLawBehind, [], []⟩
def dLawWide : He.DefD := ⟨("_law_wide", none), "_law_wide", "_law_wide", defArgs sLawWide, defBody sLawWide, defScope sLawWide, [], []⟩
def dLaw : He.DefD := ⟨("law", none), "law", "law", defArgs sLaw, defBody sLaw, defScope sLaw, [], []⟩
def fn : List He.DefD := [dTakesEmpty, dCovers, dCoversByShape, dManyCovers, dRowCovers, dPiecesOf, dNormal, dNegated, dEither, dBoth, dJoined, dNeeded, dCovered, dSpread, dRowOf, dShortened, dTakesAlong, dManyOf, dPieceKinds, dEmpty, dLeft, dBehind, dRowBehind, dLawCellAt, dLawLetters, dLawSize, dLawStep, dLawDrawn, dLawEnds, dLawRowEnds, dLawManyEnds, dLawFit, dLawTexts, dLawShaped, dLawBehind, dLawWide, dLaw]
def fa : List He.Fa := [.glo "takes_empty", .glo "covers", .glo "covers_by_shape", .glo "many_covers", .glo "row_covers", .glo "pieces_of", .glo "normal", .glo "negated", .glo "either", .glo "both", .glo "joined", .glo "needed", .glo "covered", .glo "spread", .glo "row_of", .glo "shortened", .glo "takes_along", .glo "many_of", .glo "piece_kinds", .glo "empty", .glo "left", .glo "behind", .glo "row_behind", .glo "_law_cell_at", .glo "_law_letters", .glo "_law_size", .glo "_law_step", .glo "_law_drawn", .glo "_law_ends", .glo "_law_row_ends", .glo "_law_many_ends", .glo "_law_fit", .glo "_law_texts", .glo "_law_shaped", .glo "_law_behind", .glo "_law_wide", .glo "law", .glo "NONE", .glo "EMPTY", .glo "ALL", .free "all", .free "any", .free "bool", .free "enumerate", .free "int", .free "isinstance", .free "len", .free "list", .free "max", .free "min", .free "range", .free "sorted", .free "str", .free "sum", .free "tuple", .free "zip", .int "DEPTH" 8]
def ts : List He.Tab := []
def tf : List He.Defn := [("takes_empty", none), ("covers", none), ("many_covers", none), ("row_covers", none), ("either", none), ("both", none), ("needed", none)]
def names0 : List PySem.Str := ["takes_empty", "covers", "covers_by_shape", "many_covers", "row_covers", "pieces_of", "normal", "negated", "either", "both", "joined", "needed", "covered", "spread", "row_of", "shortened", "takes_along", "many_of", "piece_kinds", "empty"]
def names1 : List PySem.Str := ["left", "behind", "row_behind", "_law_cell_at", "_law_letters", "_law_size", "_law_step", "_law_drawn", "_law_ends", "_law_row_ends", "_law_many_ends", "_law_fit", "_law_texts", "_law_shaped", "_law_behind", "_law_wide", "NONE", "EMPTY", "ALL", "DEPTH"]
def names : List PySem.Str := names0 ++ names1

/-- a tuple of texts of the top -/
def tupB (K : PySem.W.Frag) (a : Addr) (zs : List PySem.Str) : Bool := match K.lookup a with
  | some o => decide (o.cls = .type "tuple") && (match o.data with
    | .seq its _ => decide (its.toList.length ≤ 100) && decide (its.toList.map (fun u => match u with | .str z _ => some z | _ => none) = zs.map some)
    | _ => false)
  | none => false
def strB (K : PySem.W.Frag) (d : Addr) (k z : PySem.Str) : Bool := match PySem.W.nsIn K d k with
  | some (some (.str y _)) => decide (y = z)
  | _ => false
def brA (K : PySem.W.Frag) (d : Addr) (k : PySem.Str) : Addr := match PySem.W.nsIn K d k with
  | some (some (.ref a)) => a
  | _ => 0
def brB (K : PySem.W.Frag) (d : Addr) (k : PySem.Str) (zs : List PySem.Str) : Bool := decide (PySem.W.nsIn K d k = some (some (.ref (brA K d k)))) && tupB K (brA K d k) zs
/-- the not of none -/
def inA (K : PySem.W.Frag) (a : Addr) : Addr := match K.lookup a with
  | some o => (match o.data with
    | .seq its _ => (match its.toList with
      | [_, .ref b] => b
      | _ => 0)
    | _ => 0)
  | none => 0
def allB (K : PySem.W.Frag) (a : Addr) : Bool := (match K.lookup a with
  | some o => decide (o.cls = .type "tuple") && (match o.data with
    | .seq its _ => (match its.toList with
      | [.str z _, .ref _] => decide (z = ("not" : PySem.Str))
      | _ => false)
    | _ => false)
  | none => false) && tupB K (inA K a) ["none"]
def exT (K : PySem.W.Frag) : List Bool := [allB K (He.ga K "ALL"), tupB K (He.ga K "NONE") ["none"], tupB K (He.ga K "EMPTY") ["empty"]]
def ex (K : PySem.W.Frag) : Bool := (exT K).all id
abbrev R : PySem.W.OpenRow := PySem.W.OpenLaw.row PySem.Challenge.rw_bothreed_k05_what_is_left
abbrev hk : PySem.W.Hook := He.hookX 2 fa fn ts tf ex
def ob (s : PySem.W.SharedT) : He.AlX := He.obsX 2 fa fn ts tf ex (HandSHeadRun.getT s)
theorem ob_eq (s : PySem.W.SharedT) : ob s = hk.obs s.abs := He.obsX_eq (HandSHeadRun.getT_eq s)
theorem runEqF (w : World) (os : PySem.OsState) : (fun w => (HandSHeadRun.endF (HandSHeadRun.stepQ (HandSHeadRun.denQ HandSHeadRun.tabQ) R.prog w) 9000 R.prog w os).map (fun s => (HandSHeadRun.looksF R.prog (PySem.W.boot_heap w.params) s.abs, HandSHeadRun.seenQ (PySem.W.view R.prog [45]) names (PySem.importedModules R.prog.main.body) (fun s => PySem.W.xlAt (PySem.W.view R.prog [45]) [] s && PySem.W.recOk R.toRowW.records s) s.abs, ob s)) = some (true, PySem.W.openGood (PySem.W.view R.prog [45]) names, hk.val w)) (w.withFollow "special-get-raises" false) := by
  kernel_rfl
theorem runEqT (w : World) (os : PySem.OsState) : (fun w => (HandSHeadRun.endF (HandSHeadRun.stepQ (HandSHeadRun.denQ HandSHeadRun.tabQ) R.prog w) 9000 R.prog w os).map (fun s => (HandSHeadRun.looksF R.prog (PySem.W.boot_heap w.params) s.abs, HandSHeadRun.seenQ (PySem.W.view R.prog [45]) names (PySem.importedModules R.prog.main.body) (fun s => PySem.W.xlAt (PySem.W.view R.prog [45]) [] s && PySem.W.recOk R.toRowW.records s) s.abs, ob s)) = some (true, PySem.W.openGood (PySem.W.view R.prog [45]) names, hk.val w)) (w.withFollow "special-get-raises" true) := by
  kernel_rfl
theorem run (w : World) : HandSHeadRun.RunEq R (PySem.W.view R.prog [45]) hk ob 9000 names w :=
  PySem.W.byRow2 "special-get-raises" (P := fun w => HandSHeadRun.RunEq R (PySem.W.view R.prog [45]) hk ob 9000 names w) (fun w os => runEqF w os) (fun w os => runEqT w os) w
end Bo
set_option Elab.async false
set_option linter.all false
set_option maxRecDepth 100000
set_option maxHeartbeats 4000000
/-! readings in short: a pattern's head, its tests -/
namespace Bo
open PySem PySem.Spec PyProof.Rows L2 GE
abbrev FnP (K : PySem.W.Frag) (x : Str) (st : Stmt) (f : Addr) (fd : FuncData) : Prop := FunD K x x (defArgs st) (defBody st) (defScope st) [] [] f fd
section
variable {P : Program} {w : World} {K : PySem.W.Frag} {mg : Str → Option Value} {base : Heap}
/-- FunD.ok where the code object is known -/
theorem okC {CX : CXT} {x qual : Str} {params : Arguments} {body : List Stmt} {scope : Scope} {dvs : List V} {kws : List (Str × V)} {f : Addr} {fd : FuncData} {N ps : List Str} {k : Nat} {sp : Sp} {c : Addr} (F : FunD K x qual params body scope dvs kws f fd) (hc : fd.code = .ref c) (S : FnScope N ps scope) (len : ∀ vs H Q E, sp vs H Q E → vs.length = ps.length)
    (hbody : ∀ (A : Around) (outer : List Env) (s : Shared) (H : Hp) (vs : List V) (Q : VK) (E : XK), Room k (A.deeper (envOfC qual scope s.heap.objs.size f (.ref c))) → sp vs H Q E →
      ∃ t, PSs (cxOf CX P w K mg base N qual scope f (.ref c) A outer s H E) body t ∧ t { nx := fun _ H' => Q .non H', rt := Q } (start N vs) H) : FnOk P w K mg base CX (k + 1) f fd ps sp := by
  obtain ⟨oc, od, dV, kV, doc, pm, an, cdv, ct, osl, e, lk, hcd, _, _⟩ := F.ex
  subst e
  obtain rfl : cdv = .ref c := hc
  exact fn_of lk hcd S len fun A outer s H vs Q E hr hsp => hbody A outer s H vs Q E hr hsp
/-- FunD.ok for a def that lets nothing out -/
theorem okD {x qual : Str} {params : Arguments} {body : List Stmt} {scope : Scope} {dvs : List V} {kws : List (Str × V)} {f : Addr} {fd : FuncData} {N ps : List Str} {k : Nat} {sp : Sp} (F : FunD K x qual params body scope dvs kws f fd) (S : FnScope N ps scope) (len : ∀ vs H Q E, sp vs H Q E → vs.length = ps.length)
    (hbody : ∀ (cdv : Value) (A : Around) (outer : List Env) (s : Shared) (H : Hp) (vs : List V) (Q : VK) (E : XK), Room k (A.deeper (envOfC qual scope s.heap.objs.size f cdv)) → sp vs H Q E →
      ∃ t, PSs (cxOf CX0 P w K mg base N qual scope f cdv A outer s H E).nox body t ∧ t { nx := fun _ H' => Q .non H', rt := Q } (start N vs) H) : FnOk P w K mg base CX0 (k + 1) f fd ps sp :=
  F.ok S len fun cdv A outer s H vs Q E hr h => let ⟨t, a, b⟩ := hbody cdv A outer s H vs Q E hr h; ⟨t, a.nox, b⟩
end
def Pat.kind : Pat → Str
  | .none => "none" | .empty => "empty" | .sign _ => "sign" | .row _ => "row" | .or _ => "or" | .and _ => "and" | .many _ => "many" | .not _ => "not"
theorem PatAt.hd {H : Hp} : ∀ {p : Pat} {v : V}, PatAt H p v → ∃ a xs, v = .ref a ∧ H a = some (.tup (.str p.kind :: xs))
  | .none, _, ⟨a, e, h⟩ => ⟨a, _, e, h⟩
  | .empty, _, ⟨a, e, h⟩ => ⟨a, _, e, h⟩
  | .sign _, _, ⟨a, e, h⟩ => ⟨a, _, e, h⟩
  | .row _, _, ⟨a, b, vs, e, h, _⟩ => ⟨a, _, e, h⟩
  | .or _, _, ⟨a, b, vs, e, h, _⟩ => ⟨a, _, e, h⟩
  | .and _, _, ⟨a, b, vs, e, h, _⟩ => ⟨a, _, e, h⟩
  | .many _, _, ⟨a, u, e, h, _⟩ => ⟨a, _, e, h⟩
  | .not _, _, ⟨a, u, e, h, _⟩ => ⟨a, _, e, h⟩
section
variable {K : PySem.W.Frag} {σ : L2.St} {H : Hp} {a : Addr} {xs : List V} {v : V} {Q : VK} {D : Ends} {t u : TS}
/-- x[j], x a tuple in slot i -/
theorem r_ix {i : Nat} (j : Nat) (h0 : σ[i]? = some (some (.ref a))) (ha : H a = some (.tup xs)) (hx : xs[j]? = some v) (q : Q v H) : tOp (rIxT K) (tVar i) (tC (.int (j : Int))) σ H Q :=
  ⟨_, h0, a, xs, _, v, rfl, rfl, SqT.of ha, atI_nat hx, q⟩
theorem r_kind {i : Nat} {k z : Str} {Q : Bool → Hp → Prop} (h0 : σ[i]? = some (some (.ref a))) (ha : H a = some (.tup (.str k :: xs))) (q : Q (decide (k = z)) H) : tTest (tOp rEq (tOp (rIxT K) (tVar i) (tC (.int 0))) (tC (.str z))) σ H Q := by
  refine r_ix 0 h0 ha rfl ⟨rfl, _, rfl, ?_⟩
  have e : decide (V.str k = V.str z) = decide (k = z) := by rw [dec_str, Bool.beq_eq_decide_eq]
  rw [e]; exact q
theorem if_kT {i : Nat} {z : Str} (h0 : σ[i]? = some (some (.ref a))) (ha : H a = some (.tup (.str z :: xs))) (h : t D σ H) : tIfS (tTest (tOp rEq (tOp (rIxT K) (tVar i) (tC (.int 0))) (tC (.str z)))) t u D σ H :=
  r_kind h0 ha (iffT (decide_eq_true rfl) h)
theorem if_kF {i : Nat} {k z : Str} (h0 : σ[i]? = some (some (.ref a))) (ha : H a = some (.tup (.str k :: xs))) (n : k ≠ z) (h : u D σ H) : tIfS (tTest (tOp rEq (tOp (rIxT K) (tVar i) (tC (.int 0))) (tC (.str z)))) t u D σ H :=
  r_kind h0 ha (iffF (decide_eq_false n) h)
def tCs : List Str → TA
  | [] => tNil
  | z :: zs => tCons (tC (.str z)) (tCs zs)
theorem tCs_go : ∀ (zs : List Str) (Q : List V → Hp → Prop), Q (zs.map V.str) H → tCs zs σ H Q
  | [], Q, h => h
  | z :: zs, Q, h => tCs_go zs (fun ys H1 => Q (.str z :: ys) H1) h
theorem inV_str (k : Str) (zs : List Str) : inV (.str k) (zs.map V.str) = decide (k ∈ zs) := by
  unfold inV
  induction zs with
  | nil => rfl
  | cons z zs ih =>
    rw [List.map_cons, List.any_cons, ih]
    show (z == k || decide (k ∈ zs)) = decide (k ∈ z :: zs)
    rw [Bool.eq_iff_iff, Bool.or_eq_true, beq_iff_eq, decide_eq_true_eq, decide_eq_true_eq, List.mem_cons]
    exact ⟨fun h => h.elim (fun e => .inl e.symm) .inr, fun h => h.elim (fun e => .inl e.symm) .inr⟩
/-- x[0] in ("..", ..) -/
theorem r_in {i : Nat} {k : Str} (zs : List Str) (h0 : σ[i]? = some (some (.ref a))) (ha : H a = some (.tup (.str k :: xs))) (hz : zs.length ≤ 20) (q : ∀ p, H p = none → Q (.bl (decide (k ∈ zs))) (upd H p (.tup (zs.map V.str)))) :
    tOp (rIn K false) (tOp (rIxT K) (tVar i) (tC (.int 0))) (tTup (tCs zs)) σ H Q := by
  refine r_ix 0 h0 ha rfl (tCs_go zs _ ⟨?_, fun p np => ?_⟩)
  · rw [List.length_map]; exact Nat.le_of_lt (small1000 (by omega))
  · refine ⟨p, _, rfl, .inr (SqT.of upd_same), rfl, ?_, ?_⟩
    · rw [List.all_map, List.all_eq_true]; intro z _; rfl
    · rw [inV_str]; exact q p np
theorem if_inT {i : Nat} {k : Str} (zs : List Str) (h0 : σ[i]? = some (some (.ref a))) (ha : H a = some (.tup (.str k :: xs))) (hk : k ∈ zs) (h : ∀ p, H p = none → t D σ (upd H p (.tup (zs.map V.str)))) (hz : zs.length ≤ 20 := by decide) :
    tIfS (tTest (tOp (rIn K false) (tOp (rIxT K) (tVar i) (tC (.int 0))) (tTup (tCs zs)))) t u D σ H :=
  r_in zs h0 ha hz fun p np => ⟨_, rfl, iffT (decide_eq_true hk) (h p np)⟩
theorem if_inF {i : Nat} {k : Str} (zs : List Str) (h0 : σ[i]? = some (some (.ref a))) (ha : H a = some (.tup (.str k :: xs))) (hk : k ∉ zs) (h : ∀ p, H p = none → u D σ (upd H p (.tup (zs.map V.str)))) (hz : zs.length ≤ 20 := by decide) :
    tIfS (tTest (tOp (rIn K false) (tOp (rIxT K) (tVar i) (tC (.int 0))) (tTup (tCs zs)))) t u D σ H :=
  r_in zs h0 ha hz fun p np => ⟨_, rfl, iffF (decide_eq_false hk) (h p np)⟩
theorem t_seq {D : Ends} (h : t { D with nx := u D } σ H) : tSeq t u D σ H := h
theorem t_setC {v : V} {i : Nat} {D : Ends} (h : u D (σ.set i (some v)) H) : tSeq (tAsg (tC v) (gName i)) u D σ H := h
theorem t_set {te : TE} {i : Nat} {D : Ends} (h : te σ H fun x H1 => u D (σ.set i (some x)) H1) : tSeq (tAsg te (gName i)) u D σ H := h
/-- any, all over a tuple -/
theorem quant_tup {stopv : Bool} {T a : Addr} {xs : List V} {te : TE} {σ : L2.St} {H1 : Hp} {Q : VK} (h0 : GxR.TabG H1 T) (ha : H1 a = some (.tup xs)) (Pv : Nat → Hp → Prop) (p0 : ∀ H, Ext H1 H → Pv 0 H) (hl : ∀ i H, Pv i H → H a = some (.tup xs))
    (hs : ∀ i v H, xs[i]? = some v → Pv i H → te (σ ++ [some v]) H fun y H3 => ∃ b, y = .bl b ∧ if b = stopv then Q (.bl stopv) H3 else Pv (i + 1) H3) (hd : ∀ H, Pv xs.length H → Q (.bl (!stopv)) H) :
    GxR.TabG H1 T ∧ ∀ H2, GxR.Tabbed T H1 H2 → ∃ W : Nat → Nat → Hp → Prop, (∃ m, W 0 m H2) ∧ ∀ i m H, W i m H →
      ((Itt K a).stop i H ∧ Q (.bl (!stopv)) H) ∨ ((Itt K a).go i H ∧ ∃ Nx : Hp → Prop, (∀ H', Nx H' → ∃ m', m' < m ∧ W (i + 1) m' H') ∧ ∀ v H', (Itt K a).yld i H v H' → te (σ ++ [some v]) H' fun y H3 => ∃ b, y = .bl b ∧ if b = stopv then Q (.bl stopv) H3 else Nx H3) := by
  refine ⟨h0, fun H2 hT => ⟨fun i m H => i ≤ xs.length ∧ m = xs.length - i ∧ Pv i H, ⟨xs.length, Nat.zero_le _, rfl, p0 H2 (Ext.tabbed h0 hT)⟩, ?_⟩⟩
  rintro i m H ⟨hi, rfl, p⟩
  have q := hl i H p
  by_cases hlt : i < xs.length
  · refine .inr ⟨⟨xs, xs[i], SqT.of q, by simp [hlt]⟩, Pv (i + 1), fun H' p' => ⟨xs.length - (i + 1), by omega, hlt, rfl, p'⟩, fun v H' y => ?_⟩
    obtain ⟨e, y⟩ := y
    subst e
    exact hs i v H' (y xs (SqT.of q)) p
  · have e : i = xs.length := by omega
    subst e
    exact .inl ⟨⟨xs, SqT.of q, Nat.le_refl _⟩, hd H p⟩
end
end Bo
set_option Elab.async false
set_option linter.all false
set_option maxRecDepth 100000
set_option maxHeartbeats 4000000
namespace Bo
open PySem PySem.Spec PyProof.Rows L2 GE
/-! patterns at values, in the heap or of the top -/
mutual
def PatQ (K : PySem.W.Frag) (H : Hp) : Pat → V → Prop
  | .none => fun v => ∃ a, v = .ref a ∧ SqT K H a [.str "none"]
  | .empty => fun v => ∃ a, v = .ref a ∧ SqT K H a [.str "empty"]
  | .sign c => fun v => ∃ a, v = .ref a ∧ SqT K H a [.str "sign", .str ⟨#[c]⟩]
  | .row ps => fun v => ∃ a b vs, v = .ref a ∧ SqT K H a [.str "row", .ref b] ∧ H b = some (.tup vs) ∧ PatsQ K H ps vs
  | .or ps => fun v => ∃ a b vs, v = .ref a ∧ SqT K H a [.str "or", .ref b] ∧ H b = some (.tup vs) ∧ PatsQ K H ps vs
  | .and ps => fun v => ∃ a b vs, v = .ref a ∧ SqT K H a [.str "and", .ref b] ∧ H b = some (.tup vs) ∧ PatsQ K H ps vs
  | .many p => fun v => ∃ a u, v = .ref a ∧ SqT K H a [.str "many", u] ∧ PatQ K H p u
  | .not p => fun v => ∃ a u, v = .ref a ∧ SqT K H a [.str "not", u] ∧ PatQ K H p u
def PatsQ (K : PySem.W.Frag) (H : Hp) : List Pat → List V → Prop
  | [] => fun vs => vs = []
  | p :: ps => fun vs => ∃ v r, vs = v :: r ∧ PatQ K H p v ∧ PatsQ K H ps r
end
/-- the tuples stay -/
def Tk (K : PySem.W.Frag) (H H' : Hp) : Prop := ∀ a xs, SqT K H a xs → SqT K H' a xs
theorem Tk.refl {K : PySem.W.Frag} (H : Hp) : Tk K H H := fun _ _ h => h
theorem Tk.trans {K : PySem.W.Frag} {H H1 H2 : Hp} (a : Tk K H H1) (b : Tk K H1 H2) : Tk K H H2 := fun x xs h => b x xs (a x xs h)
theorem Ext.sqT {K : PySem.W.Frag} {H H' : Hp} (e : Ext H H') : Tk K H H' := fun a xs h => by
  rcases h with (h | ⟨o, h⟩) | h
  · exact .inl (.inl (e.keep _ _ h (fun ps z => by cases z)))
  · exact .inl (.inr ⟨o, e.keep _ _ h (fun ps z => by cases z)⟩)
  · exact .inr h
mutual
theorem PatQ.ext {K : PySem.W.Frag} {H H' : Hp} (e : Ext H H') : ∀ (p : Pat) (v : V), PatQ K H p v → PatQ K H' p v
  | .none, v, ⟨a, h1, h2⟩ => ⟨a, h1, e.sqT _ _ h2⟩
  | .empty, v, ⟨a, h1, h2⟩ => ⟨a, h1, e.sqT _ _ h2⟩
  | .sign c, v, ⟨a, h1, h2⟩ => ⟨a, h1, e.sqT _ _ h2⟩
  | .row ps, v, ⟨a, b, vs, h1, h2, h3, h4⟩ => ⟨a, b, vs, h1, e.sqT _ _ h2, e.tup h3, PatsQ.ext e ps vs h4⟩
  | .or ps, v, ⟨a, b, vs, h1, h2, h3, h4⟩ => ⟨a, b, vs, h1, e.sqT _ _ h2, e.tup h3, PatsQ.ext e ps vs h4⟩
  | .and ps, v, ⟨a, b, vs, h1, h2, h3, h4⟩ => ⟨a, b, vs, h1, e.sqT _ _ h2, e.tup h3, PatsQ.ext e ps vs h4⟩
  | .many p, v, ⟨a, u, h1, h2, h3⟩ => ⟨a, u, h1, e.sqT _ _ h2, PatQ.ext e p u h3⟩
  | .not p, v, ⟨a, u, h1, h2, h3⟩ => ⟨a, u, h1, e.sqT _ _ h2, PatQ.ext e p u h3⟩
theorem PatsQ.ext {K : PySem.W.Frag} {H H' : Hp} (e : Ext H H') : ∀ (ps : List Pat) (vs : List V), PatsQ K H ps vs → PatsQ K H' ps vs
  | [], vs, h => h
  | p :: ps, vs, ⟨v, r, h1, h2, h3⟩ => ⟨v, r, h1, PatQ.ext e p v h2, PatsQ.ext e ps r h3⟩
end
theorem PatsQ.len {K : PySem.W.Frag} {H : Hp} : ∀ {ps : List Pat} {vs : List V}, PatsQ K H ps vs → vs.length = ps.length
  | [], vs, h => by rw [show vs = [] from h]; rfl
  | p :: ps, vs, ⟨v, r, e, _, h⟩ => by rw [e, List.length_cons, List.length_cons, h.len]
theorem PatsQ.append {K : PySem.W.Frag} {H : Hp} : ∀ {ps qs : List Pat} {vs us : List V}, PatsQ K H ps vs → PatsQ K H qs us → PatsQ K H (ps ++ qs) (vs ++ us)
  | [], qs, vs, us, h, g => by rw [show vs = [] from h]; exact g
  | p :: ps, qs, vs, us, ⟨v, r, e, a, b⟩, g => by rw [e]; exact ⟨v, r ++ us, rfl, a, b.append g⟩
theorem PatsQ.cut {K : PySem.W.Frag} {H : Hp} : ∀ {ps qs : List Pat} {vs : List V}, PatsQ K H (ps ++ qs) vs → ∃ us ws, vs = us ++ ws ∧ PatsQ K H ps us ∧ PatsQ K H qs ws
  | [], qs, vs, h => ⟨[], vs, rfl, rfl, h⟩
  | p :: ps, qs, vs, ⟨v, r, e, a, b⟩ => by
    obtain ⟨us, ws, e2, c, d⟩ := PatsQ.cut (ps := ps) b
    exact ⟨v :: us, ws, by rw [e, e2]; rfl, ⟨v, us, rfl, a, c⟩, d⟩
theorem PatsQ.one {K : PySem.W.Frag} {H : Hp} {p : Pat} {v : V} (h : PatQ K H p v) : PatsQ K H [p] [v] := ⟨v, [], rfl, h, rfl⟩
theorem PatsQ.get {K : PySem.W.Frag} {H : Hp} : ∀ {ps : List Pat} {vs : List V} {i : Nat} {v : V}, PatsQ K H ps vs → vs[i]? = some v → ∃ p, ps[i]? = some p ∧ PatQ K H p v
  | [], vs, i, v, h, e => by rw [show vs = [] from h] at e; cases e
  | p :: ps, vs, 0, v, ⟨u, r, h, a, b⟩, e => by
    rw [h] at e
    cases (Option.some.inj e : u = v)
    exact ⟨p, rfl, a⟩
  | p :: ps, vs, i + 1, v, ⟨u, r, h, a, b⟩, e => by
    rw [h] at e
    exact PatsQ.get (ps := ps) b e
/-- a value by its kind and the rest -/
theorem PatQ.hd {K : PySem.W.Frag} {H : Hp} : ∀ {p : Pat} {v : V}, PatQ K H p v → ∃ a xs, v = .ref a ∧ SqT K H a (.str p.kind :: xs)
  | .none, _, ⟨a, e, h⟩ => ⟨a, _, e, h⟩
  | .empty, _, ⟨a, e, h⟩ => ⟨a, _, e, h⟩
  | .sign _, _, ⟨a, e, h⟩ => ⟨a, _, e, h⟩
  | .row _, _, ⟨a, b, vs, e, h, _⟩ => ⟨a, _, e, h⟩
  | .or _, _, ⟨a, b, vs, e, h, _⟩ => ⟨a, _, e, h⟩
  | .and _, _, ⟨a, b, vs, e, h, _⟩ => ⟨a, _, e, h⟩
  | .many _, _, ⟨a, u, e, h, _⟩ => ⟨a, _, e, h⟩
  | .not _, _, ⟨a, u, e, h, _⟩ => ⟨a, _, e, h⟩
/-! a pattern as data -/
mutual
def pd : Pat → PyData
  | .none => .tuple [.str "none"]
  | .empty => .tuple [.str "empty"]
  | .sign c => .tuple [.str "sign", .str ⟨#[c]⟩]
  | .row ps => .tuple [.str "row", .tuple (pdL ps)]
  | .or ps => .tuple [.str "or", .tuple (pdL ps)]
  | .and ps => .tuple [.str "and", .tuple (pdL ps)]
  | .many p => .tuple [.str "many", pd p]
  | .not p => .tuple [.str "not", pd p]
def pdL : List Pat → List PyData
  | [] => []
  | p :: ps => pd p :: pdL ps
end
mutual
theorem pd_dp {K : PySem.W.Frag} {H : Hp} : ∀ (p : Pat) (v : V), PatQ K H p v → Dp K H v (pd p)
  | .none, v, ⟨a, e, h⟩ => e ▸ .tup h (.cons (.str _) .nil)
  | .empty, v, ⟨a, e, h⟩ => e ▸ .tup h (.cons (.str _) .nil)
  | .sign c, v, ⟨a, e, h⟩ => e ▸ .tup h (.cons (.str _) (.cons (.str _) .nil))
  | .row ps, v, ⟨a, b, vs, e, h, hb, hp⟩ => e ▸ .tup h (.cons (.str _) (.cons (.tup (SqT.of hb) (pdL_dp ps vs hp)) .nil))
  | .or ps, v, ⟨a, b, vs, e, h, hb, hp⟩ => e ▸ .tup h (.cons (.str _) (.cons (.tup (SqT.of hb) (pdL_dp ps vs hp)) .nil))
  | .and ps, v, ⟨a, b, vs, e, h, hb, hp⟩ => e ▸ .tup h (.cons (.str _) (.cons (.tup (SqT.of hb) (pdL_dp ps vs hp)) .nil))
  | .many p, v, ⟨a, u, e, h, hp⟩ => e ▸ .tup h (.cons (.str _) (.cons (pd_dp p u hp) .nil))
  | .not p, v, ⟨a, u, e, h, hp⟩ => e ▸ .tup h (.cons (.str _) (.cons (pd_dp p u hp) .nil))
theorem pdL_dp {K : PySem.W.Frag} {H : Hp} : ∀ (ps : List Pat) (vs : List V), PatsQ K H ps vs → DpAll K H vs (pdL ps)
  | [], vs, e => (show vs = [] from e) ▸ .nil
  | p :: ps, vs, ⟨v, r, e, h, hp⟩ => e ▸ .cons (pd_dp p v h) (pdL_dp ps r hp)
end
mutual
theorem pd_depth : ∀ p : Pat, (pd p).depth ≤ 2 * p.dep
  | .none => by decide
  | .empty => by decide
  | .sign c => by show 0 + 1 ≤ 2 * 1; decide
  | .row ps => by
    have h := pdL_depth ps
    show max 0 (max (PyData.depthAll (pdL ps) + 1) 0) + 1 ≤ 2 * (depL ps + 1)
    omega
  | .or ps => by
    have h := pdL_depth ps
    show max 0 (max (PyData.depthAll (pdL ps) + 1) 0) + 1 ≤ 2 * (depL ps + 1)
    omega
  | .and ps => by
    have h := pdL_depth ps
    show max 0 (max (PyData.depthAll (pdL ps) + 1) 0) + 1 ≤ 2 * (depL ps + 1)
    omega
  | .many p => by
    have h := pd_depth p
    show max 0 (max (pd p).depth 0) + 1 ≤ 2 * (p.dep + 1)
    omega
  | .not p => by
    have h := pd_depth p
    show max 0 (max (pd p).depth 0) + 1 ≤ 2 * (p.dep + 1)
    omega
theorem pdL_depth : ∀ ps : List Pat, PyData.depthAll (pdL ps) ≤ 2 * depL ps
  | [] => Nat.le_refl _
  | p :: ps => by
    have h1 := pd_depth p
    have h2 := pdL_depth ps
    show max (pd p).depth (PyData.depthAll (pdL ps)) ≤ 2 * max p.dep (depL ps)
    omega
end

def Low (c : Nat) : Prop := c < 128
theorem sgn_ok : ∀ c, c < 128 → PyData.strOk ⟨#[c]⟩ = true := by decide +kernel
mutual
theorem pd_lay : ∀ p : Pat, Sg Low p → (pd p).canLay0 = true
  | .none, _ => by decide +kernel
  | .empty, _ => by decide +kernel
  | .sign c, h => by
    show (PyData.strOk "sign" && (PyData.strOk ⟨#[c]⟩ && true)) = true
    rw [sgn_ok c h]; decide +kernel
  | .row ps, h => by
    show (PyData.strOk "row" && (PyData.canLayAll0 (pdL ps) && true)) = true
    rw [pdL_lay ps h]; decide +kernel
  | .or ps, h => by
    show (PyData.strOk "or" && (PyData.canLayAll0 (pdL ps) && true)) = true
    rw [pdL_lay ps h]; decide +kernel
  | .and ps, h => by
    show (PyData.strOk "and" && (PyData.canLayAll0 (pdL ps) && true)) = true
    rw [pdL_lay ps h]; decide +kernel
  | .many p, h => by
    show (PyData.strOk "many" && ((pd p).canLay0 && true)) = true
    rw [pd_lay p h]; decide +kernel
  | .not p, h => by
    show (PyData.strOk "not" && ((pd p).canLay0 && true)) = true
    rw [pd_lay p h]; decide +kernel
theorem pdL_lay : ∀ ps : List Pat, SgL Low ps → PyData.canLayAll0 (pdL ps) = true
  | [], _ => rfl
  | p :: ps, h => by
    show ((pd p).canLay0 && PyData.canLayAll0 (pdL ps)) = true
    rw [pd_lay p h.1, pdL_lay ps h.2]; rfl
end
theorem eqv_str (a b : Str) : PyData.eqv (.str a) (.str b) = (a == b) := by simp [PyData.eqv]
theorem eqv_tup (a b : List PyData) : PyData.eqv (.tuple a) (.tuple b) = PyData.eqvAll a b := by simp [PyData.eqv]
theorem eqvA_cons (a b : PyData) (x y : List PyData) : PyData.eqvAll (a :: x) (b :: y) = (PyData.eqv a b && PyData.eqvAll x y) := by rw [PyData.eqvAll]
theorem pd_kind (p : Pat) : ∃ r, pd p = .tuple (.str p.kind :: r) := by cases p <;> exact ⟨_, by rw [pd]; rfl⟩
end Bo
set_option Elab.async false
set_option linter.all false
set_option maxRecDepth 100000
set_option maxHeartbeats 4000000
namespace Bo
open PySem PySem.Spec PyProof.Rows L2 GE
def kinds : Nat → Str
  | 0 => "and" | 1 => "empty" | 2 => "many" | 3 => "none" | 4 => "not" | 5 => "or" | 6 => "row" | _ => "sign"
theorem kind_rank (p : Pat) : p.kind = kinds (rank p) := by cases p <;> rfl
theorem rank_lt (p : Pat) : rank p < 8 := by cases p <;> simp [rank]
theorem kinds_ne : ∀ i, i < 8 → ∀ j, j < 8 → i ≠ j → (kinds i == kinds j) = false := by decide +kernel
theorem kinds_lt : ∀ i, i < 8 → ∀ j, j < 8 → decide ((kinds i).cps.toList < (kinds j).cps.toList) = decide (i < j) := by decide +kernel
theorem kind_ne {p q : Pat} (h : rank p ≠ rank q) : (p.kind == q.kind) = false := by rw [kind_rank, kind_rank]; exact kinds_ne _ (rank_lt p) _ (rank_lt q) h
theorem str_self (x : Str) : (x == x) = true := beq_self_eq_true x
theorem eqv_apart {p q : Pat} (h : rank p ≠ rank q) : PyData.eqv (pd p) (pd q) = decide (p = q) := by
  obtain ⟨r, e⟩ := pd_kind p
  obtain ⟨r', e'⟩ := pd_kind q
  rw [e, e', eqv_tup, eqvA_cons, eqv_str, kind_ne h, Bool.false_and]
  exact (decide_eq_false fun (e : p = q) => h (congrArg rank e)).symm
theorem eqv_two (k : Str) (a b : PyData) : PyData.eqv (.tuple [.str k, a]) (.tuple [.str k, b]) = PyData.eqv a b := by
  rw [eqv_tup, eqvA_cons, eqvA_cons, eqv_str, str_self]
  simp [PyData.eqvAll]
theorem dec_congr {a b : Prop} [Decidable a] [Decidable b] (h : a ↔ b) : decide a = decide b := decide_eq_decide.mpr h
theorem sgn_eq (a b : Nat) : ((⟨#[a]⟩ : Str) == ⟨#[b]⟩) = decide (a = b) := by
  by_cases h : a = b
  · subst h; simp
  · rw [decide_eq_false h]
    refine beq_eq_false_iff_ne.mpr fun e => h ?_
    injection e with e
    simpa using e
mutual
theorem eqv_pd : ∀ p q : Pat, PyData.eqv (pd p) (pd q) = decide (p = q)
  | .none, q => by
    cases q with
    | none => rw [decide_eq_true rfl]; decide +kernel
    | _ => exact eqv_apart (by simp [rank])
  | .empty, q => by
    cases q with
    | empty => rw [decide_eq_true rfl]; decide +kernel
    | _ => exact eqv_apart (by simp [rank])
  | .sign a, q => by
    cases q with
    | sign b => rw [pd, pd, eqv_two, eqv_str, sgn_eq]; exact dec_congr ⟨fun e => e ▸ rfl, fun e => by injection e⟩
    | _ => exact eqv_apart (by simp [rank])
  | .row a, q => by
    cases q with
    | row b => rw [pd, pd, eqv_two, eqv_tup, eqvL_pd a b]; exact dec_congr ⟨fun e => e ▸ rfl, fun e => by injection e⟩
    | _ => exact eqv_apart (by simp [rank])
  | .or a, q => by
    cases q with
    | or b => rw [pd, pd, eqv_two, eqv_tup, eqvL_pd a b]; exact dec_congr ⟨fun e => e ▸ rfl, fun e => by injection e⟩
    | _ => exact eqv_apart (by simp [rank])
  | .and a, q => by
    cases q with
    | and b => rw [pd, pd, eqv_two, eqv_tup, eqvL_pd a b]; exact dec_congr ⟨fun e => e ▸ rfl, fun e => by injection e⟩
    | _ => exact eqv_apart (by simp [rank])
  | .many a, q => by
    cases q with
    | many b => rw [pd, pd, eqv_two, eqv_pd a b]; exact dec_congr ⟨fun e => e ▸ rfl, fun e => by injection e⟩
    | _ => exact eqv_apart (by simp [rank])
  | .not a, q => by
    cases q with
    | not b => rw [pd, pd, eqv_two, eqv_pd a b]; exact dec_congr ⟨fun e => e ▸ rfl, fun e => by injection e⟩
    | _ => exact eqv_apart (by simp [rank])
theorem eqvL_pd : ∀ ps qs : List Pat, PyData.eqvAll (pdL ps) (pdL qs) = decide (ps = qs)
  | [], [] => by rw [decide_eq_true rfl]; rfl
  | [], q :: qs => by rw [decide_eq_false (by simp)]; rfl
  | p :: ps, [] => by rw [decide_eq_false (by simp)]; rfl
  | p :: ps, q :: qs => by
    rw [pdL, pdL, eqvA_cons, eqv_pd p q, eqvL_pd ps qs, ← Bool.decide_and]
    exact dec_congr ⟨fun ⟨a, b⟩ => a ▸ b ▸ rfl, fun e => List.cons.inj e⟩
end
/-! rules: two patterns; a pattern in a list, in a tuple -/
def rEqQ (K : PySem.W.Frag) : R2 := fun x y H Q => ∃ p q : Pat, PatQ K H p x ∧ PatQ K H q y ∧ Sg Low p ∧ Sg Low q ∧ p.dep ≤ 100 ∧ Q (.bl (decide (p = q))) H
def rNeQ (K : PySem.W.Frag) : R2 := fun x y H Q => ∃ p q : Pat, PatQ K H p x ∧ PatQ K H q y ∧ Sg Low p ∧ Sg Low q ∧ p.dep ≤ 100 ∧ Q (.bl (!decide (p = q))) H
def rInQ (K : PySem.W.Frag) : R2 := fun x y H Q => ∃ (p : Pat) (ps : List Pat) (b : Addr) (vs : List V), PatQ K H p x ∧ y = .ref b ∧ (SqL K H b vs ∨ SqT K H b vs) ∧ PatsQ K H ps vs ∧ Sg Low p ∧ SgL Low ps ∧ p.dep ≤ 100 ∧ Q (.bl (decide (p ∈ ps))) H
theorem any_pd (p : Pat) : ∀ ps : List Pat, ((pdL ps).any fun z => PyData.eqv z (pd p)) = decide (p ∈ ps)
  | [] => by simp [pdL]
  | q :: ps => by
    rw [pdL, List.any_cons, any_pd p ps, eqv_pd, ← Bool.decide_or]
    exact dec_congr (by rw [List.mem_cons]; exact or_congr eq_comm Iff.rfl)
section
variable {X : Cx} (hu : X.A.units + 300 < cLine)
include hu
theorem op_eqQ : OpR X (compareOp .Eq) (rEqQ X.K) := by
  intro pins s σ H x y v u Q I rx ry h
  obtain ⟨p, q, hx, hy, sp, sq, hd, k⟩ := h
  obtain ⟨as, r1⟩ := Dp.reads I (pd p) x v (pd_dp p x hx) rx
  obtain ⟨bs, r2⟩ := Dp.reads I (pd q) y u (pd_dp q y hy) ry
  have dd := pd_depth p
  refine SeqAt.compareEq_reads r1 r2 (pd_lay p sp) (pd_lay q sq) (by omega) ?_
  rw [eqv_pd]
  exact ⟨.bl _, H, I, rfl, k⟩
theorem op_neQ : OpR X (compareOp .NotEq) (rNeQ X.K) := by
  intro pins s σ H x y v u Q I rx ry h
  obtain ⟨p, q, hx, hy, sp, sq, hd, k⟩ := h
  obtain ⟨as, r1⟩ := Dp.reads I (pd p) x v (pd_dp p x hx) rx
  obtain ⟨bs, r2⟩ := Dp.reads I (pd q) y u (pd_dp q y hy) ry
  have dd := pd_depth p
  refine SeqAt.compareNe_reads r1 r2 (pd_lay p sp) (pd_lay q sq) (by omega) ?_
  rw [eqv_pd]
  exact ⟨.bl _, H, I, rfl, k⟩
theorem op_inQ : OpR X (compareOp .In) (rInQ X.K) := by
  intro pins s σ H x y v u Q I rx ry h
  obtain ⟨p, ps, b, vs, hx, rfl, hs, hp, sp, sps, hd, k⟩ := h
  obtain ⟨as, r1⟩ := Dp.reads I (pd p) x v (pd_dp p x hx) rx
  have dd := pd_depth p
  rw [← any_pd p ps] at k
  rcases hs with hs | hs
  · obtain ⟨bs, r2⟩ := Dp.reads I (.list (pdL ps)) (.ref b) u (.lst hs (pdL_dp ps vs hp)) ry
    exact SeqAt.in_list_reads r2 r1 (pdL_lay ps sps) (pd_lay p sp) (by omega) ⟨.bl _, H, I, rfl, k⟩
  · obtain ⟨bs, r2⟩ := Dp.reads I (.tuple (pdL ps)) (.ref b) u (.tup hs (pdL_dp ps vs hp)) ry
    exact SeqAt.in_tuple_reads r2 r1 (pdL_lay ps sps) (pd_lay p sp) (by omega) ⟨.bl _, H, I, rfl, k⟩
end
set_option maxRecDepth 8000 in
theorem ext_tup (l : Addr) (items : Array Value) (n : Nat) (b : Addr) (items2 : Array Value) (n2 : Nat) (dd : Option Addr) (sl : Array (Option Value)) (h0 : ¬(!items.isEmpty && Builtin.List.listTooLong (items.size + items2.size)) = true) (h1 : items.size ≤ sizeLine) (h2 : items.size + items2.size ≤ sizeLine) :
    Meets (Builtin.«list.extend» ⟨[.ref l, .ref b], []⟩) (fun _ R s => s.heap.get? l = some { cls := .type "list", dict := none, data := .seq items n, slots := #[] } ∧ s.heap.get? b = some { cls := .type "tuple", dict := dd, data := .seq items2 n2, slots := sl } ∧ R (.ok (.ret Value.none)) { s with heap := s.heap.update l (Obj.mapSeq fun x => x ++ items2), toks := s.toks }) :=
  .of_wp fun prog w A R s h => by
    obtain ⟨hq, gs, dr, tk, ost⟩ := s
    obtain ⟨hl, hb, kk⟩ := h
    have a1 := sub_tuple_tuple
    have a2 := sub_tuple_list
    have a3 := sub_list_list
    have a4 := sub_list_tuple
    have room : (items ++ items2).size ≤ sizeLine + 1 := by rw [Array.size_append]; omega
    wp_walk using (wpAny_updateSeq hl rfl (hz := h1) (_hz' := room)), AutoSeq1.wpAny_loadPart' hl, AutoSeq1.wpAny_loadPart' hb
    exact ⟨_, rfl, kk⟩
/-- a list takes on all that a tuple has -/
def rExtT (K : PySem.W.Frag) : V → List V → Hp → VK → Prop := fun x vs H Q => ∃ l b xs zs, x = .ref l ∧ vs = [.ref b] ∧ H l = some (.lst xs) ∧ SqT K H b zs ∧ xs.length + zs.length ≤ sizeLine ∧ Q .non (upd H l (.lst (xs ++ zs)))
theorem not_long {a b : Nat} (h : a + b ≤ sizeLine) : Builtin.List.listTooLong (a + b) = false := by
  unfold Builtin.List.listTooLong
  have : sizeLine = 16777216 := sizeLine_eq
  exact decide_eq_false (by omega)
theorem mt_extT {X : Cx} : MtM X "list.extend" (rExtT X.K) := by
  intro pins s σ H x vs v us Q I rx rv h
  obtain ⟨l, b, xs, zs, rfl, rfl, hH, hB, hz, q⟩ := h
  cases rx
  obtain ⟨u, rfl, ru⟩ := rv.one
  cases ru
  obtain ⟨z, its, n, r, hl, e⟩ := I.lstM hH
  obtain ⟨its2, r2, ⟨⟨cl, dd, da, sl⟩, e2, hc, n2, hd⟩, _⟩ := I.tuple hB
  simp only at hc hd
  subst hc hd
  have l1 : xs.length = its.length := r.length
  have l2 : zs.length = its2.length := r2.length
  have room : its.toArray.size + its2.toArray.size ≤ sizeLine := by rw [List.size_toArray, List.size_toArray]; omega
  refine call_meets F.slot_list_extend ⟨_, e, rfl⟩ F.entry_list_extend (F.args_list_extend_2 _ _)
    (ext_tup l its.toArray n b its2.toArray n2 dd sl (by rw [not_long room, Bool.and_false]; exact Bool.false_ne_true) (by rw [List.size_toArray]; omega) room) ⟨e, e2, ?_⟩
  refine ⟨.non, _, I.lset (its' := its ++ its2) hH e (by simp) (r.append r2) ?_, rfl, q⟩
  rw [List.length_append]
  omega
end Bo
set_option Elab.async false
set_option linter.all false
set_option maxRecDepth 100000
set_option maxHeartbeats 4000000
/-! a < b of tuples whose items compare up to the first that differ -/
namespace Bo
open PySem PySem.Spec PyProof.Rows L2 GE PySem.SeqAt
theorem tup_lt (l b : Addr) (xs ys : Array Value) (n m : Nat) (dx dy : Option Addr) (sx sy : Array (Option Value)) (e r : Nat → Bool) :
    Meets (Builtin.«tuple.__lt__» ⟨[.ref l, .ref b], []⟩) (fun A R s =>
      s.heap.get? l = some { cls := .type "tuple", dict := dx, data := .seq xs n, slots := sx } ∧
      s.heap.get? b = some { cls := .type "tuple", dict := dy, data := .seq ys m, slots := sy } ∧
      (∀ j (a1 : j < xs.size) (a2 : j < ys.size), (∀ i, i < j → e i = true) → EqAt A.in1 s xs[j] ys[j] (e j)) ∧
      (∀ j (a1 : j < xs.size) (a2 : j < ys.size), (∀ i, i < j → e i = true) → e j = false → RcLt A.in1 s xs[j] ys[j] (r j)) ∧
      R (.ok (.ret (.bool (firstLt e r (decide (xs.size < ys.size)) (List.range (min xs.size ys.size)))))) s) :=
  .of_wp fun prog w A R st hh => by
    obtain ⟨hq, gs, dr, tk, ost⟩ := st
    obtain ⟨kl, kb, ke, kr, kk⟩ := hh
    have sub := AutoSeq1.sub_tuple_tuple
    have len : (xs.toList.zip ys.toList).length = min xs.size ys.size := by simp
    wp_walk using AutoSeq1.wpAny_loadPart' kl, AutoSeq1.wpAny_loadPart' kb, wpAny_forIn_list _ (fun left acc s' => acc.1 = none ∧ s' = ⟨hq, gs, dr, tk, ost⟩ ∧ ∃ i, left = (xs.toList.zip ys.toList).drop i ∧ (∀ t, t < i → e t = true) ∧
      R (.ok (.ret (.bool (firstLt e r (decide (xs.size < ys.size)) ((List.range (min xs.size ys.size)).drop i))))) ⟨hq, gs, dr, tk, ost⟩) _
    case turn =>
      rintro ⟨y, x⟩ left acc s' ⟨hacc, rfl, i, hl, hpre, hR⟩
      have below : i < (xs.toList.zip ys.toList).length := by
        refine Nat.lt_of_not_le fun over => ?_
        rw [List.drop_of_length_le over] at hl
        cases hl
      have mn : i < min xs.size ys.size := len ▸ below
      have a1 : i < xs.size := by omega
      have a2 : i < ys.size := by omega
      rw [List.drop_eq_getElem_cons below] at hl
      obtain ⟨pr, tl⟩ := List.cons.inj hl
      have ey : y = xs[i] := by simpa using congrArg Prod.fst pr
      have ex : x = ys[i] := by simpa using congrArg Prod.snd pr
      subst ey ex
      rw [show (List.range (min xs.size ys.size)).drop i = i :: (List.range (min xs.size ys.size)).drop (i + 1) by simp [List.drop_eq_getElem_cons, mn]] at hR
      refine wpAny_bind (ke i a1 a2 hpre prog w _ _ ?_)
      cases hy : e i with
      | true =>
        rw [firstLt_yes hy] at hR
        wp_walk
        exact ⟨rfl, rfl, i + 1, tl, fun t ht => (Nat.lt_succ_iff_lt_or_eq.mp ht).elim (hpre t) (fun q => q ▸ hy), hR⟩
      | false =>
        rw [firstLt_no hy] at hR
        have hkr := kr i a1 a2 hpre hy prog w
        generalize PySem.richCompare CmpOp.Lt xs[i] ys[i] = rc at hkr ⊢
        wp_walk
        refine hkr _ _ ?_
        wp_walk
        exact ⟨_, rfl, hR⟩
    case fin =>
      rintro ⟨c1, c2⟩ s' ⟨hacc, rfl, i, hl, _, hR⟩
      simp only at hacc
      subst hacc
      have over : min xs.size ys.size ≤ i := by
        refine Nat.le_of_not_lt fun below => ?_
        rw [List.drop_eq_getElem_cons (len.symm ▸ below)] at hl
        cases hl
      rw [List.drop_of_length_le (by simpa using over)] at hR
      wp_walk
      exact ⟨_, rfl, by simpa [Builtin.Tuple.tupleCompareSizes, firstLt] using hR⟩
    case h =>
      exact ⟨rfl, rfl, 0, rfl, fun t ht => absurd ht (Nat.not_lt_zero _), by simpa using kk⟩
theorem rc_tup {A : Around} {s : Shared} {l b : Addr} {xs ys : Array Value} {e r : Nat → Bool} (hl : s.heap.IsTuple l xs) (hb : s.heap.IsTuple b ys) (hu : A.units < cLine)
    (he : ∀ j (a1 : j < xs.size) (a2 : j < ys.size), (∀ i, i < j → e i = true) → EqAt A.in1 s xs[j] ys[j] (e j))
    (hr : ∀ j (a1 : j < xs.size) (a2 : j < ys.size), (∀ i, i < j → e i = true) → e j = false → RcLt A.in1 s xs[j] ys[j] (r j)) :
    RcLt A s (.ref l) (.ref b) (firstLt e r (decide (xs.size < ys.size)) (List.range (min xs.size ys.size))) := by
  intro prog w E Q h
  obtain ⟨⟨c1, dx, t1, sx⟩, o1, q1, n, p1⟩ := id hl
  obtain ⟨⟨c2, dy, t2, sy⟩, o2, q2, m, p2⟩ := id hb
  simp only at q1 p1 q2 p2
  subst q1 p1 q2 p2
  refine richCompare_meets_room (op := .Lt) ⟨_, o1, rfl⟩ ⟨_, o2, rfl⟩ F.slot_tuple_lt F.entry_tuple_lt (F.args_tuple_lt_2 _ _) (tup_lt l b xs ys n m dx dy sx sy e r) ?_ hu
  have fin : ∀ c : Bool, Q (.bool c) s → Value.bool c ≠ Value.notImplemented ∧ Q (.bool c) s := fun c k => ⟨(fun z => nomatch z), k⟩
  exact ⟨o1, o2, he, hr, fin _ h⟩
/-! patterns that are read off values -/
theorem reads_tup {h : Heap} {v : Value} {ds : List PyData} {as : List Addr} (r : Reads h v (.tuple ds) as) : ∃ (l : Addr) (o : Obj) (xs : Array Value) (n : Nat) (bs : List Addr), v = .ref l ∧ h.get? l = some o ∧ o.cls = .type "tuple" ∧ o.data = .seq xs n ∧ ReadsAll h xs.toList ds bs := by
  cases r with
  | tuple h1 h2 h3 h4 => exact ⟨_, _, _, _, _, rfl, h1, h2, h3, h4⟩
theorem reads_str {h : Heap} {v : Value} {z : Str} {as : List Addr} (r : Reads h v (.str z) as) : ∃ t, v = .str z t := by
  cases r with
  | str _ t => exact ⟨t, rfl⟩
end Bo
set_option Elab.async false
set_option linter.all false
set_option maxRecDepth 100000
set_option maxHeartbeats 4000000
/-! a < b of patterns -/
namespace Bo
open PySem PySem.Spec PyProof.Rows L2 GE PySem.SeqAt
theorem pd_inj {p q : Pat} (h : pd p = pd q) : p = q := by
  have e := eqv_pd p q
  rw [← h, eqv_pd p p, decide_eq_true rfl] at e
  exact of_decide_eq_true e.symm
theorem pdL_len : ∀ ps : List Pat, (pdL ps).length = ps.length
  | [] => rfl
  | p :: ps => congrArg Nat.succ (pdL_len ps)
theorem reads_at {h : Heap} : ∀ {us : List Value} {ps : List Pat} {bs : List Addr}, ReadsAll h us (pdL ps) bs → ∀ (j : Nat) (u : Value), us[j]? = some u → ∃ p cs, ps[j]? = some p ∧ Reads h u (pd p) cs
  | _, [], _, r, j, u, e => by
    cases r
    cases e
  | _, p :: ps, _, r, j, u, e => by
    cases r with
    | cons r1 r2 =>
      cases j with
      | zero =>
        cases (Option.some.inj e)
        exact ⟨p, _, rfl, r1⟩
      | succ j => exact reads_at r2 j u e
theorem tup_of {h : Heap} {l : Addr} {o : Obj} {xs : Array Value} {n : Nat} (h1 : h.get? l = some o) (h2 : o.cls = .type "tuple") (h3 : o.data = .seq xs n) : h.IsTuple l xs := ⟨o, h1, h2, n, h3⟩
theorem kinds_ok : ∀ i, i < 8 → PyData.strOk (kinds i) = true := by decide +kernel
theorem kind_ok (p : Pat) : PyData.strOk p.kind = true := by rw [kind_rank]; exact kinds_ok _ (rank_lt p)
/-- the texts of the kinds -/
theorem eq_kinds {A : Around} {s : Shared} (p q : Pat) (t t' : Tok) (hu : A.units < cLine) : EqAt A s (.str p.kind t) (.str q.kind t') (p.kind == q.kind) := by
  have e := eqAt_reads (.str p.kind) (.str q.kind) A s (.str p.kind t) (.str q.kind t') [] [] (.str _ _) (.str _ _) (kind_ok p) (kind_ok q) (by show A.units + min 0 0 < cLine; omega)
  rwa [eqv_str] at e
theorem lt_kinds {A : Around} {s : Shared} (p q : Pat) (t t' : Tok) (hu : A.units < cLine) : RcLt A s (.str p.kind t) (.str q.kind t') (decide (rank p < rank q)) := by
  have e := PySem.W.rcLt_alike (.str p.kind) (.str q.kind) A s (.str p.kind t) (.str q.kind t') [] [] (.str _ _) (.str _ _) rfl (by simp) (by show A.units + min 0 0 < cLine; omega)
  rw [PySem.W.dataLt_str, kind_rank, kind_rank, kinds_lt _ (rank_lt p) _ (rank_lt q)] at e
  rw [kind_rank, kind_rank]
  exact e
/-- of unlike kinds -/
theorem rc_apart {p q : Pat} (hr : rank p ≠ rank q) {A : Around} {s : Shared} {a b : Value} {as bs : List Addr} (ra : Reads s.heap a (pd p) as) (rb : Reads s.heap b (pd q) bs) (hu : A.units + 2 < cLine) : RcLt A s a b (ltp p q) := by
  obtain ⟨r1, e1⟩ := pd_kind p
  obtain ⟨r2, e2⟩ := pd_kind q
  rw [e1] at ra
  rw [e2] at rb
  obtain ⟨l, o, xs, n, cs, rfl, h1, h2, h3, h4⟩ := reads_tup ra
  obtain ⟨l', o', ys, m, ds, rfl, k1, k2, k3, k4⟩ := reads_tup rb
  cases hx : xs.toList with
  | nil => rw [hx] at h4; cases h4
  | cons x xr =>
    cases hy : ys.toList with
    | nil => rw [hy] at k4; cases k4
    | cons y yr =>
      rw [hx] at h4
      rw [hy] at k4
      cases h4 with
      | cons g1 _ =>
        cases k4 with
        | cons g2 _ =>
          obtain ⟨t, rfl⟩ := reads_str g1
          obtain ⟨t', rfl⟩ := reads_str g2
          have sx : 0 < xs.size := by rw [← Array.length_toList, hx]; exact Nat.succ_pos _
          have sy : 0 < ys.size := by rw [← Array.length_toList, hy]; exact Nat.succ_pos _
          have ux : ∀ (i : 0 < xs.size), xs[0] = .str p.kind t := fun i => by
            have : xs[0]? = some (.str p.kind t) := by rw [← Array.getElem?_toList, hx]; rfl
            rw [Array.getElem?_eq_getElem i] at this
            exact Option.some.inj this
          have uy : ∀ (i : 0 < ys.size), ys[0] = .str q.kind t' := fun i => by
            have : ys[0]? = some (.str q.kind t') := by rw [← Array.getElem?_toList, hy]; rfl
            rw [Array.getElem?_eq_getElem i] at this
            exact Option.some.inj this
          have u1 : A.in1.units < cLine := by show A.units + 1 < cLine; omega
          have key := rc_tup (A := A) (s := s) (e := fun j => !decide (j = 0)) (r := fun _ => decide (rank p < rank q)) (tup_of h1 h2 h3) (tup_of k1 k2 k3) (by omega)
            (fun j a1 a2 pre => by
              cases j with
              | zero =>
                rw [ux a1, uy a2]
                have g := eq_kinds (A := A.in1) (s := s) p q t t' u1
                rw [kind_ne hr] at g
                exact g
              | succ j => exact absurd (pre 0 (Nat.succ_pos _)) (by decide))
            (fun j a1 a2 pre _ => by
              cases j with
              | zero => rw [ux a1, uy a2]; exact lt_kinds p q t t' u1
              | succ j => exact absurd (pre 0 (Nat.succ_pos _)) (by decide))
          obtain ⟨c, hc⟩ : ∃ c, min xs.size ys.size = c + 1 := ⟨min xs.size ys.size - 1, by omega⟩
          rw [hc, List.range_succ_eq_map, firstLt_no (by rfl)] at key
          rw [ltp_kind hr]
          exact key
/-- of one kind, with one thing behind it -/
theorem rc_two {k : Str} {d1 d2 : PyData} {A : Around} {s : Shared} {a b : Value} {as bs : List Addr} (ra : Reads s.heap a (.tuple [.str k, d1]) as) (rb : Reads s.heap b (.tuple [.str k, d2]) bs) (hk : PyData.strOk k = true) (hu : A.units + 2 < cLine) {eb rb' : Bool}
    (he : ∀ u v cs ds, Reads s.heap u d1 cs → Reads s.heap v d2 ds → EqAt A.in1 s u v eb) (hr : eb = false → ∀ u v cs ds, Reads s.heap u d1 cs → Reads s.heap v d2 ds → RcLt A.in1 s u v rb') : RcLt A s a b (if eb = true then false else rb') := by
  obtain ⟨l, o, xs, n, cs, rfl, h1, h2, h3, h4⟩ := reads_tup ra
  obtain ⟨l', o', ys, m, ds, rfl, k1, k2, k3, k4⟩ := reads_tup rb
  have open2 : ∀ {zs : Array Value} {d : PyData} {es : List Addr}, ReadsAll s.heap zs.toList [.str k, d] es → ∃ t u fs, zs = #[.str k t, u] ∧ Reads s.heap u d fs := by
    intro zs d es r
    cases hz : zs.toList with
    | nil => rw [hz] at r; cases r
    | cons z zr =>
      rw [hz] at r
      cases r with
      | cons g1 g2 =>
        cases g2 with
        | cons g3 g4 =>
          cases g4
          obtain ⟨t, rfl⟩ := reads_str g1
          exact ⟨t, _, _, by rw [← Array.toArray_toList (xs := zs), hz], g3⟩
  obtain ⟨t, u, fs, rfl, ru⟩ := open2 h4
  obtain ⟨t', v, gs, rfl, rv⟩ := open2 k4
  have key := rc_tup (A := A) (s := s) (e := fun j => if j = 0 then true else eb) (r := fun _ => rb') (tup_of h1 h2 h3) (tup_of k1 k2 k3) (by omega)
    (fun j a1 a2 _ => by
      match j, a1, a2 with
      | 0, _, _ =>
        have g := eqAt_reads (.str k) (.str k) A.in1 s (.str k t) (.str k t') [] [] (.str _ _) (.str _ _) hk hk (by show A.units + 1 + min 0 0 < cLine; omega)
        rw [eqv_str, str_self] at g
        exact g
      | 1, _, _ => exact he u v fs gs ru rv
      | j + 2, a1, _ => exact absurd a1 (by show ¬ j + 2 < 2; omega))
    (fun j a1 a2 _ ef => by
      match j, a1, a2, ef with
      | 0, _, _, ef => cases ef
      | 1, _, _, ef => exact hr ef u v fs gs ru rv
      | j + 2, a1, _, _ => exact absurd a1 (by show ¬ j + 2 < 2; omega))
  have sz : List.range (min (#[Value.str k t, u]).size (#[Value.str k t', v]).size) = [0, 1] := rfl
  rw [sz, firstLt_yes (by rfl)] at key
  cases eb with
  | true => rw [firstLt_yes (by rfl)] at key; exact key
  | false => rw [firstLt_no (by rfl)] at key; exact key
/-- the first that differ -/
def eL (ps qs : List Pat) (j : Nat) : Bool := decide (ps[j]? = qs[j]?)
def rL (ps qs : List Pat) (j : Nat) : Bool := match ps[j]?, qs[j]? with
  | some p, some q => ltp p q
  | _, _ => false
theorem first_lts : ∀ ps qs : List Pat, firstLt (eL ps qs) (rL ps qs) (decide (ps.length < qs.length)) (List.range (min ps.length qs.length)) = lts ps qs
  | [], [] => by rw [lts_nil]; rfl
  | [], q :: qs => by rw [lts_short]; simp [firstLt]
  | p :: ps, [] => by rw [lts_long]; simp [firstLt]
  | p :: ps, q :: qs => by
    have ih := first_lts ps qs
    rw [lts_cons, show min (p :: ps).length (q :: qs).length = min ps.length qs.length + 1 by simp [Nat.succ_min_succ], List.range_succ_eq_map]
    by_cases e : p = q
    · subst e
      rw [if_pos rfl, firstLt_yes (by simp [eL]), PySem.W.firstLt_map, ← ih]
      have e1 : (fun j => eL (p :: ps) (p :: qs) (Nat.succ j)) = eL ps qs := by funext j; simp [eL]
      have e2 : (fun j => rL (p :: ps) (p :: qs) (Nat.succ j)) = rL ps qs := by funext j; simp [rL]
      rw [e1, e2]
      congr 1
      simp
    · rw [if_neg e, firstLt_no (by simp [eL, e])]
      rfl
theorem rc_all {ps qs : List Pat} (ih : ∀ p ∈ ps, ∀ (q : Pat) (A : Around) (s : Shared) (a b : Value) (as bs : List Addr), Reads s.heap a (pd p) as → Reads s.heap b (pd q) bs → Sg Low p → Sg Low q → A.units + 2 * p.dep < cLine → RcLt A s a b (ltp p q))
    {A : Around} {s : Shared} {a b : Value} {as bs : List Addr} (ra : Reads s.heap a (.tuple (pdL ps)) as) (rb : Reads s.heap b (.tuple (pdL qs)) bs) (sp : SgL Low ps) (sq : SgL Low qs) (hu : A.units + 2 * depL ps + 1 < cLine) : RcLt A s a b (lts ps qs) := by
  obtain ⟨l, o, xs, n, cs, rfl, h1, h2, h3, h4⟩ := reads_tup ra
  obtain ⟨l', o', ys, m, ds, rfl, k1, k2, k3, k4⟩ := reads_tup rb
  have lx : xs.size = ps.length := by rw [← Array.length_toList, ReadsAll.length _ _ _ h4, pdL_len]
  have ly : ys.size = qs.length := by rw [← Array.length_toList, ReadsAll.length _ _ _ k4, pdL_len]
  have key := rc_tup (A := A) (s := s) (e := eL ps qs) (r := rL ps qs) (tup_of h1 h2 h3) (tup_of k1 k2 k3) (by omega)
    (fun j a1 a2 _ => by
      obtain ⟨p, fs, hp, rp⟩ := reads_at h4 j xs[j] (by rw [Array.getElem?_toList, Array.getElem?_eq_getElem a1])
      obtain ⟨q, gs, hq, rq⟩ := reads_at k4 j ys[j] (by rw [Array.getElem?_toList, Array.getElem?_eq_getElem a2])
      have mp := List.mem_of_getElem? hp
      have g := eqAt_reads (pd p) (pd q) A.in1 s xs[j] ys[j] fs gs rp rq (pd_lay p (SgL_iff.mp sp p mp)) (pd_lay q (SgL_iff.mp sq q (List.mem_of_getElem? hq))) (by
        have := pd_depth p
        have := dep_mem mp
        show A.units + 1 + min (pd p).depth (pd q).depth < cLine
        omega)
      rw [eqv_pd] at g
      have e : eL ps qs j = decide (p = q) := by unfold eL; rw [hp, hq]; exact dec_congr ⟨fun e => Option.some.inj e, fun e => e ▸ rfl⟩
      rw [e]; exact g)
    (fun j a1 a2 _ _ => by
      obtain ⟨p, fs, hp, rp⟩ := reads_at h4 j xs[j] (by rw [Array.getElem?_toList, Array.getElem?_eq_getElem a1])
      obtain ⟨q, gs, hq, rq⟩ := reads_at k4 j ys[j] (by rw [Array.getElem?_toList, Array.getElem?_eq_getElem a2])
      have mp := List.mem_of_getElem? hp
      have e : rL ps qs j = ltp p q := by unfold rL; rw [hp, hq]
      rw [e]
      exact ih p mp q A.in1 s xs[j] ys[j] fs gs rp rq (SgL_iff.mp sp p mp) (SgL_iff.mp sq q (List.mem_of_getElem? hq)) (by
        have := dep_mem mp
        show A.units + 1 + 2 * p.dep < cLine
        omega))
  rw [lx, ly, first_lts] at key
  exact key
end Bo
set_option Elab.async false
set_option linter.all false
set_option maxRecDepth 100000
set_option maxHeartbeats 4000000
/-! sorted of patterns -/
namespace Bo
open PySem PySem.Spec PyProof.Rows L2 GE PySem.SeqAt
def RcP (p : Pat) : Prop := ∀ (q : Pat) (A : Around) (s : Shared) (a b : Value) (as bs : List Addr), Reads s.heap a (pd p) as → Reads s.heap b (pd q) bs → Sg Low p → Sg Low q → A.units + 2 * p.dep < cLine → RcLt A s a b (ltp p q)
theorem eq_pats {p q : Pat} {A : Around} {s : Shared} {u v : Value} {cs ds : List Addr} (ru : Reads s.heap u (pd p) cs) (rv : Reads s.heap v (pd q) ds) (sp : Sg Low p) (sq : Sg Low q) (hu : A.units + 2 * p.dep < cLine) : EqAt A s u v (decide (p = q)) := by
  have g := eqAt_reads (pd p) (pd q) A s u v cs ds ru rv (pd_lay p sp) (pd_lay q sq) (by have := pd_depth p; omega)
  rwa [eqv_pd] at g
theorem if_lt (p q : Pat) : (if decide (p = q) = true then false else ltp p q) = ltp p q := by
  by_cases e : p = q
  · subst e; rw [decide_eq_true rfl, if_pos rfl, ltp_irrefl]
  · rw [decide_eq_false e, if_neg Bool.false_ne_true]
theorem if_lts (ps qs : List Pat) : (if decide (ps = qs) = true then false else lts ps qs) = lts ps qs := by
  by_cases e : ps = qs
  · subst e; rw [decide_eq_true rfl, if_pos rfl]; exact (decide_eq_false (List.lt_irrefl _)).symm
  · rw [decide_eq_false e, if_neg Bool.false_ne_true]
theorem eq_lists {ps qs : List Pat} {A : Around} {s : Shared} {u v : Value} {cs ds : List Addr} (ru : Reads s.heap u (.tuple (pdL ps)) cs) (rv : Reads s.heap v (.tuple (pdL qs)) ds) (sp : SgL Low ps) (sq : SgL Low qs) (hu : A.units + 2 * depL ps + 1 < cLine) : EqAt A s u v (decide (ps = qs)) := by
  have g := eqAt_reads (.tuple (pdL ps)) (.tuple (pdL qs)) A s u v cs ds ru rv (pdL_lay ps sp) (pdL_lay qs sq) (by
    have := pdL_depth ps
    show A.units + min (PyData.depthAll (pdL ps) + 1) (PyData.depthAll (pdL qs) + 1) < cLine
    omega)
  rw [eqv_tup, eqvL_pd] at g
  exact g
theorem rc_list {k : Str} {ps qs : List Pat} (hk : PyData.strOk k = true) (ih : ∀ p ∈ ps, RcP p) {A : Around} {s : Shared} {a b : Value} {as bs : List Addr} (ra : Reads s.heap a (.tuple [.str k, .tuple (pdL ps)]) as) (rb : Reads s.heap b (.tuple [.str k, .tuple (pdL qs)]) bs) (sp : SgL Low ps) (sq : SgL Low qs)
    (hu : A.units + 2 * (depL ps + 1) < cLine) : RcLt A s a b (lts ps qs) := by
  have u1 : A.in1.units + 2 * depL ps + 1 < cLine := by show A.units + 1 + 2 * depL ps + 1 < cLine; omega
  have g := rc_two ra rb hk (by omega) (eb := decide (ps = qs)) (rb' := lts ps qs) (fun u v cs ds ru rv => eq_lists ru rv sp sq u1) (fun _ u v cs ds ru rv => rc_all ih ru rv sp sq u1)
  rwa [if_lts] at g
theorem rc_one {k : Str} {A : Around} {s : Shared} {a b : Value} {as bs : List Addr} (ra : Reads s.heap a (.tuple [.str k]) as) (rb : Reads s.heap b (.tuple [.str k]) bs) (hk : PyData.strOk k = true) (hu : A.units + 1 < cLine) : RcLt A s a b false := by
  obtain ⟨l, o, xs, n, cs, rfl, h1, h2, h3, h4⟩ := reads_tup ra
  obtain ⟨l', o', ys, m, ds, rfl, k1, k2, k3, k4⟩ := reads_tup rb
  have open1 : ∀ {zs : Array Value} {es : List Addr}, ReadsAll s.heap zs.toList [.str k] es → ∃ t, zs = #[.str k t] := by
    intro zs es r
    cases hz : zs.toList with
    | nil => rw [hz] at r; cases r
    | cons z zr =>
      rw [hz] at r
      cases r with
      | cons g1 g2 =>
        cases g2
        obtain ⟨t, rfl⟩ := reads_str g1
        exact ⟨t, by rw [← Array.toArray_toList (xs := zs), hz]⟩
  obtain ⟨t, rfl⟩ := open1 h4
  obtain ⟨t', rfl⟩ := open1 k4
  have key := rc_tup (A := A) (s := s) (e := fun _ => true) (r := fun _ => false) (tup_of h1 h2 h3) (tup_of k1 k2 k3) (by omega)
    (fun j a1 a2 _ => by
      match j, a1, a2 with
      | 0, _, _ =>
        have g := eqAt_reads (.str k) (.str k) A.in1 s (.str k t) (.str k t') [] [] (.str _ _) (.str _ _) hk hk (by show A.units + 1 + min 0 0 < cLine; omega)
        rw [eqv_str, str_self] at g
        exact g
      | j + 1, a1, _ => exact absurd a1 (by show ¬ j + 1 < 1; omega))
    (fun j a1 a2 _ ef => by cases ef)
  have sz : List.range (min (#[Value.str k t]).size (#[Value.str k t']).size) = [0] := rfl
  rw [sz, firstLt_yes (by rfl)] at key
  exact key
mutual
theorem rc_pd : ∀ p : Pat, RcP p
  | .none => fun q A s a b as bs ra rb sp sq hu => by
    cases q with
    | none =>
      have e := rc_one (A := A) (s := s) ra rb (by decide +kernel) (by have : A.units + 2 * 1 < cLine := hu; omega)
      rw [ltp_irrefl]; exact e
    | _ => exact rc_apart (by simp [rank]) ra rb (by have : A.units + 2 * 1 < cLine := hu; omega)
  | .empty => fun q A s a b as bs ra rb sp sq hu => by
    cases q with
    | empty =>
      have e := rc_one (A := A) (s := s) ra rb (by decide +kernel) (by have : A.units + 2 * 1 < cLine := hu; omega)
      rw [ltp_irrefl]; exact e
    | _ => exact rc_apart (by simp [rank]) ra rb (by have : A.units + 2 * 1 < cLine := hu; omega)
  | .sign c => fun q A s a b as bs ra rb sp sq hu => by
    have hu : A.units + 2 * 1 < cLine := hu
    cases q with
    | sign d =>
      have u1 : A.in1.units + min 0 0 < cLine := by show A.units + 1 + 0 < cLine; omega
      have g := rc_two (eb := decide (c = d)) (rb' := decide (c < d)) ra rb (by decide +kernel) (by omega)
        (fun u v cs ds ru rv => by
          have g := eqAt_reads _ _ A.in1 s u v cs ds ru rv (sgn_ok c sp) (sgn_ok d sq) u1
          rw [eqv_str, sgn_eq] at g
          exact g)
        (fun _ u v cs ds ru rv => by
          have g := PySem.W.rcLt_alike _ _ A.in1 s u v cs ds ru rv rfl (by simp) u1
          rw [PySem.W.dataLt_str] at g
          have e : decide ((⟨#[c]⟩ : Str).cps.toList < (⟨#[d]⟩ : Str).cps.toList) = decide (c < d) := dec_congr (by show [c] < [d] ↔ _; rw [lt_cons]; exact ⟨fun h => h.elim id fun h => absurd h.2 (List.lt_irrefl _), .inl⟩)
          rw [e] at g
          exact g)
      rw [ltp_sign]
      have e : (if decide (c = d) = true then false else decide (c < d)) = decide (c < d) := by
        by_cases h : c = d
        · subst h; simp
        · simp [h]
      rwa [e] at g
    | _ => exact rc_apart (by simp [rank]) ra rb (by omega)
  | .many x => fun q A s a b as bs ra rb sp sq hu => by
    have hu : A.units + 2 * (x.dep + 1) < cLine := hu
    cases q with
    | many y =>
      have u1 : A.in1.units + 2 * x.dep < cLine := by show A.units + 1 + 2 * x.dep < cLine; omega
      have g := rc_two (eb := decide (x = y)) (rb' := ltp x y) ra rb (by decide +kernel) (by omega) (fun u v cs ds ru rv => eq_pats ru rv sp sq u1) (fun _ u v cs ds ru rv => rc_pd x y A.in1 s u v cs ds ru rv sp sq u1)
      rw [if_lt] at g
      rw [ltp_many]; exact g
    | _ => exact rc_apart (by simp [rank]) ra rb (by omega)
  | .not x => fun q A s a b as bs ra rb sp sq hu => by
    have hu : A.units + 2 * (x.dep + 1) < cLine := hu
    cases q with
    | not y =>
      have u1 : A.in1.units + 2 * x.dep < cLine := by show A.units + 1 + 2 * x.dep < cLine; omega
      have g := rc_two (eb := decide (x = y)) (rb' := ltp x y) ra rb (by decide +kernel) (by omega) (fun u v cs ds ru rv => eq_pats ru rv sp sq u1) (fun _ u v cs ds ru rv => rc_pd x y A.in1 s u v cs ds ru rv sp sq u1)
      rw [if_lt] at g
      rw [ltp_not]; exact g
    | _ => exact rc_apart (by simp [rank]) ra rb (by omega)
  | .row ps => fun q A s a b as bs ra rb sp sq hu => by
    have hu : A.units + 2 * (depL ps + 1) < cLine := hu
    cases q with
    | row qs => rw [ltp_row]; exact rc_list (by decide +kernel) (rc_pdL ps) ra rb sp sq hu
    | _ => exact rc_apart (by simp [rank]) ra rb (by omega)
  | .or ps => fun q A s a b as bs ra rb sp sq hu => by
    have hu : A.units + 2 * (depL ps + 1) < cLine := hu
    cases q with
    | or qs => rw [ltp_or]; exact rc_list (by decide +kernel) (rc_pdL ps) ra rb sp sq hu
    | _ => exact rc_apart (by simp [rank]) ra rb (by omega)
  | .and ps => fun q A s a b as bs ra rb sp sq hu => by
    have hu : A.units + 2 * (depL ps + 1) < cLine := hu
    cases q with
    | and qs => rw [ltp_and]; exact rc_list (by decide +kernel) (rc_pdL ps) ra rb sp sq hu
    | _ => exact rc_apart (by simp [rank]) ra rb (by omega)
theorem rc_pdL : ∀ ps : List Pat, ∀ p ∈ ps, RcP p
  | [], _, h => by cases h
  | p :: ps, q, h => (List.mem_cons.mp h).elim (fun e => e ▸ rc_pd p) (rc_pdL ps q)
end
end Bo
set_option Elab.async false
set_option linter.all false
set_option maxRecDepth 100000
set_option maxHeartbeats 4000000
/-! sorted of patterns: the rule -/
namespace Bo
open PySem PySem.Spec PyProof.Rows L2 GE PySem.SeqAt
def tk0 : Bool := (Value.type "str" != Value.type "tuple")
section
variable {prog : Program} {w : World} {A : Around} {s : Shared}
/-- the first places, then the second ones, as sorting compares tuples -/
theorem kat_apart {p q : Pat} (hr : rank p ≠ rank q) {fin : Bool} {Q : Bool → Shared → Prop} {t t' : Tok} {r : List (Value × Value)} (hu : A.units < cLine) (h : Q (decide (rank p < rank q)) s) :
    PySem.W.KatLex prog w A tk0 fin Q ((.str p.kind t, .str q.kind t') :: r) 0 s := by
  refine PySem.W.kat_cons (eq_kinds (A := A) (s := s) p q t t' hu prog w _ _ ?_)
  rw [kind_ne hr]
  refine PySem.W.kat_no (PySem.W.oneLt_alike (da := .str p.kind) (db := .str q.kind) (as := []) (bs := []) (fun _ xs e => by cases e) (.str _ _) (.str _ _) rfl (by simp) (by show A.units + min 0 0 < cLine; omega) ?_)
  rw [PySem.W.dataLt_str, kind_rank, kind_rank, kinds_lt _ (rank_lt p) _ (rank_lt q)]
  exact h
theorem kat_head {k : Str} {fin : Bool} {Q : Bool → Shared → Prop} {t t' : Tok} {r : List (Value × Value)} (hk : PyData.strOk k = true) (hu : A.units < cLine) (h : PySem.W.KatLex prog w A tk0 fin Q r 1 s) :
    PySem.W.KatLex prog w A tk0 fin Q ((.str k t, .str k t') :: r) 0 s := by
  have g := eqAt_reads (.str k) (.str k) A s (.str k t) (.str k t') [] [] (.str _ _) (.str _ _) hk hk (by show A.units + min 0 0 < cLine; omega)
  rw [eqv_str, str_self] at g
  exact PySem.W.kat_cons (g prog w _ _ (PySem.W.kat_yes h))
theorem kat_second {u v : Value} {e r : Bool} {fin : Bool} {Q : Bool → Shared → Prop} (he : EqAt A s u v e) (hr : e = false → RcLt A s u v r) (hf : fin = false) (h : Q (if e = true then false else r) s) :
    PySem.W.KatLex prog w A tk0 fin Q [(u, v)] 1 s := by
  refine PySem.W.kat_cons (he prog w _ _ ?_)
  cases e with
  | true => exact PySem.W.kat_yes (PySem.W.kat_nil (by rw [hf]; exact h))
  | false =>
    refine PySem.W.kat_no ?_
    rw [show (tk0 && (1 == 0)) = false from Bool.and_false _, oneLt'_eq]
    simp only [Bool.false_eq_true, if_false]
    exact wpAny_bind (hr rfl prog w _ _ (wpAny_truthy_bool h))
theorem zip_two {xs ys : Array Value} {d1 d2 : PyData} {k : Str} {as bs : List Addr} (ra : ReadsAll s.heap xs.toList [.str k, d1] as) (rb : ReadsAll s.heap ys.toList [.str k, d2] bs) :
    ∃ t t' u v cs ds, xs.toList.zip ys.toList = [(.str k t, .str k t'), (u, v)] ∧ Reads s.heap u d1 cs ∧ Reads s.heap v d2 ds ∧ decide (xs.size < ys.size) = false := by
  have open2 : ∀ {zs : List Value} {d : PyData} {es : List Addr}, ReadsAll s.heap zs [.str k, d] es → ∃ t u fs, zs = [.str k t, u] ∧ Reads s.heap u d fs := by
    intro zs d es r
    cases r with
    | cons g1 g2 =>
      cases g2 with
      | cons g3 g4 =>
        cases g4
        obtain ⟨t, rfl⟩ := reads_str g1
        exact ⟨t, _, _, rfl, g3⟩
  obtain ⟨t, u, fs, e1, ru⟩ := open2 ra
  obtain ⟨t', v, gs, e2, rv⟩ := open2 rb
  refine ⟨t, t', u, v, fs, gs, by rw [e1, e2]; rfl, ru, rv, decide_eq_false ?_⟩
  rw [← Array.length_toList, ← Array.length_toList, e1, e2]
  exact Nat.lt_irrefl _
theorem zip_one {xs ys : Array Value} {k : Str} {as bs : List Addr} (ra : ReadsAll s.heap xs.toList [.str k] as) (rb : ReadsAll s.heap ys.toList [.str k] bs) :
    ∃ t t', xs.toList.zip ys.toList = [(.str k t, .str k t')] ∧ decide (xs.size < ys.size) = false := by
  have open1 : ∀ {zs : List Value} {es : List Addr}, ReadsAll s.heap zs [.str k] es → ∃ t, zs = [.str k t] := by
    intro zs es r
    cases r with
    | cons g1 g2 =>
      cases g2
      obtain ⟨t, rfl⟩ := reads_str g1
      exact ⟨t, rfl⟩
  obtain ⟨t, e1⟩ := open1 ra
  obtain ⟨t', e2⟩ := open1 rb
  refine ⟨t, t', by rw [e1, e2]; rfl, decide_eq_false ?_⟩
  rw [← Array.length_toList, ← Array.length_toList, e1, e2]
  exact Nat.lt_irrefl _
/-- two patterns, as sorting compares them -/
theorem kat_pats (p q : Pat) {xs ys : Array Value} {r1 r2 : List PyData} {as bs : List Addr} {Q : Bool → Shared → Prop} (e1 : pd p = .tuple r1) (e2 : pd q = .tuple r2) (ra : ReadsAll s.heap xs.toList r1 as) (rb : ReadsAll s.heap ys.toList r2 bs)
    (sp : Sg Low p) (sq : Sg Low q) (hu : A.units + 2 * p.dep + 2 < cLine) (h : Q (ltp p q) s) : PySem.W.KatLex prog w A tk0 (decide (xs.size < ys.size)) Q (xs.toList.zip ys.toList) 0 s := by
  by_cases hr : rank p = rank q
  · have one : ∀ {k : Str}, PyData.strOk k = true → r1 = [.str k] → r2 = [.str k] → p = q → PySem.W.KatLex prog w A tk0 (decide (xs.size < ys.size)) Q (xs.toList.zip ys.toList) 0 s := by
      rintro k hk rfl rfl rfl
      obtain ⟨t, t', ez, ef⟩ := zip_one (s := s) ra rb
      rw [ltp_irrefl] at h
      rw [ez, ef]
      exact kat_head hk (by omega) (PySem.W.kat_nil h)
    have two : ∀ {k : Str} {d1 d2 : PyData} {e r : Bool}, PyData.strOk k = true → r1 = [.str k, d1] → r2 = [.str k, d2] → (∀ u v cs ds, Reads s.heap u d1 cs → Reads s.heap v d2 ds → EqAt A s u v e) → (∀ u v cs ds, Reads s.heap u d1 cs → Reads s.heap v d2 ds → RcLt A s u v r) →
        (if e = true then false else r) = ltp p q → PySem.W.KatLex prog w A tk0 (decide (xs.size < ys.size)) Q (xs.toList.zip ys.toList) 0 s := by
      rintro k d1 d2 e r hk rfl rfl he hl el
      obtain ⟨t, t', u, v, cs, ds, ez, ru, rv, ef⟩ := zip_two (s := s) ra rb
      rw [ez]
      exact kat_head hk (by omega) (kat_second (he u v cs ds ru rv) (fun _ => hl u v cs ds ru rv) ef (by rw [el]; exact h))
    cases p with
    | none =>
      cases q with
      | none => exact one (k := "none") (by decide +kernel) (by injection e1 with e1; exact e1.symm) (by injection e2 with e2; exact e2.symm) rfl
      | _ => cases hr
    | empty =>
      cases q with
      | empty => exact one (k := "empty") (by decide +kernel) (by injection e1 with e1; exact e1.symm) (by injection e2 with e2; exact e2.symm) rfl
      | _ => cases hr
    | sign c =>
      cases q with
      | sign d =>
        have hu : A.units + 2 * 1 + 2 < cLine := hu
        have u1 : A.units + min 0 0 < cLine := by omega
        refine two (k := "sign") (d1 := .str ⟨#[c]⟩) (d2 := .str ⟨#[d]⟩) (e := decide (c = d)) (r := decide (c < d)) (by decide +kernel) (by injection e1 with e1; exact e1.symm) (by injection e2 with e2; exact e2.symm) (fun u v cs ds ru rv => ?_) (fun u v cs ds ru rv => ?_) ?_
        · have g := eqAt_reads _ _ A s u v cs ds ru rv (sgn_ok c sp) (sgn_ok d sq) u1
          rw [eqv_str, sgn_eq] at g
          exact g
        · have g := PySem.W.rcLt_alike _ _ A s u v cs ds ru rv rfl (by simp) u1
          rw [PySem.W.dataLt_str] at g
          have e : decide ((⟨#[c]⟩ : Str).cps.toList < (⟨#[d]⟩ : Str).cps.toList) = decide (c < d) := dec_congr (by show [c] < [d] ↔ _; rw [lt_cons]; exact ⟨fun h => h.elim id fun h => absurd h.2 (List.lt_irrefl _), .inl⟩)
          rw [e] at g
          exact g
        · rw [ltp_sign]
          by_cases h : c = d
          · subst h; simp
          · simp [h]
      | _ => cases hr
    | many x =>
      cases q with
      | many y =>
        have hu : A.units + 2 * (x.dep + 1) + 2 < cLine := hu
        exact two (k := "many") (d1 := pd x) (d2 := pd y) (by decide +kernel) (by injection e1 with e1; exact e1.symm) (by injection e2 with e2; exact e2.symm) (fun u v cs ds ru rv => eq_pats ru rv sp sq (by omega)) (fun u v cs ds ru rv => rc_pd x y A s u v cs ds ru rv sp sq (by omega)) (by rw [if_lt, ltp_many])
      | _ => cases hr
    | not x =>
      cases q with
      | not y =>
        have hu : A.units + 2 * (x.dep + 1) + 2 < cLine := hu
        exact two (k := "not") (d1 := pd x) (d2 := pd y) (by decide +kernel) (by injection e1 with e1; exact e1.symm) (by injection e2 with e2; exact e2.symm) (fun u v cs ds ru rv => eq_pats ru rv sp sq (by omega)) (fun u v cs ds ru rv => rc_pd x y A s u v cs ds ru rv sp sq (by omega)) (by rw [if_lt, ltp_not])
      | _ => cases hr
    | row ps =>
      cases q with
      | row qs =>
        have hu : A.units + 2 * (depL ps + 1) + 2 < cLine := hu
        exact two (k := "row") (d1 := .tuple (pdL ps)) (d2 := .tuple (pdL qs)) (by decide +kernel) (by injection e1 with e1; exact e1.symm) (by injection e2 with e2; exact e2.symm) (fun u v cs ds ru rv => eq_lists ru rv sp sq (by omega)) (fun u v cs ds ru rv => rc_all (rc_pdL ps) ru rv sp sq (by omega)) (by rw [if_lts, ltp_row])
      | _ => cases hr
    | or ps =>
      cases q with
      | or qs =>
        have hu : A.units + 2 * (depL ps + 1) + 2 < cLine := hu
        exact two (k := "or") (d1 := .tuple (pdL ps)) (d2 := .tuple (pdL qs)) (by decide +kernel) (by injection e1 with e1; exact e1.symm) (by injection e2 with e2; exact e2.symm) (fun u v cs ds ru rv => eq_lists ru rv sp sq (by omega)) (fun u v cs ds ru rv => rc_all (rc_pdL ps) ru rv sp sq (by omega)) (by rw [if_lts, ltp_or])
      | _ => cases hr
    | and ps =>
      cases q with
      | and qs =>
        have hu : A.units + 2 * (depL ps + 1) + 2 < cLine := hu
        exact two (k := "and") (d1 := .tuple (pdL ps)) (d2 := .tuple (pdL qs)) (by decide +kernel) (by injection e1 with e1; exact e1.symm) (by injection e2 with e2; exact e2.symm) (fun u v cs ds ru rv => eq_lists ru rv sp sq (by omega)) (fun u v cs ds ru rv => rc_all (rc_pdL ps) ru rv sp sq (by omega)) (by rw [if_lts, ltp_and])
      | _ => cases hr
  · obtain ⟨g1, k1⟩ := pd_kind p
    obtain ⟨g2, k2⟩ := pd_kind q
    rw [k1] at e1
    rw [k2] at e2
    injection e1 with e1
    injection e2 with e2
    subst e1 e2
    generalize xs.toList = lx at ra
    generalize ys.toList = ly at rb
    cases ra with
    | cons a1 a2 =>
      cases rb with
      | cons b1 b2 =>
        obtain ⟨t, rfl⟩ := reads_str a1
        obtain ⟨t', rfl⟩ := reads_str b1
        rw [ltp_kind hr] at h
        exact kat_apart hr (by omega) h
end
end Bo
set_option Elab.async false
set_option linter.all false
set_option maxRecDepth 100000
set_option maxHeartbeats 4000000
/-! sorted(l), l a list of patterns -/
namespace Bo
open PySem PySem.Spec PyProof.Rows L2 GE PySem.SeqAt
def patOrd : PyProof.Rows.KeyOrd where
  α := Pat
  blt := ltp
  irrefl := ltp_irrefl
  trans := fun _ _ _ => ltp_trans
  negTrans := fun _ _ _ => ltp_neg
  total := fun _ _ => ltp_total
noncomputable def patKey (h : Heap) (ps : List Pat) : PyProof.Rows.KeyKind where
  toKeyOrd := patOrd
  keyOf v := open Classical in if q : ∃ p, p ∈ ps ∧ ∃ as, Reads h v (pd p) as then some q.choose else none
  dflt := Pat.none
section
variable {h : Heap} {ps : List Pat} (low : SgL Low ps)
include low
theorem key_of {v : Value} {p : Pat} {as : List Addr} (hp : p ∈ ps) (r : Reads h v (pd p) as) : (patKey h ps).keyOf v = some p := by
  have q : ∃ p, p ∈ ps ∧ ∃ as, Reads h v (pd p) as := ⟨p, hp, as, r⟩
  have e : (patKey h ps).keyOf v = some q.choose := dif_pos q
  obtain ⟨h1, bs, h2⟩ := q.choose_spec
  rw [e]
  exact congrArg some (pd_inj (Reads.unique _ _ _ _ _ (pd_lay _ (SgL_iff.mp low _ h1)) h2 r))
theorem of_key {v : Value} {p : Pat} (e : (patKey h ps).keyOf v = some p) : p ∈ ps ∧ ∃ as, Reads h v (pd p) as := by
  by_cases q : ∃ p, p ∈ ps ∧ ∃ as, Reads h v (pd p) as
  · obtain ⟨p', h1, as, r⟩ := q
    rw [key_of low h1 r] at e
    cases e
    exact ⟨h1, as, r⟩
  · have : (patKey h ps).keyOf v = none := dif_neg q
    rw [this] at e
    cases e
end
theorem pats_sort {prog : Program} {w : World} {A : Around} {s : Shared} {vs : List Value} {ps : List Pat} (low : SgL Low ps) (e : PySem.W.EachIs (fun v p => ∃ as, Reads s.heap v (pd p) as) vs ps) (hu : ∀ p ∈ ps, A.units + 2 * p.dep + 2 < cLine) :
    PySem.W.SortsAt prog w A s (patKey s.heap ps) vs where
  keys := fun v hv => by
    obtain ⟨p, hp, as, r⟩ := e.left v hv
    exact ⟨p, key_of low hp r⟩
  kind := by
    refine ⟨tuples' tk0, ?_, fun h2 E Q hq => ?_⟩
    · intro E x y p q Q kx ky hq
      obtain ⟨hp, as, ra⟩ := of_key low kx
      obtain ⟨hqm, bs, rb⟩ := of_key low ky
      obtain ⟨r1, e1⟩ := pd_kind p
      obtain ⟨r2, e2⟩ := pd_kind q
      rw [e1] at ra
      rw [e2] at rb
      obtain ⟨l, o, xs, n, cs, rfl, a1, a2, a3, a4⟩ := reads_tup ra
      obtain ⟨l', o', ys, m, ds, rfl, b1, b2, b3, b4⟩ := reads_tup rb
      exact PySem.W.kat_lt a1 a3 b1 b3 (kat_pats p q e1 e2 a4 b4 (SgL_iff.mp low p hp) (SgL_iff.mp low q hqm) (hu p hp) hq)
    · have ed : PySem.W.EachIs (fun v d => ∃ as, Reads s.heap v d as) vs (ps.map pd) := PySem.W.each_map pd e
      obtain ⟨fs, t1, t2, t3⟩ := PySem.W.each_katTups ed fun d hd => by
        obtain ⟨p, _, rfl⟩ := List.mem_map.mp hd
        obtain ⟨r, er⟩ := pd_kind p
        exact ⟨_, r, er⟩
      refine PySem.W.kat_kind (T := Value.type "str") t1 (by omega) (fun f hf => ?_) (beq_self_eq_true _) hq
      obtain ⟨x, r, as, m1, m2⟩ := t3 f hf
      obtain ⟨p, _, er⟩ := List.mem_map.mp m1
      obtain ⟨r', er'⟩ := pd_kind p
      rw [er'] at er
      injection er with er
      obtain ⟨rfl, rfl⟩ := List.cons.inj er
      exact PySem.W.looks_reads m2
def rSortQ (K : PySem.W.Frag) : List V → Hp → VK → Prop := fun vs H Q => ∃ (a : Addr) (us : List V) (ps : List Pat), vs = [V.ref a] ∧ SqL K H a us ∧ PatsQ K H ps us ∧ SgL Low ps ∧ (∀ p ∈ ps, p.dep ≤ 100) ∧
  ∀ (ws : List V) (l : Addr), PatsQ K H (srt ps) ws → H l = none → Q (.ref l) (upd H l (.lst ws))
theorem each_pats {K : PySem.W.Frag} {pins : List (Addr × Obj)} {X : Cx} {σ : L2.St} {H : Hp} {s : Shared} (I : Inv X pins σ H s) (hK : X.K = K) : ∀ {ps : List Pat} {us : List V} {vs : List Value}, PatsQ K H ps us → Vals us vs →
    PySem.W.EachIs (fun v p => (∃ x, RelV x v ∧ PatQ K H p x) ∧ ∃ as, Reads s.heap v (pd p) as) vs ps
  | [], us, vs, h, r => by
    have h : us = [] := h
    subst h
    cases r
    exact .nil
  | p :: ps, us, vs, ⟨u, ur, e, hp, hr⟩, r => by
    subst e
    cases r with
    | cons r1 r2 => exact .cons ⟨⟨u, r1, hp⟩, by subst hK; exact Dp.reads I (pd p) u _ (pd_dp p u hp) r1⟩ (each_pats I hK hr r2)
theorem pats_each {K : PySem.W.Frag} {H : Hp} : ∀ {ps : List Pat} {vs : List Value}, PySem.W.EachIs (fun v p => ∃ x, RelV x v ∧ PatQ K H p x) vs ps → ∃ us, Vals us vs ∧ PatsQ K H ps us
  | _, _, .nil => ⟨[], .nil, rfl⟩
  | _, _, .cons ⟨x, r, hp⟩ t => by
    obtain ⟨us, r2, h2⟩ := pats_each t
    exact ⟨x :: us, .cons r r2, x, us, rfl, hp, h2⟩
theorem srt_le (h : Heap) (ps qs : List Pat) : qs.mergeSort (PySem.W.sortLe (patKey h ps).toKeyOrd false fun p => p) = srt qs := rfl
theorem cr_sortQ {X : Cx} (hu : X.A.units + 300 < cLine) : CallR X (.builtin "sorted") (rSortQ X.K) := by
  intro pins s σ H vs us Q I r h
  obtain ⟨a, xs, ps, rfl, hs, hp, low, hd, q⟩ := h
  obtain ⟨its, rv, hl, hz⟩ := I.list hs
  rw [Vals.ref1 r]
  have e := each_pats I rfl hp rv
  have lz : its.length ≤ sizeLine := by rw [← rv.length]; exact hz
  have er : PySem.W.EachIs (fun v p => ∃ as, Reads (PySem.W.sortingHeap (PySem.W.copyHeap s.heap its) (s.heap.objs.size + 1) its) v (pd p) as) its ps :=
    e.mono fun _ _ ⟨_, as, r⟩ => ⟨as, PyProof.Rows.Reads.keeps (fun _ _ => PySem.W.sorting_copy_old) r⟩
  have S := pats_sort (prog := X.prog) (w := X.w) (A := X.A.in1.in1) (s := { s with heap := PySem.W.sortingHeap (PySem.W.copyHeap s.heap its) (s.heap.objs.size + 1) its }) low er (fun p hp => by
    have := hd p hp
    show X.A.units + 1 + 1 + 2 * p.dep + 2 < cLine
    omega)
  refine PySem.W.sorted_vals hl.isList S lz ?_
  have ek := (PySem.W.each_mem er).mono (R' := fun v p => (patKey (PySem.W.sortingHeap (PySem.W.copyHeap s.heap its) (s.heap.objs.size + 1) its) ps).keyOf v = some p) fun v p h => by
    obtain ⟨⟨as, r⟩, hp⟩ := h
    exact key_of low hp r
  have out := PySem.W.sortVals_each (κ := patKey (PySem.W.sortingHeap (PySem.W.copyHeap s.heap its) (s.heap.objs.size + 1) its) ps) (rev := false) (R := fun v p => ∃ x, RelV x v ∧ PatQ X.K H p x) (fun p => p) (e.mono fun _ _ h => h.1) ek
  rw [srt_le] at out
  obtain ⟨ws, r2, h2⟩ := pats_each out
  generalize PySem.W.sortVals (patKey (PySem.W.sortingHeap (PySem.W.copyHeap s.heap its) (s.heap.objs.size + 1) its) ps) false its its = outs at r2 out
  obtain ⟨ep, he'⟩ := PyProof.Rows.sortedAll_at s.heap its outs.toArray
  have lw : ws.length ≤ sizeLine := by
    rw [h2.len]
    show (srt ps).length ≤ _
    rw [(srt_perm ps).length_eq, ← hp.len]
    exact hz
  exact ⟨.ref _, upd H (s.heap.objs.size + 1) (.lst ws), I.laid (t' := s.toks) (fun _ _ => PyProof.Rows.sortedAll_old) (Nat.le_succ _) ⟨lw, outs, ep, r2, he'⟩, rfl, q ws _ h2 (I.hok.fresh (Nat.le_succ _))⟩
end Bo
set_option Elab.async false
set_option linter.all false
set_option maxRecDepth 100000
set_option maxHeartbeats 4000000
/-! for i, x in enumerate(t), t a tuple -/
namespace Bo
open PySem PySem.Spec PyProof.Rows L2 GE
theorem enum_new {v : Value} {o : Obj} {Hh : Heap → Prop} (B : Begins v o Hh) :
    Meets (Builtin.«enumerate.__new__» ⟨[.type "enumerate", v], []⟩) (fun _ R s => Hh s.heap ∧
      R (.ok (.ret (.ref (s.heap.push o).objs.size))) { s with heap := (s.heap.push o).push { cls := .type "enumerate", data := .fields #[.none, .bool false, .ref s.heap.objs.size, rawInt 0, .none, .none] } }) :=
  .of_wp fun prog w A R st hh => by
    obtain ⟨hq, gs, dr, tk, ost⟩ := st
    obtain ⟨b1, kk⟩ := hh
    have sub := sub_enumerate
    have goes : ∀ {A' : Around} {E : Value → Shared → Prop} {Q : Value → Shared → Prop}, Q (.ref hq.objs.size) ⟨hq.push o, gs, dr, tk, ost⟩ → wpAny (model prog w) A' (pyIter v) Q E ⟨hq, gs, dr, tk, ost⟩ := fun k => B.iter prog w _ _ ⟨hq, gs, dr, tk, ost⟩ _ b1 k
    wp_walk using goes
    refine wpAny_stack_any fun fs => wpAny_pure ?_
    split
    · rename_i cl _ _ _ _ _
      cases (cl == Value.type "enumerate") <;> (wp_walk using goes; exact ⟨_, rfl, kk⟩)
    · wp_walk using goes
      exact ⟨_, rfl, kk⟩
theorem enum_call {prog : Program} {w : World} {A : Around} {E : Value → Shared → Prop} {s : Shared} {t : Addr} {items : Array Value} {Q : Value → Shared → Prop} (ht : s.heap.IsTuple t items)
    (h : ∀ h', IsEnum h' (s.heap.objs.size + 1) s.heap.objs.size 0 .none → h'.IsTupleIter s.heap.objs.size t 0 → (∀ b o, s.heap.get? b = some o → h'.get? b = some o) → Q (.ref (s.heap.objs.size + 1)) { s with heap := h' }) :
    wpAny (model prog w) A (call (.type "enumerate") [.ref t]) Q E s := by
  refine callType_new F.called_enumerate (by decide) (F.typeCall_enumerate_1 _) (F.newCall_enumerate_1 _) (fun ob => F.args_object_init_2 ob _) F.entry_enumerate_new (enum_new (begins_tuple t items)) ⟨ht, ?_⟩
  generalize eo : ({ cls := .type "tuple_iterator", data := .fields #[.ref t, .int 0 0] } : Obj) = o
  have of : o.isFreed = false := by rw [← eo]; rfl
  have sz : (s.heap.push o).objs.size = s.heap.objs.size + 1 := Heap.size_push ..
  show _ ∧ _
  rw [sz]
  generalize en : ({ cls := .type "enumerate", data := .fields #[.none, .bool false, .ref s.heap.objs.size, rawInt 0, .none, .none] } : Obj) = n
  have nf : n.isFreed = false := by rw [← en]; rfl
  have g1 : ((s.heap.push o).push n).get? (s.heap.objs.size + 1) = some n := by
    have g := Heap.get?_push_size (s.heap.push o) (o := n) nf
    rwa [sz] at g
  have g0 : ((s.heap.push o).push n).get? s.heap.objs.size = some o := Heap.get?_push_of_some _ (Heap.get?_push_size _ of)
  refine ⟨⟨_, g1, by rw [← en]⟩, h _ (by rw [← en] at g1 ⊢; exact g1) ⟨o, g0, by rw [← eo], by rw [← eo]; rfl⟩ fun b ob e => Heap.get?_push_of_some _ (Heap.get?_push_of_some _ e)⟩
theorem enum_end {prog : Program} {w : World} {A : Around} {E : Value → Shared → Prop} {s : Shared} {e it t : Addr} {i : Nat} {items : Array Value} {old : Value} {Q : Option Value → Shared → Prop} (hh : A.handled = none)
    (he : IsEnum s.heap e it ((i : Nat) : Int) old) (hit : s.heap.IsTupleIter it t i) (ht : s.heap.IsTuple t items) (hx : items[i]? = none) (h : ∀ h', Heap.ExtBut it s.heap h' → Q none { s with heap := h' }) : wpAny (model prog w) A (pyNext (.ref e)) Q E s := by
  have ty : s.TypeIs (.ref e) "enumerate" := ⟨_, he, rfl⟩
  unfold pyNext
  refine wpAny_bind (wpAny_attempt (wpAny_callSpecial?_slot (name := Str.ofString "__next__") ty F.slot_enumerate_next (wpAny_call_entry F.slot_enumerate_next ty F.entry_enumerate_next ?_ (F.args_enumerate_next_1 _))))
  show wpAny _ _ (field (.ref e) 2 >>= _) _ _ _
  refine wpAny_bind (wpAny_field he rfl (x := .ref it) rfl (wpAny_bind (wpAny_nextOf_tuple_end hh hit ht hx fun h' x ext st => ?_)))
  obtain ⟨o, ho, hc⟩ := st
  exact wpAny_bind (wpAny_isInstance (T := "StopIteration") (b := true) ⟨o, ho, hc⟩ isSubtype_stop (wpAny_pure (h _ ext)))
/-- the tuple at a, each item in a new pair -/
def IteT (K : PySem.W.Frag) (a : Addr) : It where
  go i H := ∃ (xs : List V) (x : V), SqT K H a xs ∧ xs[i]? = some x
  yld i H v H' := ∃ T x, v = .ref T ∧ H T = none ∧ H' = upd H T (.tup [.int (i : Nat), x]) ∧ ∀ xs, SqT K H a xs → xs[i]? = some x
  stop i H := ∃ xs : List V, SqT K H a xs ∧ xs.length ≤ i
def EnumSt (a e it : Addr) (i : Nat) (h : Heap) : Prop := (∃ old, IsEnum h e it ((i : Nat) : Int) old) ∧ h.IsTupleIter it a i ∧ e ≠ it ∧ a ≠ it ∧ e ≠ a
theorem enum_turn {P : Program} {w : World} {K : PySem.W.Frag} {elts : List Expr} {kk : Nat} {tpos : Pos} (a e it : Addr) : Turn P w K (.Tuple elts kk tpos) (IteT K a) [e, it] e (EnumSt a e it) where
  mem := List.mem_cons_self
  obj := fun i h st b hb => by
    obtain ⟨⟨old, he⟩, ⟨o, ho, _, hd⟩, _⟩ := st
    rcases List.mem_cons.mp hb with z | z
    · exact ⟨_, z ▸ he, fun v q => by cases q⟩
    · exact ⟨o, List.mem_singleton.mp z ▸ ho, fun v q => by rw [hd] at q; cases q⟩
  keep := fun i h h' st k => by
    obtain ⟨⟨old, he⟩, hi, n1, n2, n3⟩ := st
    exact ⟨⟨old, k e List.mem_cons_self _ he⟩, hi.at fun o q => k it (List.mem_cons_of_mem _ (List.mem_singleton.mpr rfl)) o q, n1, n2, n3⟩
  item := by
    intro X hP hw hK hc i pins s σ H E I hf st hg
    subst hP hw hK
    obtain ⟨⟨old, he⟩, hit, n1, n2, n3⟩ := st
    obtain ⟨xs, x, hq, hx⟩ := hg
    obtain ⟨its, rv, tp, _⟩ := I.tuple hq
    obtain ⟨u, hu, ru⟩ := rv.get hx
    have ht : s.heap.IsTuple a its.toArray := tp
    have le := Heap.lt_size he
    have li : it < s.heap.objs.size := by obtain ⟨_, q, _⟩ := hit; exact Heap.lt_size q
    have lx : i < its.toArray.size := by rw [List.size_toArray]; exact (List.getElem?_eq_some_iff.mp hu).1
    refine wpAny_pyNext_enum_itemD (Draws.tuple (prog := X.prog) (w := X.w) (A := X.A.in1) (I.ok.hd hc) it a n2 its.toArray) he ⟨hit, ht⟩ lx n1 (by simp [n1, n3]) fun y h' tk hy ho hs hT _ hk => ?_
    have ey : y = u := by
      have : its[i]? = some y := by simpa using hy
      rw [hu] at this
      exact (Option.some.inj this).symm
    subst ey
    refine ⟨_, rfl, wpAny_letOwnedTupleGo_enum (s := { s with heap := h', toks := tk + 1 }) ho fun h'' he' sb => ?_⟩
    have new : ObjOk X.prog X.w (upd H s.heap.objs.size (.tup [.int (i : Nat), x])) h'' s.heap.objs.size (.tup [.int (i : Nat), x]) :=
      ⟨by show 2 ≤ sizeLine; decide, [.int i tk, y], .cons ⟨_, rfl⟩ (.cons ru .nil), ⟨_, (sb.2 _ (Nat.ne_of_gt le)).trans hT, rfl, _, rfl⟩⟩
    have I1 : Inv X pins σ (upd H s.heap.objs.size (.tup [.int (i : Nat), x])) { s with heap := h'', toks := tk + 1 } :=
      I.turnedNew (ch := [e, it]) (fun b ob hb q => by
        have b1 : b ≠ e := fun z => hb (z ▸ List.mem_cons_self)
        have b2 : b ≠ it := fun z => hb (z ▸ List.mem_cons_of_mem _ (List.mem_singleton.mpr rfl))
        exact (sb.2 b b1).trans (hk b ob b1 b2 q)) hf (Nat.le_refl _) new
    refine ⟨.ref s.heap.objs.size, _, I1, rfl, ⟨_, x, rfl, I.hok.fresh (Nat.le_refl _), rfl, fun ys hy => by rw [I.tuple_inj hy hq]; exact hx⟩, ⟨⟨y, ?_⟩, hs.1.at fun o q => (sb.2 it (Ne.symm n1)).trans q, n1, n2, n3⟩, fun b hb => ?_⟩
    · rw [show ((i + 1 : Nat) : Int) = (i : Int) + 1 by omega]; exact he'
    · have lb : b < s.heap.objs.size := by
        rcases List.mem_cons.mp hb with z | z
        · exact z ▸ le
        · exact List.mem_singleton.mp z ▸ li
      rw [upd_ne (Nat.ne_of_lt lb)]
      exact (hf b hb).1
  done := by
    intro X hP hw hK hc i pins s σ H E I hf st hg
    subst hP hw hK
    obtain ⟨⟨old, he⟩, hit, n1, n2, n3⟩ := st
    obtain ⟨xs, hq, hx⟩ := hg
    obtain ⟨its, rv, tp, _⟩ := I.tuple hq
    obtain ⟨f0, f1, f2, f3, f4, f5⟩ := hf it (List.mem_cons_of_mem _ (List.mem_singleton.mpr rfl))
    have hl := rv.length
    have ht : s.heap.IsTuple a its.toArray := tp
    exact enum_end (I.ok.hd hc) he hit ht (by simp; omega) fun h' eb => ⟨rfl, I.turned (t' := s.toks) (fun b o hb q => eb b o hb q) f0 f1 f3 f4 f5⟩
  self := fun A i s Q E st h => by
    obtain ⟨⟨_, he⟩, _⟩ := st
    exact wpAny_pyIter_enum he h
def iEnumT (K : PySem.W.Frag) (ta : TA) : TI := fun σ H R => ta σ H fun vs H1 => ∃ a xs, vs = [.ref a] ∧ SqT K H1 a xs ∧ R (IteT K a) H1
theorem pi_enumT {X : Cx} {e : Expr} {ta : TA} {p pos tpos : Pos} {elts : List Expr} {kk : Nat} (hg : Gl X "enumerate") (hm : X.mg "enumerate" = none) (ha : PA X [e] ta) (hs : starEach [e] X.env = [(false, eval e X.env)] := by rfl) :
    PI X (.Tuple elts kk tpos) (.Call (.Name "enumerate" p) [e] [] pos) (iEnumT X.K ta) := by
  constructor
  intro pins s σ H R I h
  refine Call_ (ld_blt I hg hm boot_enumerate (PyProof.Rows.callWith_type1 (thn (ha.run pos pins s σ H _ I h) fun us s1 ⟨vs, H1, I1, r1, a, xs, ev, hq, q⟩ => ?_) hs rfl))
  subst ev
  rw [Vals.ref1 r1]
  obtain ⟨its, rv, tp, _⟩ := I1.tuple hq
  have ht : s1.heap.IsTuple a its.toArray := tp
  have la : a < s1.heap.objs.size := by obtain ⟨_, g, _⟩ := ht; exact Heap.lt_size g
  refine enum_call ht fun h' he hit hk => wpAny_pyIter_enum he ?_
  refine ⟨s1.heap.objs.size + 1, [s1.heap.objs.size + 1, s1.heap.objs.size], _, _, H1, rfl, I1.kept (t' := s1.toks) hk, enum_turn a (s1.heap.objs.size + 1) s1.heap.objs.size, ⟨⟨.none, he⟩, hit, Nat.succ_ne_self _, Nat.ne_of_lt la, Nat.ne_of_gt (Nat.lt_succ_of_lt la)⟩, fun b hb => ?_, q⟩
  have hle : s1.heap.objs.size ≤ b := by
    rcases List.mem_cons.mp hb with z | z
    · rw [z]; exact Nat.le_succ _
    · rw [List.mem_singleton.mp z]; exact Nat.le_refl _
  exact I1.fpOk hle (I1.hok.fresh hle)
end Bo
set_option Elab.async false
set_option linter.all false
set_option maxRecDepth 100000
/-! sets of places as numbers -/
namespace Bo
open PySem L2
theorem tb_add : ∀ (p y : Nat), y.testBit p = false → ∀ j, (y + 2 ^ p).testBit j = (y.testBit j || decide (j = p))
  | 0, y, h, j => by
    have e : y % 2 = 0 := by
      rw [Nat.testBit_zero] at h
      have := of_decide_eq_false h
      omega
    cases j with
    | zero => rw [Nat.testBit_zero, Nat.testBit_zero]; simp; omega
    | succ j =>
      rw [Nat.testBit_succ, Nat.testBit_succ]
      have : (y + 2 ^ 0) / 2 = y / 2 := by rw [Nat.pow_zero]; omega
      rw [this]; simp
  | p + 1, y, h, j => by
    rw [Nat.testBit_succ] at h
    cases j with
    | zero =>
      rw [Nat.testBit_zero, Nat.testBit_zero]
      have : (y + 2 ^ (p + 1)) % 2 = y % 2 := by rw [Nat.pow_succ]; omega
      rw [this]; simp
    | succ j =>
      rw [Nat.testBit_succ, Nat.testBit_succ]
      have : (y + 2 ^ (p + 1)) / 2 = y / 2 + 2 ^ p := by rw [Nat.pow_succ]; omega
      rw [this, tb_add p (y / 2) h j]
      simp
theorem tb_sub {x p : Nat} (h : x.testBit p = true) (j : Nat) : (x - 2 ^ p).testBit j = (x.testBit j && decide (j ≠ p)) := by
  have hx : 2 ^ p ≤ x := Nat.ge_two_pow_of_testBit h
  have e : x = (x - 2 ^ p) + 2 ^ p := by omega
  have h0 : (x - 2 ^ p).testBit p = false := by
    have := Nat.testBit_two_pow_add_eq (x - 2 ^ p) p
    rw [Nat.add_comm, ← e, h] at this
    cases hc : (x - 2 ^ p).testBit p with
    | false => rfl
    | true => rw [hc] at this; cases this
  have key := tb_add p (x - 2 ^ p) h0 j
  rw [← e] at key
  rw [key]
  by_cases ej : j = p
  · subst ej; rw [h0]; simp
  · simp [ej]
/-- x & ~(1 << p) -/
def clr (x p : Nat) : Nat := if x.testBit p then x - 2 ^ p else x
theorem tb_clr (x p j : Nat) : (clr x p).testBit j = (x.testBit j && decide (j ≠ p)) := by
  unfold clr
  split
  · rename_i h; exact tb_sub h j
  · rename_i h
    by_cases e : j = p
    · subst e; simp at h; simp [h]
    · simp [e]
theorem and_not_bit (x p : Nat) : Builtin.bitAnd (x : Int) (Builtin.bitNot (1 * 2 ^ p)) = (clr x p : Int) := by
  have h2 : (0 : Int) ≤ 2 ^ p := two_pow_nn p
  unfold Builtin.bitAnd
  have e1 : decide (0 ≤ (x : Int)) = true := decide_eq_true (Int.natCast_nonneg x)
  have e2 : decide (0 ≤ Builtin.bitNot (1 * 2 ^ p)) = false := by
    apply decide_eq_false
    unfold Builtin.bitNot
    omega
  rw [e1, e2]
  show (x : Int) - (((x : Int).toNat &&& (Builtin.bitNot (Builtin.bitNot (1 * 2 ^ p))).toNat : Nat) : Int) = _
  have e3 : (Builtin.bitNot (Builtin.bitNot (1 * 2 ^ p))).toNat = 2 ^ p := by
    unfold Builtin.bitNot
    have : (-(-(1 * 2 ^ p : Int) - 1) - 1) = ((2 ^ p : Nat) : Int) := by rw [Int.natCast_pow]; simp; omega
    rw [this]; rfl
  have e4 : x &&& 2 ^ p = (x.testBit p).toNat * 2 ^ p := Nat.eq_of_testBit_eq fun i => by
    rw [Nat.testBit_and, Nat.testBit_two_pow]
    by_cases e : p = i
    · subst e
      cases hx : x.testBit p with
      | true => simp [Nat.testBit_two_pow_self]
      | false => simp
    · cases hx : x.testBit p with
      | true => simp [e, Nat.testBit_two_pow_of_ne e]
      | false => simp [e]
  rw [e3, Int.toNat_natCast, e4]
  unfold clr
  cases h : x.testBit p with
  | true =>
    have := Nat.ge_two_pow_of_testBit h
    simp only [Bool.toNat_true, if_true, Nat.one_mul]
    omega
  | false => simp
theorem or_nat (a b : Nat) : Builtin.bitOr (a : Int) (b : Int) = ((a ||| b : Nat) : Int) := by rw [bitOr_nn (Int.natCast_nonneg _) (Int.natCast_nonneg _)]; simp
theorem xor_nat (a b : Nat) : Builtin.bitXor (a : Int) (b : Int) = ((a ^^^ b : Nat) : Int) := by rw [Bits.bitXor_pp (Int.natCast_nonneg _) (Int.natCast_nonneg _)]; simp
theorem and_nat (a b : Nat) : Builtin.bitAnd (a : Int) (b : Int) = ((a &&& b : Nat) : Int) := by
  unfold Builtin.bitAnd
  rw [decide_eq_true (Int.natCast_nonneg a), decide_eq_true (Int.natCast_nonneg b)]
  show (((a : Int).toNat &&& (b : Int).toNat : Nat) : Int) = _
  rw [Int.toNat_natCast, Int.toNat_natCast]
theorem shl_nat (a p : Nat) : (a : Int) * 2 ^ ((p : Int)).toNat = ((a * 2 ^ p : Nat) : Int) := by
  rw [Int.toNat_natCast, Int.natCast_mul, Int.natCast_pow]; rfl
theorem one_shl (p : Nat) : (1 : Int) * 2 ^ ((p : Int)).toNat = ((2 ^ p : Nat) : Int) := by
  rw [Int.toNat_natCast, Int.one_mul, Int.natCast_pow]; rfl
theorem xor_top_lt {m : Nat} (h : m ≠ 0) : m ^^^ 2 ^ m.log2 < m := by
  refine Nat.lt_of_lt_of_le (m := 2 ^ m.log2) ?_ (Nat.log2_self_le h)
  refine Nat.lt_pow_two_of_testBit _ fun i hi => ?_
  rw [Nat.testBit_xor, Nat.testBit_two_pow]
  by_cases e : m.log2 = i
  · subst e; rw [Nat.testBit_log2 h]; simp
  · have : m.testBit i = false := Nat.testBit_lt_two_pow (Nat.lt_of_lt_of_le Nat.lt_log2_self (Nat.pow_le_pow_right (by omega) (by omega)))
    rw [this]; simp [e]
theorem tb_xor_top {m : Nat} (h : m ≠ 0) (k : Nat) : (m ^^^ 2 ^ m.log2).testBit k = (m.testBit k && decide (k ≠ m.log2)) := by
  rw [Nat.testBit_xor, Nat.testBit_two_pow]
  by_cases e : m.log2 = k
  · subst e; rw [Nat.testBit_log2 h]; simp
  · have : ¬ k = m.log2 := fun z => e z.symm
    simp [e, this]
theorem bits_nat {m : Nat} (h : m ≠ 0) : ((Builtin.Int.intBits (m : Int) : Nat) : Int) - 1 = ((m.log2 : Nat) : Int) := by
  unfold Builtin.Int.intBits
  have : ((m : Int) == 0) = false := by simpa using h
  rw [this]
  simp
/-- the places where a stretch from i ends, for each i -/
def Rep (n : Nat) (R : Nat → Nat → Prop) (E : List Nat) : Prop := E.length = n + 1 ∧ ∀ i, i ≤ n → ∀ j, (E.getD i 0).testBit j = true ↔ R i j
/-- the number of the places that are led to from those of m -/
def Beh (E : List Nat) (m r : Nat) : Prop := ∀ j, r.testBit j = true ↔ ∃ k, m.testBit k = true ∧ (E.getD k 0).testBit j = true
theorem Beh.uniq {E : List Nat} {m r r' : Nat} (a : Beh E m r) (b : Beh E m r') : r = r' := Nat.eq_of_testBit_eq fun j => by rw [Bool.eq_iff_iff, a j, b j]
theorem lt_of_bits {x n : Nat} (h : ∀ j, x.testBit j = true → j < n) : x < 2 ^ n := Nat.lt_pow_two_of_testBit _ fun i hi => by
  cases e : x.testBit i with
  | false => rfl
  | true => have := h i e; omega
theorem bit_of_shift {x n : Nat} (h : x < 2 ^ (n + 1)) : (x / 2 ^ n = 1) ↔ x.testBit n = true := by
  rw [Nat.testBit_eq_decide_div_mod_eq, decide_eq_true_eq]
  have h9 : x / 2 ^ n < 2 := Nat.div_lt_of_lt_mul (by rw [Nat.pow_succ] at h; omega)
  generalize x / 2 ^ n = q at h9 ⊢
  omega
theorem star_iff {R : Nat → Nat → Prop} {i j : Nat} : Star R i j ↔ i = j ∨ ∃ k, k ≠ i ∧ R i k ∧ Star R k j := by
  constructor
  · intro h
    induction h with
    | refl => exact .inl rfl
    | @step a b c r s ih =>
      by_cases e : b = a
      · subst e; exact ih
      · exact .inr ⟨b, e, r, s⟩
  · rintro (rfl | ⟨k, _, r, s⟩)
    · exact .refl _
    · exact .step r s
theorem MRow_snoc (t : List Nat) (p : Pat) : ∀ (ps : List Pat) (i j : Nat), MRow t (ps ++ [p]) i j ↔ ∃ k, MRow t ps i k ∧ M t p k j
  | [], i, j => by
    show (∃ k, M t p i k ∧ k = j) ↔ ∃ k, i = k ∧ M t p k j
    exact ⟨fun ⟨k, h, e⟩ => ⟨i, rfl, e ▸ h⟩, fun ⟨k, e, h⟩ => ⟨j, e ▸ h, rfl⟩⟩
  | q :: ps, i, j => by
    show (∃ k, M t q i k ∧ MRow t (ps ++ [p]) k j) ↔ ∃ k, (∃ l, M t q i l ∧ MRow t ps l k) ∧ M t p k j
    constructor
    · rintro ⟨k, h, h2⟩
      obtain ⟨l, a, b⟩ := (MRow_snoc t p ps k j).mp h2
      exact ⟨l, ⟨k, h, a⟩, b⟩
    · rintro ⟨k, ⟨l, a, b⟩, c⟩
      exact ⟨l, a, (MRow_snoc t p ps l j).mpr ⟨k, b, c⟩⟩
theorem MOr_snoc (t : List Nat) (p : Pat) : ∀ (ps : List Pat) (i j : Nat), MOr t (ps ++ [p]) i j ↔ MOr t ps i j ∨ M t p i j
  | [], i, j => by show (M t p i j ∨ False) ↔ (False ∨ M t p i j); simp
  | q :: ps, i, j => by
    show (M t q i j ∨ MOr t (ps ++ [p]) i j) ↔ (M t q i j ∨ MOr t ps i j) ∨ M t p i j
    rw [MOr_snoc t p ps i j, or_assoc]
theorem MAnd_snoc (t : List Nat) (p : Pat) : ∀ (ps : List Pat) (i j : Nat), MAnd t (ps ++ [p]) i j ↔ MAnd t ps i j ∧ M t p i j
  | [], i, j => by show (M t p i j ∧ True) ↔ (True ∧ M t p i j); simp
  | q :: ps, i, j => by
    show (M t q i j ∧ MAnd t (ps ++ [p]) i j) ↔ (M t q i j ∧ MAnd t ps i j) ∧ M t p i j
    rw [MAnd_snoc t p ps i j, and_assoc]
theorem MAnd_mem {t : List Nat} {i j : Nat} : ∀ {ps : List Pat}, MAnd t ps i j ↔ ∀ p ∈ ps, M t p i j
  | [] => by show True ↔ _; simp
  | q :: ps => by
    show (M t q i j ∧ MAnd t ps i j) ↔ _
    rw [MAnd_mem (ps := ps)]; simp
theorem MOr_mem {t : List Nat} {i j : Nat} : ∀ {ps : List Pat}, MOr t ps i j ↔ ∃ p ∈ ps, M t p i j
  | [] => by show False ↔ _; simp
  | q :: ps => by
    show (M t q i j ∨ MOr t ps i j) ↔ _
    rw [MOr_mem (ps := ps)]; simp
theorem tb_between {N p : Nat} (h : p ≤ N) (j : Nat) : (2 ^ N - 2 ^ p).testBit j = (decide (p ≤ j) && decide (j < N)) := by
  have hp : 1 ≤ 2 ^ p := Nat.one_le_two_pow
  have hN : 2 ^ p ≤ 2 ^ N := Nat.pow_le_pow_right (by omega) h
  have e : 2 ^ N - 2 ^ p = 2 ^ N - ((2 ^ p - 1) + 1) := by omega
  rw [e, Nat.testBit_two_pow_sub_succ (by omega), Nat.testBit_two_pow_sub_one, Bool.and_comm]
  congr 1
  by_cases q : j < p <;> simp [q] <;> omega
end Bo
set_option Elab.async false
set_option linter.all false
set_option maxRecDepth 100000
set_option maxHeartbeats 4000000
/-! list comprehensions that put values in a row -/
namespace Bo
open PySem PySem.Spec PyProof.Rows L2 GE
abbrev nV (x : Nat) : V := V.int (x : Int)
/-- a new list at D holds the first i of some values; what was there before H0 stays -/
def Built (H0 : Hp) (D : Addr) (vals : Nat → V) (i : Nat) (H : Hp) : Prop := Ext H0 H ∧ H D = some (.lst ((List.range i).map vals))
theorem Built.zero {H0 : Hp} {D : Addr} {vals : Nat → V} (h : H0 D = none) : Built H0 D vals 0 (upd H0 D (.lst [])) := ⟨(Ext.refl _).wr h, upd_same⟩
theorem Built.next {H0 H H4 : Hp} {D : Addr} {vals : Nat → V} {i : Nat} {y : V} (h0 : H0 D = none) (b : Built H0 D vals i H) (e : Ext H H4) (ey : y = vals i) (hi : i < sizeLine) :
    ∃ acc, H4 D = some (.lst acc) ∧ acc.length < sizeLine ∧ Built H0 D vals (i + 1) (upd H4 D (.lst (acc ++ [y]))) := by
  refine ⟨_, e.lst b.2, by simpa using hi, (b.1.trans e).wr h0, ?_⟩
  rw [upd_same, ey, List.range_succ, List.map_append]
  rfl
section
variable {K : PySem.W.Frag} {g : TG} {tt : TT} {te : TE} {vs : List Nat} {σ : L2.St} {H1 : Hp} {D : Addr} {Qd : Hp → Prop}
/-- over the signs of a text with their places -/
theorem lc_ites {x : Str} (Pv : Nat → Hp → Prop) (h0 : Pv 0 (upd H1 D (.lst [])))
    (hs : ∀ i c T H, x.cps[i]? = some c → H T = none → Pv i H → g (.ref T) (wipe σ vs) (upd H T (.tup [nV i, .str ⟨#[c]⟩])) fun σ2 H2 => wipe σ2 vs = wipe σ vs ∧ tt σ2 H2 fun b H3 =>
      if b = true then te σ2 H3 fun y H4 => ∃ acc, H4 D = some (.lst acc) ∧ acc.length < sizeLine ∧ Pv (i + 1) (upd H4 D (.lst (acc ++ [y]))) else Pv (i + 1) H3) (hd : ∀ H, Pv x.cps.size H → Qd H) :
    ∃ W : Nat → Nat → Hp → Prop, (∃ m, W 0 m (upd H1 D (.lst []))) ∧ ∀ i m H, W i m H →
      ((Ites x).stop i H ∧ Qd H) ∨ ((Ites x).go i H ∧ ∃ Nx : Hp → Prop, (∀ H', Nx H' → ∃ m', m' < m ∧ W (i + 1) m' H') ∧ ∀ v H', (Ites x).yld i H v H' → g v (wipe σ vs) H' fun σ2 H2 => wipe σ2 vs = wipe σ vs ∧ tt σ2 H2 fun b H3 =>
        if b = true then te σ2 H3 fun y H4 => ∃ acc, H4 D = some (.lst acc) ∧ acc.length < sizeLine ∧ Nx (upd H4 D (.lst (acc ++ [y]))) else Nx H3) := by
  refine ⟨fun i m H => m = x.cps.size - i ∧ i ≤ x.cps.size ∧ Pv i H, ⟨x.cps.size, by simp, Nat.zero_le _, h0⟩, ?_⟩
  rintro i m H ⟨rfl, hi, p⟩
  by_cases hlt : i < x.cps.size
  · refine .inr ⟨hlt, Pv (i + 1), fun H' p' => ⟨x.cps.size - (i + 1), by omega, rfl, hlt, p'⟩, fun v H' y => ?_⟩
    obtain ⟨T, c, rfl, hT, rfl, hc⟩ := y
    exact hs i c T H hc hT p
  · have e : i = x.cps.size := by omega
    subst e
    exact .inl ⟨rfl, hd H p⟩
/-- over a list with places -/
theorem lc_ite {a : Addr} {xs : List V} (Pv : Nat → Hp → Prop) (h0 : Pv 0 (upd H1 D (.lst []))) (hl : ∀ i H, Pv i H → SqL K H a xs)
    (hs : ∀ i x T H, xs[i]? = some x → H T = none → Pv i H → g (.ref T) (wipe σ vs) (upd H T (.tup [nV i, x])) fun σ2 H2 => wipe σ2 vs = wipe σ vs ∧ tt σ2 H2 fun b H3 =>
      if b = true then te σ2 H3 fun y H4 => ∃ acc, H4 D = some (.lst acc) ∧ acc.length < sizeLine ∧ Pv (i + 1) (upd H4 D (.lst (acc ++ [y]))) else Pv (i + 1) H3) (hd : ∀ H, Pv xs.length H → Qd H) :
    ∃ W : Nat → Nat → Hp → Prop, (∃ m, W 0 m (upd H1 D (.lst []))) ∧ ∀ i m H, W i m H →
      ((Ite K a).stop i H ∧ Qd H) ∨ ((Ite K a).go i H ∧ ∃ Nx : Hp → Prop, (∀ H', Nx H' → ∃ m', m' < m ∧ W (i + 1) m' H') ∧ ∀ v H', (Ite K a).yld i H v H' → g v (wipe σ vs) H' fun σ2 H2 => wipe σ2 vs = wipe σ vs ∧ tt σ2 H2 fun b H3 =>
        if b = true then te σ2 H3 fun y H4 => ∃ acc, H4 D = some (.lst acc) ∧ acc.length < sizeLine ∧ Nx (upd H4 D (.lst (acc ++ [y]))) else Nx H3) := by
  refine ⟨fun i m H => m = xs.length - i ∧ i ≤ xs.length ∧ Pv i H, ⟨xs.length, by simp, Nat.zero_le _, h0⟩, ?_⟩
  rintro i m H ⟨rfl, hi, p⟩
  have q := hl i H p
  by_cases hlt : i < xs.length
  · refine .inr ⟨⟨xs, xs[i], q, by simp [hlt]⟩, Pv (i + 1), fun H' p' => ⟨xs.length - (i + 1), by omega, rfl, hlt, p'⟩, fun v H' y => ?_⟩
    obtain ⟨T, x, rfl, hT, rfl, hx⟩ := y
    exact hs i x T H (hx xs q) hT p
  · have e : i = xs.length := by omega
    subst e
    exact .inl ⟨⟨xs, q, Nat.le_refl _⟩, hd H p⟩
/-- over two lists of one length -/
theorem lc_itz {a b : Addr} {xs ys : List V} (hl : xs.length = ys.length) (Pv : Nat → Hp → Prop) (h0 : Pv 0 (upd H1 D (.lst []))) (hq : ∀ i H, Pv i H → SqL K H a xs ∧ SqL K H b ys)
    (hs : ∀ i x y T H, xs[i]? = some x → ys[i]? = some y → H T = none → Pv i H → g (.ref T) (wipe σ vs) (upd H T (.tup [x, y])) fun σ2 H2 => wipe σ2 vs = wipe σ vs ∧ tt σ2 H2 fun b H3 =>
      if b = true then te σ2 H3 fun y H4 => ∃ acc, H4 D = some (.lst acc) ∧ acc.length < sizeLine ∧ Pv (i + 1) (upd H4 D (.lst (acc ++ [y]))) else Pv (i + 1) H3) (hd : ∀ H, Pv xs.length H → Qd H) :
    ∃ W : Nat → Nat → Hp → Prop, (∃ m, W 0 m (upd H1 D (.lst []))) ∧ ∀ i m H, W i m H →
      ((Itz K a b).stop i H ∧ Qd H) ∨ ((Itz K a b).go i H ∧ ∃ Nx : Hp → Prop, (∀ H', Nx H' → ∃ m', m' < m ∧ W (i + 1) m' H') ∧ ∀ v H', (Itz K a b).yld i H v H' → g v (wipe σ vs) H' fun σ2 H2 => wipe σ2 vs = wipe σ vs ∧ tt σ2 H2 fun b H3 =>
        if b = true then te σ2 H3 fun y H4 => ∃ acc, H4 D = some (.lst acc) ∧ acc.length < sizeLine ∧ Nx (upd H4 D (.lst (acc ++ [y]))) else Nx H3) := by
  refine ⟨fun i m H => m = xs.length - i ∧ i ≤ xs.length ∧ Pv i H, ⟨xs.length, by simp, Nat.zero_le _, h0⟩, ?_⟩
  rintro i m H ⟨rfl, hi, p⟩
  obtain ⟨q1, q2⟩ := hq i H p
  by_cases hlt : i < xs.length
  · have hlt2 : i < ys.length := by omega
    refine .inr ⟨⟨xs, ys, xs[i], ys[i], q1, q2, by simp [hlt], by simp [hlt2]⟩, Pv (i + 1), fun H' p' => ⟨xs.length - (i + 1), by omega, rfl, hlt, p'⟩, fun v H' y => ?_⟩
    obtain ⟨T, x, y, rfl, hT, rfl, hx, hy⟩ := y
    exact hs i x y T H (hx xs q1) (hy ys q2) hT p
  · have e : i = xs.length := by omega
    subst e
    exact .inl ⟨⟨xs, ys, q1, q2, .inl (Nat.le_refl _)⟩, hd H p⟩
end
/-- a pair just made taken apart into slots i and j -/
theorem g_pair {K : PySem.W.Frag} {i j : Nat} {T : Addr} {x y : V} {σ : L2.St} {H : Hp} {Q : L2.St → Hp → Prop} (h : H T = some (.tup [x, y])) (q : Q ((σ.set i (some x)).set j (some y)) H) :
    gTup K 2 (gCons (gName i) (gCons (gName j) gNil)) (.ref T) σ H Q := ⟨T, _, rfl, SqT.of h, rfl, x, _, rfl, y, _, rfl, rfl, q⟩
end Bo
set_option Elab.async false
set_option linter.all false
set_option maxRecDepth 100000
set_option maxHeartbeats 4000000
namespace Bo
open PySem PySem.Spec PyProof.Rows L2 GE
section
variable {K : PySem.W.Frag} {σ : L2.St} {H : Hp} {a : Addr} {xs : List V} {v : V} {Q : VK} {D : Ends} {t u : TS}
/-- x[j], x a tuple in slot i -/
theorem q_ix {i : Nat} (j : Nat) (h0 : σ[i]? = some (some (.ref a))) (ha : SqT K H a xs) (hx : xs[j]? = some v) (q : Q v H) : tOp (rIxT K) (tVar i) (tC (.int (j : Int))) σ H Q :=
  ⟨_, h0, a, xs, _, v, rfl, rfl, ha, atI_nat hx, q⟩
theorem q_kind {i : Nat} {k z : Str} {Q : Bool → Hp → Prop} (h0 : σ[i]? = some (some (.ref a))) (ha : SqT K H a (.str k :: xs)) (q : Q (decide (k = z)) H) : tTest (tOp rEq (tOp (rIxT K) (tVar i) (tC (.int 0))) (tC (.str z))) σ H Q := by
  refine q_ix 0 h0 ha rfl ⟨rfl, _, rfl, ?_⟩
  have e : decide (V.str k = V.str z) = decide (k = z) := by rw [dec_str, Bool.beq_eq_decide_eq]
  rw [e]; exact q
theorem q_kT {i : Nat} {z : Str} (h0 : σ[i]? = some (some (.ref a))) (ha : SqT K H a (.str z :: xs)) (h : t D σ H) : tIfS (tTest (tOp rEq (tOp (rIxT K) (tVar i) (tC (.int 0))) (tC (.str z)))) t u D σ H :=
  q_kind h0 ha (iffT (decide_eq_true rfl) h)
theorem q_kF {i : Nat} {k z : Str} (h0 : σ[i]? = some (some (.ref a))) (ha : SqT K H a (.str k :: xs)) (n : k ≠ z) (h : u D σ H) : tIfS (tTest (tOp rEq (tOp (rIxT K) (tVar i) (tC (.int 0))) (tC (.str z)))) t u D σ H :=
  q_kind h0 ha (iffF (decide_eq_false n) h)
/-- x[0] in ("..", ..) -/
theorem q_in {i : Nat} {k : Str} (zs : List Str) (h0 : σ[i]? = some (some (.ref a))) (ha : SqT K H a (.str k :: xs)) (hz : zs.length ≤ 20) (q : ∀ p, H p = none → Q (.bl (decide (k ∈ zs))) (upd H p (.tup (zs.map V.str)))) :
    tOp (rIn K false) (tOp (rIxT K) (tVar i) (tC (.int 0))) (tTup (tCs zs)) σ H Q := by
  refine q_ix 0 h0 ha rfl (tCs_go zs _ ⟨?_, fun p np => ?_⟩)
  · rw [List.length_map]; exact Nat.le_of_lt (small1000 (by omega))
  · refine ⟨p, _, rfl, .inr (SqT.of upd_same), rfl, ?_, ?_⟩
    · rw [List.all_map, List.all_eq_true]; intro z _; rfl
    · rw [inV_str]; exact q p np
theorem q_inT {i : Nat} {k : Str} (zs : List Str) (h0 : σ[i]? = some (some (.ref a))) (ha : SqT K H a (.str k :: xs)) (hk : k ∈ zs) (h : ∀ p, H p = none → t D σ (upd H p (.tup (zs.map V.str)))) (hz : zs.length ≤ 20 := by decide) :
    tIfS (tTest (tOp (rIn K false) (tOp (rIxT K) (tVar i) (tC (.int 0))) (tTup (tCs zs)))) t u D σ H :=
  q_in zs h0 ha hz fun p np => ⟨_, rfl, iffT (decide_eq_true hk) (h p np)⟩
theorem q_inF {i : Nat} {k : Str} (zs : List Str) (h0 : σ[i]? = some (some (.ref a))) (ha : SqT K H a (.str k :: xs)) (hk : k ∉ zs) (h : ∀ p, H p = none → u D σ (upd H p (.tup (zs.map V.str)))) (hz : zs.length ≤ 20 := by decide) :
    tIfS (tTest (tOp (rIn K false) (tOp (rIxT K) (tVar i) (tC (.int 0))) (tTup (tCs zs)))) t u D σ H :=
  q_in zs h0 ha hz fun p np => ⟨_, rfl, iffF (decide_eq_false hk) (h p np)⟩
end
end Bo
set_option Elab.async false
set_option linter.all false
set_option maxRecDepth 100000
set_option maxHeartbeats 4000000
namespace Bo
open PySem PySem.Spec PyProof.Rows L2 GE
def spTE (K : PySem.W.Frag) (d : Nat) (T : Addr) : Sp := fun vs H Q _ => ∃ v p, vs = [v] ∧ PatQ K H p v ∧ p.dep ≤ d ∧ GxR.TabG H T ∧ ∀ H', Ext H H' → Q (.bl (nullb p)) H'
theorem take_all {ps : List Pat} {i : Nat} {p : Pat} (h : ps[i]? = some p) : (ps.take (i + 1)).all nullb = ((ps.take i).all nullb && nullb p) := by
  rw [List.take_succ, h]; simp
theorem take_any {ps : List Pat} {i : Nat} {p : Pat} (h : ps[i]? = some p) : (ps.take (i + 1)).any nullb = ((ps.take i).any nullb || nullb p) := by
  rw [List.take_succ, h]; simp
section
variable {P : Program} {w : World} {K : PySem.W.Frag} {mg : Str → Option Value} {base : Heap}
theorem scTE : FnScope ["pattern"] ["pattern"] (defScope sTakesEmpty) := ⟨rfl, rfl, rfl, by decide +kernel, rfl, by decide +kernel, by decide +kernel⟩
theorem te_none {f : Addr} {fd : FuncData} {T : Addr} {k : Nat} : FnOk P w K mg base CX0 k f fd ["pattern"] (spTE K 0 T) := by
  have no : ∀ vs H Q E, ¬ spTE K 0 T vs H Q E := fun vs H Q E h => by
    obtain ⟨v, p, _, _, hd, _⟩ := h
    have := dep_pos p
    omega
  exact ⟨fun vs H Q E h => absurd h (no vs H Q E), fun A outer s H args us vs Q E _ _ _ _ h => absurd h (no vs H Q E)⟩
theorem te_step {f : Addr} {fd : FuncData} {c T : Addr} {k d : Nat} (F : FnP K "takes_empty" sTakesEmpty f fd) (hc : fd.code = .ref c) (TB : GxR.TabB base mg c T) (G : FnOk P w K mg base CX0 k f fd ["pattern"] (spTE K d T)) (b : Binds K fd ["pattern"] [])
    (mG : mg "takes_empty" = some (.ref f)) (ma : mg "any" = none) (ml : mg "all" = none) : FnOk P w K mg base CX0 (k + 1 + 1) f fd ["pattern"] (spTE K (d + 1) T) := by
  refine okC F hc scTE (fun vs H Q E h => ?_) (fun A outer s H vs Q E hr h => ?_)
  · obtain ⟨v, p, rfl, _⟩ := h
    rfl
  obtain ⟨v, p, rfl, hp, hd, hT, q⟩ := h
  refine ⟨_, PSs.nox (pss_cons (ps_if (pt_cmpR op_eq (pe_ix ix_tup (pv 0) pe_int (fun _ _ => rfl)) pe_str (nomark _)) (pss_one (ps_ret (pe_not (pe_call G (hr.mono (by omega)) rfl mG F.kp b .nil pass0 (pa_cons (pe_ix ix_tup (pv 0) pe_int (fun _ _ => rfl)) pa_nil))))) pss_nil)
    (pss_cons (ps_if (pt_cmpR op_eq (pe_ix ix_tup (pv 0) pe_int (fun _ _ => rfl)) pe_str (nomark _))
      (pss_one (ps_ret (pe_anyE rfl hr rfl ma TB rfl (gsc_by (N := ["pattern"]) (sc := defScope sTakesEmpty) (by decide +kernel)) (pi_tup (pe_ix ix_tup (pv 0) pe_int (fun _ _ => rfl)))
        (fun s H C code fp => pe_call G (Room.gen hr _) rfl mG F.kp b .nil pass0 (pa_cons (pv 1) pa_nil)) (fun _ => rfl)))) pss_nil)
    (pss_cons (ps_if (pt_cmpR op_in_seq (pe_ix ix_tup (pv 0) pe_int (fun _ _ => rfl)) (pe_tup (pa_cons pe_str (pa_cons pe_str pa_nil))) (by rfl))
      (pss_one (ps_ret (pe_allE rfl hr rfl ml TB rfl (gsc_by (N := ["pattern"]) (sc := defScope sTakesEmpty) (by decide +kernel)) (pi_tup (pe_ix ix_tup (pv 0) pe_int (fun _ _ => rfl)))
        (fun s H C code fp => pe_call G (Room.gen hr _) rfl mG F.kp b .nil pass0 (pa_cons (pv 1) pa_nil)) (fun _ => rfl)))) pss_nil)
    (pss_one (ps_ret (pe_cmpR op_in_seq (pe_ix ix_tup (pv 0) pe_int (fun _ _ => rfl)) (pe_tup (pa_cons pe_str (pa_cons pe_str pa_nil))) (by rfl))))))), ?_⟩
  -- all over the parts, behind the test's tuple
  have every : ∀ (ps : List Pat) (a b : Addr) (vs : List V) (z : V), SqT K H a [z, .ref b] → H b = some (.tup vs) → PatsQ K H ps vs → depL ps ≤ d → ∀ (H1 : Hp), Ext H H1 →
      (∀ H', Ext H H' → Q (.bl (nullAll ps)) H') →
      tQuant false T (iTup K (tOp (rIxT K) (tVar 0) (tC (.int 1)))) (tCall (spTE K d T) [] E0 (tCons (tVar 1) tNil)) [some (.ref a)] H1 Q := by
    intro ps a b vs z ha hb hps hdp H1 e1 q
    refine q_ix 1 rfl (e1.sqT _ _ ha) rfl ⟨b, rfl, ⟨vs, SqT.of (e1.tup hb)⟩, ?_⟩
    refine quant_tup (e1.tab _ hT) (e1.tup hb) (fun i H' => Ext H H' ∧ (ps.take i).all nullb = true) (fun H' e => ⟨e1.trans e, rfl⟩) (fun i H' p => p.1.tup hb) ?_ ?_
    · rintro i v H' hv ⟨e, hall⟩
      obtain ⟨p, hp, hpv⟩ := hps.get hv
      refine ⟨_, rfl, v, p, rfl, PatQ.ext e p v hpv, Nat.le_trans (dep_mem (List.mem_of_getElem? hp)) hdp, e.tab _ hT, fun H2 e2 => ⟨_, rfl, ?_⟩⟩
      cases hn : nullb p with
      | false =>
        rw [if_pos rfl]
        have : nullAll ps = false := by
          rw [nullAll_eq, List.all_eq_false]
          exact ⟨p, List.mem_of_getElem? hp, by rw [hn]; exact Bool.false_ne_true⟩
        rw [this] at q
        exact q _ (e.trans e2)
      | true =>
        rw [if_neg (by decide)]
        exact ⟨e.trans e2, by rw [take_all hp, hall, hn]; rfl⟩
    · rintro H' ⟨e, hall⟩
      rw [hps.len, List.take_length] at hall
      rw [nullAll_eq, hall] at q
      exact q _ e
  have some_ : ∀ (ps : List Pat) (a b : Addr) (vs : List V) (z : V), SqT K H a [z, .ref b] → H b = some (.tup vs) → PatsQ K H ps vs → depL ps ≤ d → 
      (∀ H', Ext H H' → Q (.bl (nullAny ps)) H') →
      tQuant true T (iTup K (tOp (rIxT K) (tVar 0) (tC (.int 1)))) (tCall (spTE K d T) [] E0 (tCons (tVar 1) tNil)) [some (.ref a)] H Q := by
    intro ps a b vs z ha hb hps hdp q
    refine q_ix 1 rfl ha rfl ⟨b, rfl, ⟨vs, SqT.of hb⟩, ?_⟩
    refine quant_tup hT hb (fun i H' => Ext H H' ∧ (ps.take i).any nullb = false) (fun H' e => ⟨e, rfl⟩) (fun i H' p => p.1.tup hb) ?_ ?_
    · rintro i v H' hv ⟨e, hall⟩
      obtain ⟨p, hp, hpv⟩ := hps.get hv
      refine ⟨_, rfl, v, p, rfl, PatQ.ext e p v hpv, Nat.le_trans (dep_mem (List.mem_of_getElem? hp)) hdp, e.tab _ hT, fun H2 e2 => ⟨_, rfl, ?_⟩⟩
      cases hn : nullb p with
      | true =>
        rw [if_pos rfl]
        have : nullAny ps = true := by
          rw [nullAny_eq, List.any_eq_true]
          exact ⟨p, List.mem_of_getElem? hp, hn⟩
        rw [this] at q
        exact q _ (e.trans e2)
      | false =>
        rw [if_neg (by decide)]
        exact ⟨e.trans e2, by rw [take_any hp, hall, hn]; rfl⟩
    · rintro H' ⟨e, hall⟩
      rw [hps.len, List.take_length] at hall
      rw [nullAny_eq, hall] at q
      exact q _ e
  cases p with
  | none =>
    obtain ⟨a, rfl, ha⟩ := hp
    refine t_seq (q_kF rfl ha (by decide) (t_seq (q_kF rfl ha (by decide) (t_seq (q_inF ["row", "and"] rfl ha (by decide) fun p np => ?_)))))
    exact q_in ["empty", "many"] rfl ((Ext.new np).sqT _ _ ha) (by decide) fun p' np' => q _ ((Ext.new np).trans (Ext.new np'))
  | empty =>
    obtain ⟨a, rfl, ha⟩ := hp
    refine t_seq (q_kF rfl ha (by decide) (t_seq (q_kF rfl ha (by decide) (t_seq (q_inF ["row", "and"] rfl ha (by decide) fun p np => ?_)))))
    exact q_in ["empty", "many"] rfl ((Ext.new np).sqT _ _ ha) (by decide) fun p' np' => q _ ((Ext.new np).trans (Ext.new np'))
  | sign c =>
    obtain ⟨a, rfl, ha⟩ := hp
    refine t_seq (q_kF rfl ha (by decide) (t_seq (q_kF rfl ha (by decide) (t_seq (q_inF ["row", "and"] rfl ha (by decide) fun p np => ?_)))))
    exact q_in ["empty", "many"] rfl ((Ext.new np).sqT _ _ ha) (by decide) fun p' np' => q _ ((Ext.new np).trans (Ext.new np'))
  | many p =>
    obtain ⟨a, u, rfl, ha, hu⟩ := hp
    refine t_seq (q_kF rfl ha (by decide) (t_seq (q_kF rfl ha (by decide) (t_seq (q_inF ["row", "and"] rfl ha (by decide) fun p np => ?_)))))
    exact q_in ["empty", "many"] rfl ((Ext.new np).sqT _ _ ha) (by decide) fun p' np' => q _ ((Ext.new np).trans (Ext.new np'))
  | row ps =>
    obtain ⟨a, b, vs, rfl, ha, hb, hps⟩ := hp
    refine t_seq (q_kF rfl ha (by decide) (t_seq (q_kF rfl ha (by decide) (t_seq (q_inT ["row", "and"] rfl ha (by decide) fun p np => ?_)))))
    exact every ps a b vs _ ha hb hps (by simp [Pat.dep] at hd; omega) _ (Ext.new np) q
  | and ps =>
    obtain ⟨a, b, vs, rfl, ha, hb, hps⟩ := hp
    refine t_seq (q_kF rfl ha (by decide) (t_seq (q_kF rfl ha (by decide) (t_seq (q_inT ["row", "and"] rfl ha (by decide) fun p np => ?_)))))
    exact every ps a b vs _ ha hb hps (by simp [Pat.dep] at hd; omega) _ (Ext.new np) q
  | or ps =>
    obtain ⟨a, b, vs, rfl, ha, hb, hps⟩ := hp
    refine t_seq (q_kF rfl ha (by decide) (t_seq (q_kT rfl ha ?_)))
    exact some_ ps a b vs _ ha hb hps (by simp [Pat.dep] at hd; omega) q
  | not p =>
    obtain ⟨a, u, rfl, ha, hu⟩ := hp
    refine t_seq (q_kT rfl ha ?_)
    refine q_ix 1 rfl ha rfl ?_
    exact ⟨u, p, rfl, hu, by simp [Pat.dep] at hd; omega, hT, fun H' e => ⟨_, rfl, q H' e⟩⟩
end
end Bo
set_option Elab.async false
set_option linter.all false
set_option maxRecDepth 100000
set_option maxHeartbeats 8000000
/-! covers -/
namespace Bo
open PySem PySem.Spec PyProof.Rows L2 GE
theorem take_allF {f : Pat → Bool} {ps : List Pat} {i : Nat} {p : Pat} (h : ps[i]? = some p) : (ps.take (i + 1)).all f = ((ps.take i).all f && f p) := by
  rw [List.take_succ, h]; simp
theorem take_anyF {f : Pat → Bool} {ps : List Pat} {i : Nat} {p : Pat} (h : ps[i]? = some p) : (ps.take (i + 1)).any f = ((ps.take i).any f || f p) := by
  rw [List.take_succ, h]; simp
section
variable {K : PySem.W.Frag} {T a b : Addr} {ps : List Pat} {vs : List V} {z : V} {te : TE} {σ : L2.St} {H : Hp} {Q : VK} (f : Pat → Bool) {i : Nat} (h0 : σ[i]? = some (some (.ref a))) (ha : SqT K H a [z, .ref b]) (hb : H b = some (.tup vs)) (hps : PatsQ K H ps vs) (hT : GxR.TabG H T)
  (hs : ∀ p ∈ ps, ∀ v H', PatQ K H' p v → Ext H H' → ∀ Q' : VK, (∀ H'', Ext H' H'' → Q' (.bl (f p)) H'') → te (σ ++ [some v]) H' Q')
include h0 ha hb hps hT hs
theorem all_pats (q : ∀ H', Ext H H' → Q (.bl (ps.all f)) H') : tQuant false T (iTup K (tOp (rIxT K) (tVar i) (tC (.int 1)))) te σ H Q := by
  refine q_ix 1 h0 ha rfl ⟨b, rfl, ⟨vs, SqT.of hb⟩, ?_⟩
  refine quant_tup hT hb (fun i H' => Ext H H' ∧ (ps.take i).all f = true) (fun H' e => ⟨e, rfl⟩) (fun i H' p => p.1.tup hb) ?_ ?_
  · rintro i v H' hv ⟨e, hall⟩
    obtain ⟨p, hp, hpv⟩ := hps.get hv
    refine hs p (List.mem_of_getElem? hp) v H' (PatQ.ext e p v hpv) e _ fun H2 e2 => ⟨_, rfl, ?_⟩
    cases hn : f p with
    | false =>
      rw [if_pos rfl]
      have : ps.all f = false := List.all_eq_false.mpr ⟨p, List.mem_of_getElem? hp, by rw [hn]; exact Bool.false_ne_true⟩
      rw [this] at q
      exact q _ (e.trans e2)
    | true =>
      rw [if_neg (by decide)]
      exact ⟨e.trans e2, by rw [take_allF hp, hall, hn]; rfl⟩
  · rintro H' ⟨e, hall⟩
    rw [hps.len, List.take_length] at hall
    rw [hall] at q
    exact q _ e
theorem any_pats (q : ∀ H', Ext H H' → Q (.bl (ps.any f)) H') : tQuant true T (iTup K (tOp (rIxT K) (tVar i) (tC (.int 1)))) te σ H Q := by
  refine q_ix 1 h0 ha rfl ⟨b, rfl, ⟨vs, SqT.of hb⟩, ?_⟩
  refine quant_tup hT hb (fun i H' => Ext H H' ∧ (ps.take i).any f = false) (fun H' e => ⟨e, rfl⟩) (fun i H' p => p.1.tup hb) ?_ ?_
  · rintro i v H' hv ⟨e, hall⟩
    obtain ⟨p, hp, hpv⟩ := hps.get hv
    refine hs p (List.mem_of_getElem? hp) v H' (PatQ.ext e p v hpv) e _ fun H2 e2 => ⟨_, rfl, ?_⟩
    cases hn : f p with
    | true =>
      rw [if_pos rfl]
      have : ps.any f = true := List.any_eq_true.mpr ⟨p, List.mem_of_getElem? hp, hn⟩
      rw [this] at q
      exact q _ (e.trans e2)
    | false =>
      rw [if_neg (by decide)]
      exact ⟨e.trans e2, by rw [take_anyF hp, hall, hn]; rfl⟩
  · rintro H' ⟨e, hall⟩
    rw [hps.len, List.take_length] at hall
    rw [hall] at q
    exact q _ e
end
/-- the tables of code that covering wants -/
structure Tabs (H : Hp) (T1 T2 T3 T4 : Addr) : Prop where
  te : GxR.TabG H T1
  cv : GxR.TabG H T2
  mc : GxR.TabG H T3
  rc : GxR.TabG H T4
theorem Tabs.ext {H H' : Hp} {T1 T2 T3 T4 : Addr} (h : Tabs H T1 T2 T3 T4) (e : Ext H H') : Tabs H' T1 T2 T3 T4 := ⟨e.tab _ h.te, e.tab _ h.cv, e.tab _ h.mc, e.tab _ h.rc⟩
/-- a pattern that covering may be asked of -/
structure Ok (K : PySem.W.Frag) (H : Hp) (p : Pat) (v : V) : Prop where
  at_ : PatQ K H p v
  low : Sg Low p
  dep : p.dep ≤ 30
theorem Ok.ext {K : PySem.W.Frag} {H H' : Hp} {p : Pat} {v : V} (h : Ok K H p v) (e : Ext H H') : Ok K H' p v := ⟨PatQ.ext e p v h.at_, h.low, h.dep⟩
def spCv (K : PySem.W.Frag) (T1 T2 T3 T4 : Addr) (m : Nat) : Sp := fun vs H Q _ => ∃ (bv sv : V) (b s : Pat) (d : Nat), vs = [bv, sv, nV d] ∧ Ok K H b bv ∧ Ok K H s sv ∧ d < m ∧ Tabs H T1 T2 T3 T4 ∧ ∀ H', Ext H H' → Q (.bl (cov d b s)) H'
def spCs (K : PySem.W.Frag) (T1 T2 T3 T4 : Addr) (m : Nat) : Sp := fun vs H Q _ => ∃ (bv sv : V) (b s : Pat) (d : Nat), vs = [bv, sv, nV d] ∧ Ok K H b bv ∧ Ok K H s sv ∧ d < m ∧ Tabs H T1 T2 T3 T4 ∧ ∀ H', Ext H H' → Q (.bl (covS (cov d) b s)) H'
/-- what the top holds -/
structure Consts (K : PySem.W.Frag) (mg : Str → Option Value) (aA aN aE : Addr) : Prop where
  mA : mg "ALL" = some (.ref aA)
  mN : mg "NONE" = some (.ref aN)
  mE : mg "EMPTY" = some (.ref aE)
  hA : ∀ H, PatQ K H ALL (.ref aA)
  hN : ∀ H, PatQ K H .none (.ref aN)
  hE : ∀ H, PatQ K H .empty (.ref aE)
section
variable {P : Program} {w : World} {K : PySem.W.Frag} {mg : Str → Option Value} {base : Heap}
theorem kind_neq {p : Pat} {i : Nat} (hi : i < 8) (h : rank p ≠ i) : p.kind ≠ kinds i := fun e => by
  have g := kinds_ne _ (rank_lt p) i hi h
  rw [← kind_rank, e, str_self] at g
  cases g
theorem or_rank {p : Pat} (h : ¬ isOr p = true) : rank p ≠ 5 := by cases p <;> simp [rank, isOr] at *
theorem and_rank {p : Pat} (h : ¬ isAnd p = true) : rank p ≠ 0 := by cases p <;> simp [rank, isAnd] at *
theorem covR_and {c : Pat → Pat → Bool} {bs : List Pat} {s : Pat} (h : ¬ isOr s = true) : covR c (.and bs) s = bs.all fun x => c x s := by cases s <;> first | rfl | exact absurd rfl h
theorem covR_or {c : Pat → Pat → Bool} {bs : List Pat} {s : Pat} (h : ¬ isOr s = true) : covR c (.or bs) s = (bs.any (fun x => c x s) || covA c (.or bs) s) := by cases s <;> first | rfl | exact absurd rfl h
theorem covR_no {c : Pat → Pat → Bool} {b s : Pat} (h : ¬ isOr s = true) (g : ¬ isAnd b = true) (k : ¬ isOr b = true) : covR c b s = covA c b s := by
  cases b <;> first | exact absurd rfl g | exact absurd rfl k | (cases s <;> first | rfl | exact absurd rfl h)
theorem covA_no {c : Pat → Pat → Bool} {b s : Pat} (h : ¬ isAnd s = true) : covA c b s = covS c b s := by cases s <;> first | rfl | exact absurd rfl h
theorem cov_yes {d : Nat} {b s : Pat} (h : b = s ∨ b = ALL ∨ s = .none) : cov d b s = true := by
  cases d <;> (unfold cov; rcases h with h | h | h <;> simp [h])
theorem cov_emp {d : Nat} {b s : Pat} (e1 : b ≠ s) (e2 : b ≠ ALL) (e3 : s ≠ .none) (e4 : s = .empty) : cov d b s = nullb b := by
  cases d <;> (unfold cov; simp [e1, e2, e3, e4])
  all_goals (intro h; exact absurd (h.trans e4.symm) e1)
theorem cov_zero {b s : Pat} (e1 : b ≠ s) (e2 : b ≠ ALL) (e3 : s ≠ .none) (e4 : s ≠ .empty) : cov 0 b s = false := by unfold cov; simp [e1, e2, e3, e4]
theorem cov_succ {d : Nat} {b s : Pat} (e1 : b ≠ s) (e2 : b ≠ ALL) (e3 : s ≠ .none) (e4 : s ≠ .empty) : cov (d + 1) b s = covR (cov d) b s := by
  rw [cov]; simp [e1, e2, e3, e4]
theorem scCv : FnScope ["big", "small", "depth"] ["big", "small", "depth"] (defScope sCovers) := ⟨rfl, rfl, rfl, by decide +kernel, rfl, by decide +kernel, by decide +kernel⟩
theorem cv_ok {f g h : Addr} {fd gd hd : FuncData} {c T1 T2 T3 T4 aA aN aE : Addr} {k m : Nat} {dv : List V} (F : FunD K "covers" "covers" (defArgs sCovers) (defBody sCovers) (defScope sCovers) dv [] f fd) (hc : fd.code = .ref c) (TB : GxR.TabB base mg c T2)
    (G : FnOk P w K mg base CX0 k f fd ["big", "small", "depth"] (spCv K T1 T2 T3 T4 m)) (b : Binds K fd ["big", "small", "depth"] []) (kf : PySem.W.keepIn K (.ref f) = true) (mf : mg "covers" = some (.ref f))
    (Gt : FnOk P w K mg base CX0 60 g gd ["pattern"] (spTE K 30 T1)) (bt : Binds K gd ["pattern"] []) (kt : PySem.W.keepIn K (.ref g) = true) (mt : mg "takes_empty" = some (.ref g))
    (Gs : FnOk P w K mg base CX0 (k + 3) h hd ["big", "small", "depth"] (spCs K T1 T2 T3 T4 m)) (bs : Binds K hd ["big", "small", "depth"] []) (ks : PySem.W.keepIn K (.ref h) = true) (ms : mg "covers_by_shape" = some (.ref h))
    (C : Consts K mg aA aN aE) (ma : mg "any" = none) (ml : mg "all" = none) (hk : 60 ≤ k) : FnOk P w K mg base CX0 (k + 4) f fd ["big", "small", "depth"] (spCv K T1 T2 T3 T4 (m + 1)) := by
  refine okC F hc scCv (fun vs H Q E h => ?_) (fun A outer s H vs Q E hr h => ?_)
  · obtain ⟨bv, sv, b, s, d, rfl, _⟩ := h
    rfl
  obtain ⟨bv, sv, bp, sp, d, rfl, hb, hs, hd, hT, q⟩ := h
  have hu := Nat.lt_of_le_of_lt (Nat.add_le_add_left (show 300 ≤ 16 * (k + 3) + 200 by omega) _) (Nat.lt_of_le_of_lt (Nat.le_of_eq (Nat.add_assoc _ (16 * (k + 3)) 200).symm) hr.un)
  refine ⟨_, PSs.nox (pss_cons (ps_if (PW.pt (pw_or (pt_cmpR (op_eqQ hu) (pv 0) (pv 1) (by rfl)) (pw_or (pt_cmpR (op_eqQ hu) (pv 0) (pe_glob rfl C.mA (v := .ref aA) rfl) (by rfl)) (pw_or1 (pt_cmpR (op_eqQ hu) (pv 1) (pe_glob rfl C.mN (v := .ref aN) rfl) (by rfl)))))) (pss_one (ps_ret pe_bl)) pss_nil) (pss_cons (ps_if (pt_cmpR (op_eqQ hu) (pv 1) (pe_glob rfl C.mE (v := .ref aE) rfl) (by rfl)) (pss_one (ps_ret (pe_call Gt (hr.mono (by omega)) rfl mt kt bt .nil pass0 (pa_cons (pv 0) pa_nil)))) pss_nil) (pss_cons (ps_if (pt_cmpR op_eq (pv 2) pe_int (nomark _)) (pss_one (ps_ret pe_bl)) pss_nil) (pss_cons (ps_if (pt_cmpR op_eq (pe_ix ix_tup (pv 1) pe_int (fun _ _ => rfl)) pe_str (nomark _))
      (pss_one (ps_ret (pe_allE rfl hr rfl ml TB rfl (gsc_by (N := ["big", "small", "depth"]) (sc := defScope sCovers) (by decide +kernel)) (pi_tup (pe_ix ix_tup (pv 1) pe_int (fun _ _ => rfl)))
        (fun s H C code fp => pe_call G ((Room.gen hr _).mono (by omega)) rfl mf kf b .nil pass0 (pa_cons (pv 0) (pa_cons (pv 3) (pa_cons (pe_op op_sub (pv 2) pe_int) pa_nil)))) (fun _ => rfl)))) pss_nil) (pss_cons (ps_if (pt_cmpR op_eq (pe_ix ix_tup (pv 0) pe_int (fun _ _ => rfl)) pe_str (nomark _))
      (pss_one (ps_ret (pe_allE rfl hr rfl ml TB rfl (gsc_by (N := ["big", "small", "depth"]) (sc := defScope sCovers) (by decide +kernel)) (pi_tup (pe_ix ix_tup (pv 0) pe_int (fun _ _ => rfl)))
        (fun s H C code fp => pe_call G ((Room.gen hr _).mono (by omega)) rfl mf kf b .nil pass0 (pa_cons (pv 3) (pa_cons (pv 1) (pa_cons (pe_op op_sub (pv 2) pe_int) pa_nil)))) (fun _ => rfl)))) pss_nil) (pss_cons (ps_if (PW.pt (pw_and (pt_cmpR op_eq (pe_ix ix_tup (pv 0) pe_int (fun _ _ => rfl)) pe_str (nomark _)) (pw_and1 (pt_val (pe_anyE rfl hr rfl ma TB rfl (gsc_by (N := ["big", "small", "depth"]) (sc := defScope sCovers) (by decide +kernel)) (pi_tup (pe_ix ix_tup (pv 0) pe_int (fun _ _ => rfl)))
        (fun s H C code fp => pe_call G ((Room.gen hr _).mono (by omega)) rfl mf kf b .nil pass0 (pa_cons (pv 3) (pa_cons (pv 1) (pa_cons (pe_op op_sub (pv 2) pe_int) pa_nil)))) (fun _ => rfl)))))) (pss_one (ps_ret pe_bl)) pss_nil) (pss_cons (ps_if (PW.pt (pw_and (pt_cmpR op_eq (pe_ix ix_tup (pv 1) pe_int (fun _ _ => rfl)) pe_str (nomark _)) (pw_and1 (pt_val (pe_anyE rfl hr rfl ma TB rfl (gsc_by (N := ["big", "small", "depth"]) (sc := defScope sCovers) (by decide +kernel)) (pi_tup (pe_ix ix_tup (pv 1) pe_int (fun _ _ => rfl)))
        (fun s H C code fp => pe_call G ((Room.gen hr _).mono (by omega)) rfl mf kf b .nil pass0 (pa_cons (pv 0) (pa_cons (pv 3) (pa_cons (pe_op op_sub (pv 2) pe_int) pa_nil)))) (fun _ => rfl)))))) (pss_one (ps_ret pe_bl)) pss_nil) (pss_one (ps_ret (pe_call Gs (hr.mono (by omega)) rfl ms ks bs .nil pass0 (pa_cons (pv 0) (pa_cons (pv 1) (pa_cons (pe_op op_sub (pv 2) pe_int) pa_nil))))))))))))), ?_⟩
  have yes : cov d bp sp = true → Q (.bl true) H := fun e => e ▸ q H (Ext.refl _)
  have d30 : ∀ n : Nat, n ≤ 30 → n ≤ 100 := fun n h => Nat.le_trans h (by decide)
  refine t_seq ⟨_, rfl, _, rfl, bp, sp, hb.at_, hs.at_, hb.low, hs.low, d30 _ hb.dep, _, rfl, ?_⟩
  by_cases e1 : bp = sp
  · exact iffT (decide_eq_true e1) (iffT rfl (yes (cov_yes (.inl e1))))
  refine iffF (decide_eq_false e1) ⟨_, rfl, bp, ALL, hb.at_, C.hA _, hb.low, trivial, d30 _ hb.dep, _, rfl, ?_⟩
  by_cases e2 : bp = ALL
  · exact iffT (decide_eq_true e2) (iffT rfl (yes (cov_yes (.inr (.inl e2)))))
  refine iffF (decide_eq_false e2) ⟨_, rfl, sp, .none, hs.at_, C.hN _, hs.low, trivial, d30 _ hs.dep, _, rfl, ?_⟩
  by_cases e3 : sp = .none
  · exact iffT (decide_eq_true e3) (yes (cov_yes (.inr (.inr e3))))
  refine iffF (decide_eq_false e3) ?_
  refine t_seq ⟨_, rfl, sp, .empty, hs.at_, C.hE _, hs.low, trivial, d30 _ hs.dep, _, rfl, ?_⟩
  by_cases e4 : sp = .empty
  · refine iffT (decide_eq_true e4) ⟨_, rfl, bv, bp, rfl, hb.at_, hb.dep, hT.te, fun H' e => ?_⟩
    rw [← cov_emp e1 e2 e3 e4 (d := d)]
    exact q H' e
  refine iffF (decide_eq_false e4) ?_
  refine t_seq ⟨_, rfl, rfl, _, rfl, ?_⟩
  rw [dec_int]
  cases d with
  | zero => exact iffT rfl (by have := q H (Ext.refl _); rw [cov_zero e1 e2 e3 e4] at this; exact this)
  | succ d =>
    refine iffF (by exact beq_eq_false_iff_ne.mpr (by omega)) ?_
    rw [cov_succ e1 e2 e3 e4] at q
    have sub1 : V.int (((d + 1 : Nat) : Int) - 1) = nV d := congrArg V.int (by omega)
    have hd' : d < m := by omega
    -- one that stands within, asked of
    have askB : ∀ (x : Pat) (v : V) (H' : Hp) (Q' : VK) (σ : L2.St), σ = [some bv, some sv, some (nV (d + 1))] → Ext H H' → Ok K H' x v → (∀ H'', Ext H' H'' → Q' (.bl (cov d bp x)) H'') →
        tCall (spCv K T1 T2 T3 T4 m) [] E0 (tCons (tVar 0) (tCons (tVar 3) (tCons (tOp (rI0 fun i j => .int (i - j)) (tVar 2) (tC (.int 1))) tNil))) (σ ++ [some v]) H' Q' := by
      rintro x v H' Q' _ rfl e hx k
      exact ⟨_, rfl, _, rfl, _, rfl, _, _, rfl, rfl, bv, v, bp, x, d, by rw [← sub1]; rfl, hb.ext e, hx, hd', hT.ext e, k⟩
    have askS : ∀ (x : Pat) (v : V) (H' : Hp) (Q' : VK) (σ : L2.St), σ = [some bv, some sv, some (nV (d + 1))] → Ext H H' → Ok K H' x v → (∀ H'', Ext H' H'' → Q' (.bl (cov d x sp)) H'') →
        tCall (spCv K T1 T2 T3 T4 m) [] E0 (tCons (tVar 3) (tCons (tVar 1) (tCons (tOp (rI0 fun i j => .int (i - j)) (tVar 2) (tC (.int 1))) tNil))) (σ ++ [some v]) H' Q' := by
      rintro x v H' Q' _ rfl e hx k
      exact ⟨_, rfl, _, rfl, _, rfl, _, _, rfl, rfl, v, sv, x, sp, d, by rw [← sub1]; rfl, hx, hs.ext e, hd', hT.ext e, k⟩
    obtain ⟨ax, xs, rfl, hax⟩ := hb.at_.hd
    obtain ⟨ay, ys, rfl, hay⟩ := hs.at_.hd
    by_cases o1 : isOr sp = true
    · cases sp with
      | or ss =>
        obtain ⟨a, b', vs, ea, ha, hvs, hps⟩ := hs.at_
        cases ea
        refine t_seq (q_kT rfl ha ?_)
        exact all_pats (cov d bp) rfl ha hvs hps hT.cv (fun p hp v H' hv e Q' k => askB p v H' Q' _ rfl e ⟨hv, SgL_iff.mp hs.low p hp, Nat.le_trans (dep_mem hp) (Nat.le_of_succ_le hs.dep)⟩ k) q
      | _ => cases o1
    have ko : sp.kind ≠ "or" := kind_neq (i := 5) (by decide) (or_rank o1)
    refine t_seq (q_kF rfl hay ko ?_)
    by_cases a1 : isAnd bp = true
    · cases bp with
      | and bs =>
        obtain ⟨a, b', vs, ea, ha, hvs, hps⟩ := hb.at_
        cases ea
        refine t_seq (q_kT rfl ha ?_)
        refine all_pats (fun x => cov d x sp) rfl ha hvs hps hT.cv (fun p hp v H' hv e Q' k => askS p v H' Q' _ rfl e ⟨hv, SgL_iff.mp hb.low p hp, Nat.le_trans (dep_mem hp) (Nat.le_of_succ_le hb.dep)⟩ k) ?_
        intro H' e
        have := q H' e
        rw [covR_and o1] at this
        exact this
      | _ => cases a1
    have ka : bp.kind ≠ "and" := kind_neq (i := 0) (by decide) (and_rank a1)
    refine t_seq (q_kF rfl hax ka ?_)
    -- by shape
    have shape : ∀ H', Ext H H' → (covA (cov d) bp sp = covS (cov d) bp sp) → (∀ H'', Ext H H'' → Q (.bl (covA (cov d) bp sp)) H'') → tRet (tCall (spCs K T1 T2 T3 T4 m) [] E0 (tCons (tVar 0) (tCons (tVar 1) (tCons (tOp (rI0 fun i j => .int (i - j)) (tVar 2) (tC (.int 1))) tNil)))) { nx := fun _ H' => Q .non H', rt := Q } [some (.ref ax), some (.ref ay), some (nV (d + 1))] H' := fun H' e ec k =>
      ⟨_, rfl, _, rfl, _, rfl, _, _, rfl, rfl, .ref ax, .ref ay, bp, sp, d, by rw [← sub1]; rfl, hb.ext e, hs.ext e, hd', hT.ext e, fun H'' e' => by rw [← ec]; exact k H'' (e.trans e')⟩
    -- the small one is an and
    have small : ∀ H', Ext H H' → (∀ H'', Ext H H'' → Q (.bl (covA (cov d) bp sp)) H'') → tSeq (tIfS (tAnd (tTest (tOp rEq (tOp (rIxT K) (tVar 1) (tC (.int 0))) (tC (.str "and")))) (tB (tQuant true T2 (iTup K (tOp (rIxT K) (tVar 1) (tC (.int 1)))) (tCall (spCv K T1 T2 T3 T4 m) [] E0 (tCons (tVar 0) (tCons (tVar 3) (tCons (tOp (rI0 fun i j => .int (i - j)) (tVar 2) (tC (.int 1))) tNil))))))) (tRet (tC (.bl true))) tNext)
        (tRet (tCall (spCs K T1 T2 T3 T4 m) [] E0 (tCons (tVar 0) (tCons (tVar 1) (tCons (tOp (rI0 fun i j => .int (i - j)) (tVar 2) (tC (.int 1))) tNil))))) { nx := fun _ H' => Q .non H', rt := Q } [some (.ref ax), some (.ref ay), some (nV (d + 1))] H' := by
      intro H' e k
      by_cases a2 : isAnd sp = true
      · cases sp with
        | and ss =>
          obtain ⟨a, b', vs, ea, ha, hvs, hps⟩ := (hs.ext e).at_
          cases ea
          refine t_seq (q_kind rfl ha (iffT (decide_eq_true rfl) ?_))
          refine any_pats (cov d bp) rfl ha hvs hps (hT.ext e).cv (fun p hp v H2 hv e2 Q' k' => askB p v H2 Q' _ rfl (e.trans e2) ⟨hv, SgL_iff.mp hs.low p hp, Nat.le_trans (dep_mem hp) (Nat.le_of_succ_le hs.dep)⟩ k') ?_
          intro H2 e2
          refine ⟨_, rfl, ?_⟩
          cases hc : ss.any (cov d bp) with
          | true =>
            have := k H2 (e.trans e2)
            unfold covA at this
            simp only [hc, Bool.true_or] at this
            exact iffT rfl this
          | false => exact iffF rfl (shape H2 (e.trans e2) (by unfold covA; simp only [hc, Bool.false_or]) k)
        | _ => cases a2
      have ks' : sp.kind ≠ "and" := kind_neq (i := 0) (by decide) (and_rank a2)
      exact t_seq (q_kind rfl (e.sqT _ _ hay) (iffF (decide_eq_false ks') (iffF rfl (shape H' e (covA_no a2) k))))
    by_cases o2 : isOr bp = true
    · cases bp with
      | or bs =>
        obtain ⟨a, b', vs, ea, ha, hvs, hps⟩ := hb.at_
        cases ea
        refine t_seq (q_kind rfl ha (iffT (decide_eq_true rfl) ?_))
        refine any_pats (fun x => cov d x sp) rfl ha hvs hps hT.cv (fun p hp v H' hv e Q' k => askS p v H' Q' _ rfl e ⟨hv, SgL_iff.mp hb.low p hp, Nat.le_trans (dep_mem hp) (Nat.le_of_succ_le hb.dep)⟩ k) ?_
        intro H' e
        rw [covR_or o1] at q
        refine ⟨_, rfl, ?_⟩
        cases hc : bs.any (fun x => cov d x sp) with
        | true => exact iffT rfl (by have := q H' e; rw [hc] at this; exact this)
        | false => exact iffF rfl (small H' e fun H2 e2 => by have := q H2 e2; rw [hc] at this; exact this)
      | _ => cases o2
    have kb : bp.kind ≠ "or" := kind_neq (i := 5) (by decide) (or_rank o2)
    rw [covR_no o1 a1 o2] at q
    exact t_seq (q_kind rfl hax (iffF (decide_eq_false kb) (iffF rfl (small H (Ext.refl _) q))))
end
end Bo
set_option Elab.async false
set_option linter.all false
set_option maxRecDepth 100000
set_option maxHeartbeats 8000000
/-! covers by shape -/
namespace Bo
open PySem PySem.Spec PyProof.Rows L2 GE
def spMc (K : PySem.W.Frag) (T1 T2 T3 T4 : Addr) (m : Nat) : Sp := fun vs H Q _ => ∃ (bv sv : V) (x s : Pat) (d : Nat), vs = [bv, sv, nV d] ∧ Ok K H (.many x) bv ∧ Ok K H s sv ∧ d < m ∧ Tabs H T1 T2 T3 T4 ∧ ∀ H', Ext H H' → Q (.bl (manyC (cov d) x s)) H'
def spPo (K : PySem.W.Frag) : Sp := fun vs H Q _ => ∃ (v : V) (p : Pat), vs = [v] ∧ PatQ K H p v ∧ ∀ H' b us, Ext H H' → H' b = some (.tup us) → PatsQ K H' (pieces p) us → Q (.ref b) H'
section
variable {P : Program} {w : World} {K : PySem.W.Frag} {mg : Str → Option Value} {base : Heap}
theorem scMc : FnScope ["big", "small", "depth"] ["big", "small", "depth"] (defScope sManyCovers) := ⟨rfl, rfl, rfl, by decide +kernel, rfl, by decide +kernel, by decide +kernel⟩
theorem scPo : FnScope ["pattern"] ["pattern"] (defScope sPiecesOf) := ⟨rfl, rfl, rfl, by decide +kernel, rfl, by decide +kernel, by decide +kernel⟩
theorem row_rank {p : Pat} (h : ¬ isRow p = true) : rank p ≠ 6 := by cases p <;> simp [rank, isRow] at *
theorem many_rank {p : Pat} (h : ¬ isMany p = true) : rank p ≠ 2 := by cases p <;> simp [rank, isMany] at *
theorem not_rank {p : Pat} (h : isNot p = none) : rank p ≠ 4 := by cases p <;> simp [rank, isNot] at *
theorem po_ok {f : Addr} {fd : FuncData} (F : FnP K "pieces_of" sPiecesOf f fd) : FnOk P w K mg base CX0 1 f fd ["pattern"] (spPo K) := by
  refine okD F scPo (fun vs H Q E h => ?_) (fun cdv A outer s H vs Q E hr h => ?_)
  · obtain ⟨v, p, rfl, _⟩ := h
    rfl
  obtain ⟨v, p, rfl, hp, q⟩ := h
  refine ⟨_, (pss_cons (ps_if (pt_cmpR op_eq (pe_ix ix_tup (pv 0) pe_int (fun _ _ => rfl)) pe_str (nomark _)) (pss_one (ps_ret (pe_ix ix_tup (pv 0) pe_int (fun _ _ => rfl)))) pss_nil) (pss_one (ps_ret (pe_tup (pa_cons (pv 0) pa_nil))))), ?_⟩
  by_cases h : isRow p = true
  · cases p with
    | row ps =>
      obtain ⟨a, b, vs, rfl, ha, hb, hps⟩ := hp
      exact t_seq (q_kT rfl ha (q_ix 1 rfl ha rfl (q H b vs (Ext.refl _) hb hps)))
    | _ => cases h
  obtain ⟨a, xs, rfl, ha⟩ := hp.hd
  refine t_seq (q_kF rfl ha (kind_neq (i := 6) (by decide) (row_rank h)) ⟨_, rfl, (show 1 ≤ sizeLine by decide), fun b xb => ?_⟩)
  have e := Ext.new (o := .tup [V.ref a]) xb
  exact q _ b [.ref a] e upd_same (by
    have g := PatsQ.one (PatQ.ext e p _ hp)
    cases p <;> first | exact g | exact absurd rfl h)
theorem mc_ok {f g : Addr} {fd gd : FuncData} {c T1 T2 T3 T4 : Addr} {k m : Nat} (F : FnP K "many_covers" sManyCovers f fd) (hc : fd.code = .ref c) (TB : GxR.TabB base mg c T3)
    (G : FnOk P w K mg base CX0 k g gd ["big", "small", "depth"] (spCv K T1 T2 T3 T4 m)) (b : Binds K gd ["big", "small", "depth"] []) (kf : PySem.W.keepIn K (.ref g) = true) (mf : mg "covers" = some (.ref g)) (ml : mg "all" = none) :
    FnOk P w K mg base CX0 (k + 2) f fd ["big", "small", "depth"] (spMc K T1 T2 T3 T4 m) := by
  refine okC F hc scMc (fun vs H Q E h => ?_) (fun A outer s H vs Q E hr h => ?_)
  · obtain ⟨bv, sv, x, s, d, rfl, _⟩ := h
    rfl
  obtain ⟨bv, sv, x, sp, d, rfl, hb, hs, hd, hT, q⟩ := h
  refine ⟨_, PSs.nox (pss_cons (ps_if (pt_cmpR op_eq (pe_ix ix_tup (pv 1) pe_int (fun _ _ => rfl)) pe_str (nomark _)) (pss_one (ps_ret (pe_call G (hr.mono (by omega)) rfl mf kf b .nil pass0 (pa_cons (pv 0) (pa_cons (pe_ix ix_tup (pv 1) pe_int (fun _ _ => rfl)) (pa_cons (pv 2) pa_nil)))))) pss_nil) (pss_cons (ps_if (PW.pt (pw_and (pt_cmpR op_eq (pe_ix ix_tup (pv 1) pe_int (fun _ _ => rfl)) pe_str (nomark _)) (pw_and1 (pt_val (pe_allE rfl hr rfl ml TB rfl (gsc_by (N := ["big", "small", "depth"]) (sc := defScope sManyCovers) (by decide +kernel)) (pi_tup (pe_ix ix_tup (pv 1) pe_int (fun _ _ => rfl)))
        (fun s H C code fp => pe_call G (Room.gen hr _) rfl mf kf b .nil pass0 (pa_cons (pv 0) (pa_cons (pv 3) (pa_cons (pv 2) pa_nil)))) (fun _ => rfl)))))) (pss_one (ps_ret pe_bl)) pss_nil) (pss_one (ps_ret (pe_call G (hr.mono (by omega)) rfl mf kf b .nil pass0 (pa_cons (pe_ix ix_tup (pv 0) pe_int (fun _ _ => rfl)) (pa_cons (pv 1) (pa_cons (pv 2) pa_nil)))))))), ?_⟩
  obtain ⟨ax, u, rfl, hax, hu⟩ := id hb.at_
  have hx : ∀ H', Ext H H' → Ok K H' x u := fun H' e => ⟨PatQ.ext e x u hu, hb.low, Nat.le_of_succ_le hb.dep⟩
  -- the inner one
  have inner : ∀ H', Ext H H' → (∀ H'', Ext H H'' → Q (.bl (cov d x sp)) H'') → tRet (tCall (spCv K T1 T2 T3 T4 m) [] E0 (tCons (tOp (rIxT K) (tVar 0) (tC (.int 1))) (tCons (tVar 1) (tCons (tVar 2) tNil)))) { nx := fun _ H' => Q .non H', rt := Q } [some (.ref ax), some sv, some (nV d)] H' := fun H' e k =>
    q_ix 1 rfl (e.sqT _ _ hax) rfl ⟨_, rfl, _, rfl, u, sv, x, sp, d, rfl, hx H' e, hs.ext e, hd, hT.ext e, fun H'' e' => k H'' (e.trans e')⟩
  by_cases h1 : isMany sp = true
  · cases sp with
    | many y =>
      obtain ⟨ay, z, rfl, hay, hz⟩ := id hs.at_
      refine t_seq (q_kT rfl hay ⟨_, rfl, q_ix 1 rfl hay rfl ⟨_, rfl, .ref ax, z, .many x, y, d, rfl, hb, ⟨hz, hs.low, Nat.le_of_succ_le hs.dep⟩, hd, hT, q⟩⟩)
    | _ => cases h1
  obtain ⟨ay, ys, rfl, hay⟩ := hs.at_.hd
  refine t_seq (q_kF rfl hay (kind_neq (i := 2) (by decide) (many_rank h1)) ?_)
  by_cases h2 : isRow sp = true
  · cases sp with
    | row ss =>
      obtain ⟨a, b', vs, ea, ha, hvs, hps⟩ := id hs.at_
      cases ea
      refine t_seq (q_kind rfl ha (iffT (decide_eq_true rfl) ?_))
      refine all_pats (cov d (.many x)) rfl ha hvs hps hT.mc (fun p hp v H' hv e Q' k => ⟨_, rfl, _, rfl, _, rfl, .ref ax, v, .many x, p, d, rfl, hb.ext e, ⟨hv, SgL_iff.mp hs.low p hp, Nat.le_trans (dep_mem hp) (Nat.le_of_succ_le hs.dep)⟩, hd, hT.ext e, k⟩) ?_
      intro H' e
      refine ⟨_, rfl, ?_⟩
      cases hc : ss.all (cov d (.many x)) with
      | true => exact iffT rfl (by have := q H' e; unfold manyC at this; simp only [hc, Bool.true_or] at this; exact this)
      | false => exact iffF rfl (inner H' e fun H2 e2 => by have := q H2 e2; unfold manyC at this; simp only [hc, Bool.false_or] at this; exact this)
    | _ => cases h2
  refine t_seq (q_kind rfl hay (iffF (decide_eq_false (kind_neq (i := 6) (by decide) (row_rank h2))) (iffF rfl (inner H (Ext.refl _) ?_))))
  intro H' e
  have := q H' e
  cases sp <;> first | exact this | exact absurd rfl h1 | exact absurd rfl h2
end
end Bo
set_option Elab.async false
set_option linter.all false
set_option maxRecDepth 100000
set_option maxHeartbeats 8000000
/-! rows that cover -/
namespace Bo
open PySem PySem.Spec PyProof.Rows L2 GE
structure Oks (K : PySem.W.Frag) (H : Hp) (ps : List Pat) (us : List V) : Prop where
  at_ : PatsQ K H ps us
  low : SgL Low ps
  dep : depL ps ≤ 30
theorem Oks.ext {K : PySem.W.Frag} {H H' : Hp} {ps : List Pat} {us : List V} (h : Oks K H ps us) (e : Ext H H') : Oks K H' ps us := ⟨PatsQ.ext e ps us h.at_, h.low, h.dep⟩
theorem Oks.get {K : PySem.W.Frag} {H : Hp} {ps : List Pat} {us : List V} (h : Oks K H ps us) {i : Nat} {v : V} (e : us[i]? = some v) : ∃ p, ps[i]? = some p ∧ Ok K H p v := by
  obtain ⟨p, hp, hv⟩ := h.at_.get e
  have m := List.mem_of_getElem? hp
  exact ⟨p, hp, hv, SgL_iff.mp h.low p m, Nat.le_trans (dep_mem m) h.dep⟩
def spRc (K : PySem.W.Frag) (T1 T2 T3 T4 : Addr) (m : Nat) : Sp := fun vs H Q _ => ∃ (a b : Addr) (us ws : List V) (bs ss : List Pat) (d : Nat), vs = [.ref a, .ref b, nV d] ∧ H a = some (.tup us) ∧ H b = some (.tup ws) ∧ Oks K H bs us ∧ Oks K H ss ws ∧ d < m ∧ Tabs H T1 T2 T3 T4 ∧ ∀ H', Ext H H' → Q (.bl (rowC (cov d) bs ss)) H'
theorem all2_iff {c : Pat → Pat → Bool} : ∀ {bs ss : List Pat}, bs.length = ss.length → (all2 c bs ss = true ↔ ∀ (j : Nat) (p q : Pat), bs[j]? = some p → ss[j]? = some q → c p q = true)
  | [], [], _ => ⟨fun _ j p q h => (by cases h), fun _ => rfl⟩
  | b :: bs, s :: ss, l => by
    rw [all2, Bool.and_eq_true, all2_iff (Nat.succ.inj l)]
    constructor
    · rintro ⟨h1, h2⟩ j p q hp hq
      cases j with
      | zero => cases (Option.some.inj hp); cases (Option.some.inj hq); exact h1
      | succ j => exact h2 j p q hp hq
    · exact fun h => ⟨h 0 b s rfl rfl, fun j p q hp hq => h (j + 1) p q hp hq⟩
  | [], _ :: _, l => by cases l
  | _ :: _, [], l => by cases l
theorem PatsQ.takeQ {K : PySem.W.Frag} {H : Hp} : ∀ {ps : List Pat} {vs : List V} (k : Nat), PatsQ K H ps vs → PatsQ K H (ps.take k) (vs.take k)
  | [], _, k, h => by rw [show _ = [] from h, List.take_nil, List.take_nil]; rfl
  | p :: ps, _, 0, _ => rfl
  | p :: ps, _, k + 1, ⟨v, r, e, h, g⟩ => by rw [e]; exact ⟨v, r.take k, rfl, h, g.takeQ k⟩
theorem PatsQ.dropQ {K : PySem.W.Frag} {H : Hp} : ∀ {ps : List Pat} {vs : List V} (k : Nat), PatsQ K H ps vs → PatsQ K H (ps.drop k) (vs.drop k)
  | [], _, k, h => by rw [show _ = [] from h, List.drop_nil, List.drop_nil]; rfl
  | p :: ps, _, 0, h => h
  | p :: ps, _, k + 1, ⟨v, r, e, h, g⟩ => by rw [e]; exact g.dropQ k
theorem cut_to {vs : List V} {k : Nat} (h : k ≤ vs.length) : cutV vs none (some (k : Int)) = vs.take k := by
  unfold cutV
  rw [HT.sIx_none, HT.sIx_nat, Nat.min_eq_left h, List.drop_zero, Nat.sub_zero]
theorem cut_from {vs : List V} {k : Nat} (h : k ≤ vs.length) : cutV vs (some (k : Int)) none = vs.drop k := by
  unfold cutV
  rw [HT.sIx_none, HT.sIx_nat, Nat.min_eq_left h]
  exact List.take_of_length_le (by rw [List.length_drop]; exact Nat.le_refl _)
/-- t[:k], whether or not it is the whole -/
theorem slice_to {K : PySem.W.Frag} {H : Hp} {a : Addr} {us : List V} {k : Nat} {Q : VK} (ha : H a = some (.tup us)) (hk : k ≤ us.length) (q : ∀ t H', Ext H H' → H' t = some (.tup (us.take k)) → Q (.ref t) H') : rSlA K (.ref a) none (some (k : Int)) H Q := by
  refine ⟨a, us, rfl, SqT.of ha, fun ⟨_, e⟩ => ?_, fun _ p xp => ?_⟩
  · rw [HT.sIx_nat, Nat.min_eq_left hk] at e
    exact q a H (Ext.refl _) (by rw [e, List.take_length]; exact ha)
  · rw [cut_to hk]; exact q p _ (Ext.new xp) upd_same
theorem slice_from {K : PySem.W.Frag} {H : Hp} {a : Addr} {us : List V} {k : Nat} {Q : VK} (ha : H a = some (.tup us)) (hk : k ≤ us.length) (q : ∀ t H', Ext H H' → H' t = some (.tup (us.drop k)) → Q (.ref t) H') : rSlA K (.ref a) (some (k : Int)) none H Q := by
  refine ⟨a, us, rfl, SqT.of ha, fun ⟨e, _⟩ => ?_, fun _ p xp => ?_⟩
  · rw [HT.sIx_nat, Nat.min_eq_left hk] at e
    exact q a H (Ext.refl _) (by rw [e, List.drop_zero]; exact ha)
  · rw [cut_from hk]; exact q p _ (Ext.new xp) upd_same
theorem slice_fromI {K : PySem.W.Frag} {H : Hp} {a : Addr} {us : List V} {k : Nat} {z : Int} {Q : VK} (hz : z = (k : Int)) (ha : H a = some (.tup us)) (hk : k ≤ us.length) (q : ∀ t H', Ext H H' → H' t = some (.tup (us.drop k)) → Q (.ref t) H') : tNoPart [] H fun u H3 => rSlA K (.ref a) (some z) u H3 Q := by
  subst hz; exact slice_from ha hk q
theorem for_zipT {K : PySem.W.Frag} {a b : Addr} {xs ys : List V} {g : TG} {tb : TS} {D : Ends} {σ : L2.St} {H : Hp} (hl : xs.length = ys.length) (Pv : Nat → L2.St → Hp → Prop) (h0 : Pv 0 σ H) (hq : ∀ i σ H, Pv i σ H → SqT K H a xs ∧ SqT K H b ys)
    (hs : ∀ (i : Nat) (x y : V) (T : Addr) (σ : L2.St) (H : Hp), xs[i]? = some x → ys[i]? = some y → Pv i σ H → H T = none → g (.ref T) σ (upd H T (.tup [x, y])) fun σ2 H2 => tb { D with nx := Pv (i + 1), ct := Pv (i + 1), bk := D.nx } σ2 H2) (hd : ∀ σ H, Pv xs.length σ H → D.nx σ H) :
    ∃ W : Nat → Nat → L2.St → Hp → Prop, (∃ m, W 0 m σ H) ∧ ∀ i m σ H, W i m σ H →
      ((RZ.ItzT K a b).stop i H ∧ D.nx σ H) ∨ ((RZ.ItzT K a b).go i H ∧ ∃ N : L2.St → Hp → Prop, (∀ σ' H', N σ' H' → ∃ m', m' < m ∧ W (i + 1) m' σ' H') ∧ ∀ v H', (RZ.ItzT K a b).yld i H v H' → g v σ H' fun σ2 H2 => tb { D with nx := N, ct := N, bk := D.nx } σ2 H2) := by
  refine ⟨fun i m σ H => m = xs.length - i ∧ i ≤ xs.length ∧ Pv i σ H, ⟨xs.length, rfl, Nat.zero_le _, h0⟩, ?_⟩
  rintro i m σ H ⟨rfl, hi, p⟩
  obtain ⟨qx, qy⟩ := hq i σ H p
  by_cases hlt : i < xs.length
  · refine .inr ⟨⟨xs, ys, _, _, qx, qy, List.getElem?_eq_getElem hlt, List.getElem?_eq_getElem (hl ▸ hlt)⟩, Pv (i + 1), fun σ' H' p' => ⟨xs.length - (i + 1), by omega, rfl, hlt, p'⟩, fun v H' y => ?_⟩
    obtain ⟨T, x', y', rfl, hT, rfl, f1, f2⟩ := y
    exact hs i x' y' T σ H (f1 xs qx) (f2 ys qy) p hT
  · have e : i = xs.length := by omega
    subst e
    exact .inl ⟨⟨xs, ys, qx, qy, .inl (Nat.le_refl _)⟩, hd σ H p⟩
theorem not_b {te : TE} {σ : L2.St} {H : Hp} {Q : Bool → Hp → Prop} (h : te σ H fun x H1 => ∃ c, x = .bl c ∧ Q (!c) H1) : tNot (tB te) σ H Q := h
theorem all_over {K : PySem.W.Frag} {T : Addr} {ps : List Pat} {wi : TI} {te : TE} {σ : L2.St} {H : Hp} {Q : VK} (f : Pat → Bool) (hT : GxR.TabG H T)
    (hw : ∀ R : It → Hp → Prop, (∀ t vs H1, Ext H H1 → H1 t = some (.tup vs) → PatsQ K H1 ps vs → R (Itt K t) H1) → wi σ H R)
    (hs : ∀ p ∈ ps, ∀ v H', PatQ K H' p v → Ext H H' → ∀ Q' : VK, (∀ H'', Ext H' H'' → Q' (.bl (f p)) H'') → te (σ ++ [some v]) H' Q') (q : ∀ H', Ext H H' → Q (.bl (ps.all f)) H') : tQuant false T wi te σ H Q := by
  refine hw _ fun t vs H1 e1 ht hps => ?_
  refine quant_tup (e1.tab _ hT) ht (fun i H' => Ext H1 H' ∧ (ps.take i).all f = true) (fun H' e => ⟨e, rfl⟩) (fun i H' p => p.1.tup ht) ?_ ?_
  · rintro i v H' hv ⟨e, hall⟩
    obtain ⟨p, hp, hpv⟩ := hps.get hv
    refine hs p (List.mem_of_getElem? hp) v H' (PatQ.ext e p v hpv) (e1.trans e) _ fun H2 e2 => ⟨_, rfl, ?_⟩
    cases hn : f p with
    | false =>
      rw [if_pos rfl]
      have : ps.all f = false := List.all_eq_false.mpr ⟨p, List.mem_of_getElem? hp, by rw [hn]; exact Bool.false_ne_true⟩
      rw [this] at q
      exact q _ ((e1.trans e).trans e2)
    | true =>
      rw [if_neg (by decide)]
      exact ⟨e.trans e2, by rw [take_allF hp, hall, hn]; rfl⟩
  · rintro H' ⟨e, hall⟩
    rw [hps.len, List.take_length] at hall
    rw [hall] at q
    exact q _ (e1.trans e)
section
variable {P : Program} {w : World} {K : PySem.W.Frag} {mg : Str → Option Value} {base : Heap}
theorem scRc : FnScope ["bigs", "smalls", "depth", "gap", "big", "small"] ["bigs", "smalls", "depth"] (defScope sRowCovers) := ⟨rfl, rfl, rfl, by decide +kernel, rfl, by decide +kernel, by decide +kernel⟩
theorem rc_ok {f g h : Addr} {fd gd hd : FuncData} {c T1 T2 T3 T4 : Addr} {k m : Nat} (F : FnP K "row_covers" sRowCovers f fd) (hc : fd.code = .ref c) (TB : GxR.TabB base mg c T4)
    (G : FnOk P w K mg base CX0 k g gd ["big", "small", "depth"] (spCv K T1 T2 T3 T4 m)) (b : Binds K gd ["big", "small", "depth"] []) (kf : PySem.W.keepIn K (.ref g) = true) (mf : mg "covers" = some (.ref g))
    (Gt : FnOk P w K mg base CX0 60 h hd ["pattern"] (spTE K 30 T1)) (bt : Binds K hd ["pattern"] []) (kt : PySem.W.keepIn K (.ref h) = true) (mt : mg "takes_empty" = some (.ref h))
    (ml : mg "all" = none) (mlen : mg "len" = none) (mz : mg "zip" = none) (hk : 60 ≤ k) : FnOk P w K mg base CX0 (k + 2) f fd ["bigs", "smalls", "depth"] (spRc K T1 T2 T3 T4 m) := by
  refine okC F hc scRc (fun vs H Q E h => ?_) (fun A outer s H vs Q E hr h => ?_)
  · obtain ⟨a, b, us, ws, bs, ss, d, rfl, _⟩ := h
    rfl
  obtain ⟨a, b', us, ws, bs, ss, d, rfl, ha, hb, hbs, hss, hd, hT, q⟩ := h
  refine ⟨_, PSs.nox (pss_cons (ps_set (i := 3) scRc.nd rfl (Or.inl rfl) (pe_op op_sub (pe_callB call_len rfl mlen PySem.boot_len (pa_cons (pv 0) pa_nil)) (pe_callB call_len rfl mlen PySem.boot_len (pa_cons (pv 1) pa_nil)))) (pss_cons (ps_if (PW.pt (pw_or (pt_cmpR op_lt (pv 3) pe_int (nomark _)) (pw_or1 (pt_not (pt_val (pe_allE rfl hr rfl ml TB rfl (gsc_by (N := ["bigs", "smalls", "depth", "gap", "big", "small"]) (sc := defScope sRowCovers) (by decide +kernel)) (pi_tup (pe_slice sl_tupA (pv 0) po_none (po_some (pv 3))))
        (fun s H C code fp => pe_call Gt ((Room.gen hr _).mono (by omega)) rfl mt kt bt .nil pass0 (pa_cons (pv 6) pa_nil)) (fun _ => rfl))))))) (pss_one (ps_ret pe_bl)) pss_nil) (pss_cons (ps_for PassesOwn.never rfl (RZ.pi_zipA rfl mz (pa_cons (pe_slice sl_tupA (pv 0) (po_some (pv 3)) po_none) (pa_cons (pv 1) pa_nil))) (pg_tup (by rfl) (pgs_cons (pg_name (i := 4) scRc.nd rfl (Or.inl rfl)) (pgs_cons (pg_name (i := 5) scRc.nd rfl (Or.inl rfl)) pgs_nil)))
      (pss_one (ps_if (pt_not (pt_val (pe_call G (hr.mono (by omega)) rfl mf kf b .nil pass0 (pa_cons (pv 4) (pa_cons (pv 5) (pa_cons (pv 2) pa_nil)))))) (pss_one (ps_ret pe_bl)) pss_nil))) (pss_one (ps_ret pe_bl))))), ?_⟩
  have l1 : us.length = bs.length := hbs.at_.len
  have l2 : ws.length = ss.length := hss.at_.len
  refine t_set ⟨_, rfl, .ref a, _, rfl, .inr ⟨_, SqT.of ha, rfl⟩, _, rfl, .ref b', _, rfl, .inr ⟨_, SqT.of hb, rfl⟩, _, _, rfl, rfl, ?_⟩
  refine t_seq ⟨_, rfl, _, _, rfl, rfl, _, rfl, ?_⟩
  by_cases hlt : bs.length < ss.length
  · refine iffT (decide_eq_true (by omega)) (iffT rfl ?_)
    have := q H (Ext.refl _)
    unfold rowC at this
    rw [decide_eq_false (show ¬ ss.length ≤ bs.length by omega), Bool.false_and] at this
    exact this
  refine iffF (decide_eq_false (by omega)) ?_
  obtain ⟨g9, eg⟩ : ∃ g9 : Nat, us.length = g9 + ws.length := ⟨us.length - ws.length, by omega⟩
  have eg' : ((us.length : Nat) : Int) - ((ws.length : Nat) : Int) = (g9 : Int) := by omega
  have egb : bs.length - ss.length = g9 := by omega
  refine not_b (all_over (K := K) nullb (ps := bs.take g9) hT.rc (fun R hR => ?_) (fun p hp v H' hv e Q' k => ⟨_, rfl, v, p, rfl, hv, Nat.le_trans (dep_mem (List.mem_of_mem_take hp)) hbs.dep, e.tab _ hT.te, k⟩) (fun H2 e2 => ⟨_, rfl, ?_⟩))
  · refine ⟨_, rfl, _, rfl, _, rfl, ?_⟩
    show rSlA K (.ref a) none (some (((us.length : Nat) : Int) - ((ws.length : Nat) : Int))) H _
    rw [eg']
    exact slice_to ha (by omega) fun t H1 e1 ht => ⟨t, rfl, ⟨_, SqT.of ht⟩, hR t _ H1 e1 ht (PatsQ.ext e1 bs us hbs.at_ |>.takeQ g9)⟩
  cases hall : (bs.take g9).all nullb with
  | false =>
    refine iffT rfl ?_
    have := q H2 e2
    unfold rowC at this
    rw [egb, hall, Bool.false_and, Bool.and_false] at this
    exact this
  | true =>
  refine iffF rfl ?_
  dsimp only
  have fin : ∀ H', Ext H H' → (c : Bool) → all2 (cov d) (bs.drop g9) ss = c → Q (.bl c) H' := fun H' e c hc => by
    have := q H' e
    unfold rowC at this
    rw [egb, hall, hc, decide_eq_true (show ss.length ≤ bs.length by omega)] at this
    simpa using this
  refine t_seq ⟨_, rfl, _, rfl, _, rfl, ?_⟩
  refine slice_fromI (K := K) eg' (e2.tup ha) (by omega) fun t2 H3 e3 ht2 => ⟨_, rfl, t2, b', us.drop g9, ws, rfl, .inr ⟨SqT.of ht2, SqT.of ((e2.trans e3).tup hb), ?_⟩⟩
  have f3 := e2.trans e3
  refine for_zipT (K := K) (a := t2) (b := b') (xs := us.drop g9) (ys := ws) (by rw [List.length_drop]; omega) (fun i σ' H' => ∃ o4 o5, σ' = [some (.ref a), some (.ref b'), some (nV d), some (.int (((us.length : Nat) : Int) - ((ws.length : Nat) : Int))), o4, o5] ∧ Ext H3 H' ∧ ∀ j p q, j < i → (bs.drop g9)[j]? = some p → ss[j]? = some q → cov d p q = true) ⟨none, none, rfl, Ext.refl _, fun j p q hj => by omega⟩ ?_ ?_ ?_
  · rintro i σ' H' ⟨_, _, _, e, _⟩
    exact ⟨SqT.of (e.tup ht2), SqT.of ((f3.trans e).tup hb)⟩
  · rintro i x y T σ' H' hx hy ⟨o4, o5, rfl, e, hcov⟩ hTn
    have f := f3.trans e
    have eT := Ext.new (o := .tup [x, y]) hTn
    obtain ⟨p, hp, hpv⟩ := (PatsQ.ext (f.trans eT) bs us hbs.at_ |>.dropQ g9).get hx
    obtain ⟨r, hr', hrv⟩ := (PatsQ.ext (f.trans eT) ss ws hss.at_).get hy
    have mp := List.mem_of_mem_drop (List.mem_of_getElem? hp)
    have mr := List.mem_of_getElem? hr'
    refine ⟨T, [x, y], rfl, SqT.of upd_same, rfl, ?_⟩
    refine ⟨x, _, rfl, y, _, rfl, rfl, ?_⟩
    refine ⟨_, rfl, _, rfl, _, rfl, x, y, p, r, d, rfl, ⟨hpv, SgL_iff.mp hbs.low p mp, Nat.le_trans (dep_mem mp) hbs.dep⟩, ⟨hrv, SgL_iff.mp hss.low r mr, Nat.le_trans (dep_mem mr) hss.dep⟩, hd, hT.ext (f.trans eT), fun H5 e5 => ⟨_, rfl, ?_⟩⟩
    cases hc : cov d p r with
    | true => exact iffF rfl ⟨_, _, rfl, e.trans (eT.trans e5), fun j p' q' hj hp' hq' => by
        rcases Nat.lt_succ_iff_lt_or_eq.mp hj with hj | hj
        · exact hcov j p' q' hj hp' hq'
        · subst hj
          cases (hp.symm.trans hp')
          cases (hr'.symm.trans hq')
          exact hc⟩
    | false =>
      refine iffT rfl (fin H5 ((f.trans eT).trans e5) false ?_)
      refine Bool.eq_false_iff.mpr fun h => ?_
      have := (all2_iff (c := cov d) (by rw [List.length_drop]; omega)).mp h i p r hp hr'
      rw [hc] at this
      cases this
  · rintro σ' H' ⟨o4, o5, rfl, e, hcov⟩
    refine fin H' (f3.trans e) true ((all2_iff (by rw [List.length_drop]; omega)).mpr fun j p r hp hr' => hcov j p r ?_ hp hr')
    have := (List.getElem?_eq_some_iff.mp hr').1
    rw [List.length_drop]
    omega
end
end Bo
set_option Elab.async false
set_option linter.all false
set_option maxRecDepth 100000
set_option maxHeartbeats 8000000
/-! covers_by_shape, and covers of every depth -/
namespace Bo
open PySem PySem.Spec PyProof.Rows L2 GE
theorem pieces_ok {K : PySem.W.Frag} {H : Hp} {p : Pat} {us : List V} (h : PatsQ K H (pieces p) us) (low : Sg Low p) (dep : p.dep ≤ 30) : Oks K H (pieces p) us := by
  refine ⟨h, SgL_iff.mpr fun q a => pieces_sg low a, ?_⟩
  cases p <;> first | exact Nat.le_of_succ_le dep | (show max _ 0 ≤ 30; rw [Nat.max_zero]; exact dep)
section
variable {P : Program} {w : World} {K : PySem.W.Frag} {mg : Str → Option Value} {base : Heap}
theorem scCs : FnScope ["big", "small", "depth"] ["big", "small", "depth"] (defScope sCoversByShape) := ⟨rfl, rfl, rfl, by decide +kernel, rfl, by decide +kernel, by decide +kernel⟩
theorem cs_ok {f g1 g2 g3 g4 : Addr} {fd d1 d2 d3 d4 : FuncData} {T1 T2 T3 T4 : Addr} {k m : Nat} (F : FnP K "covers_by_shape" sCoversByShape f fd)
    (G1 : FnOk P w K mg base CX0 k g1 d1 ["big", "small", "depth"] (spCv K T1 T2 T3 T4 m)) (b1 : Binds K d1 ["big", "small", "depth"] []) (k1 : PySem.W.keepIn K (.ref g1) = true) (m1 : mg "covers" = some (.ref g1))
    (G2 : FnOk P w K mg base CX0 (k + 2) g2 d2 ["big", "small", "depth"] (spMc K T1 T2 T3 T4 m)) (b2 : Binds K d2 ["big", "small", "depth"] []) (k2 : PySem.W.keepIn K (.ref g2) = true) (m2 : mg "many_covers" = some (.ref g2))
    (G3 : FnOk P w K mg base CX0 (k + 2) g3 d3 ["bigs", "smalls", "depth"] (spRc K T1 T2 T3 T4 m)) (b3 : Binds K d3 ["bigs", "smalls", "depth"] []) (k3 : PySem.W.keepIn K (.ref g3) = true) (m3 : mg "row_covers" = some (.ref g3))
    (G4 : FnOk P w K mg base CX0 1 g4 d4 ["pattern"] (spPo K)) (b4 : Binds K d4 ["pattern"] []) (k4 : PySem.W.keepIn K (.ref g4) = true) (m4 : mg "pieces_of" = some (.ref g4)) :
    FnOk P w K mg base CX0 (k + 3) f fd ["big", "small", "depth"] (spCs K T1 T2 T3 T4 m) := by
  refine okD F scCs (fun vs H Q E h => ?_) (fun cdv A outer s H vs Q E hr h => ?_)
  · obtain ⟨bv, sv, b, s, d, rfl, _⟩ := h
    rfl
  obtain ⟨bv, sv, bp, sp, d, rfl, hb, hs, hd, hT, q⟩ := h
  refine ⟨_, (pss_cons (ps_if (PW.pt (pw_and (pt_cmpR op_eq (pe_ix ix_tup (pv 0) pe_int (fun _ _ => rfl)) pe_str (nomark _)) (pw_and1 (pt_cmpR op_eq (pe_ix ix_tup (pv 1) pe_int (fun _ _ => rfl)) pe_str (nomark _)))))
      (pss_one (ps_ret (pe_call G1 (hr.mono (by omega)) rfl m1 k1 b1 .nil pass0 (pa_cons (pe_ix ix_tup (pv 1) pe_int (fun _ _ => rfl)) (pa_cons (pe_ix ix_tup (pv 0) pe_int (fun _ _ => rfl)) (pa_cons (pv 2) pa_nil)))))) pss_nil) (pss_cons (ps_if (pt_cmpR op_eq (pe_ix ix_tup (pv 0) pe_int (fun _ _ => rfl)) pe_str (nomark _)) (pss_one (ps_ret (pe_call G2 (hr.mono (by omega)) rfl m2 k2 b2 .nil pass0 (pa_cons (pv 0) (pa_cons (pv 1) (pa_cons (pv 2) pa_nil)))))) pss_nil) (pss_cons (ps_if (pt_cmpR op_eq (pe_ix ix_tup (pv 0) pe_int (fun _ _ => rfl)) pe_str (nomark _)) (pss_one (ps_ret (pe_call G3 (hr.mono (by omega)) rfl m3 k3 b3 .nil pass0 (pa_cons (pe_ix ix_tup (pv 0) pe_int (fun _ _ => rfl)) (pa_cons (pe_call G4 (hr.mono (by omega)) rfl m4 k4 b4 .nil pass0 (pa_cons (pv 1) pa_nil)) (pa_cons (pv 2) pa_nil)))))) pss_nil) (pss_one (ps_ret pe_bl))))), ?_⟩
  by_cases hother : rank bp ≠ 4 ∧ rank bp ≠ 2 ∧ rank bp ≠ 6
  · obtain ⟨n1, n2, n3⟩ := hother
    obtain ⟨ax, xs, rfl, hax⟩ := hb.at_.hd
    have e : covS (cov d) bp sp = false := by cases bp <;> first | rfl | (exact absurd rfl n1) | (exact absurd rfl n2) | (exact absurd rfl n3)
    refine t_seq (q_kind rfl hax (iffF (decide_eq_false (kind_neq (i := 4) (by decide) n1)) (iffF rfl ?_)))
    refine t_seq (q_kF rfl hax (kind_neq (i := 2) (by decide) n2) (t_seq (q_kF rfl hax (kind_neq (i := 6) (by decide) n3) ?_)))
    have := q H (Ext.refl _)
    rw [e] at this
    exact this
  cases bp with
  | not x =>
    obtain ⟨a, u, rfl, ha, hx⟩ := id hb.at_
    obtain ⟨ay, ys, rfl, hay⟩ := hs.at_.hd
    refine t_seq (q_kind rfl ha (iffT (decide_eq_true rfl) ?_))
    by_cases h : ∃ y, sp = .not y
    · obtain ⟨y, rfl⟩ := h
      obtain ⟨a', v, ea, ha', hy⟩ := id hs.at_
      cases ea
      refine q_kind rfl ha' (iffT (decide_eq_true rfl) ?_)
      exact q_ix 1 rfl ha' rfl (q_ix 1 rfl ha rfl ⟨_, rfl, v, u, y, x, d, rfl, ⟨hy, hs.low, Nat.le_of_succ_le hs.dep⟩, ⟨hx, hb.low, Nat.le_of_succ_le hb.dep⟩, hd, hT, q⟩)
    have n4 : rank sp ≠ 4 := by cases sp <;> first | (exact absurd ⟨_, rfl⟩ h) | simp [rank]
    refine q_kind rfl hay (iffF (decide_eq_false (kind_neq (i := 4) (by decide) n4)) ?_)
    refine t_seq (q_kF rfl ha (by decide) (t_seq (q_kF rfl ha (by decide) ?_)))
    have := q H (Ext.refl _)
    rw [show covS (cov d) (.not x) sp = false by cases sp <;> first | rfl | exact absurd ⟨_, rfl⟩ h] at this
    exact this
  | many x =>
    obtain ⟨a, u, rfl, ha, hx⟩ := id hb.at_
    refine t_seq (q_kind rfl ha (iffF (decide_eq_false (by decide)) (iffF rfl ?_)))
    refine t_seq (q_kT rfl ha ?_)
    exact ⟨_, rfl, _, rfl, _, rfl, .ref a, sv, x, sp, d, rfl, hb, hs, hd, hT, q⟩
  | row bs =>
    obtain ⟨a, b', vs, rfl, ha, hvs, hps⟩ := id hb.at_
    refine t_seq (q_kind rfl ha (iffF (decide_eq_false (by decide)) (iffF rfl ?_)))
    refine t_seq (q_kF rfl ha (by decide) (t_seq (q_kT rfl ha ?_)))
    refine q_ix 1 rfl ha rfl ⟨_, rfl, sv, sp, rfl, hs.at_, fun H' b2 us e hb2 hq => ?_⟩
    exact ⟨_, rfl, b', b2, vs, us, bs, pieces sp, d, rfl, e.tup hvs, hb2, ⟨PatsQ.ext e bs vs hps, hb.low, Nat.le_of_succ_le hb.dep⟩, pieces_ok hq hs.low hs.dep, hd, hT.ext e, fun H'' e' => q H'' (e.trans e')⟩
  | none => exact absurd (by simp [rank]) hother
  | empty => exact absurd (by simp [rank]) hother
  | sign c => exact absurd (by simp [rank]) hother
  | or ps => exact absurd (by simp [rank]) hother
  | and ps => exact absurd (by simp [rank]) hother
/-- covers, with what it calls, of every depth -/
structure CvF (P : Program) (w : World) (K : PySem.W.Frag) (mg : Str → Option Value) (base : Heap) (T1 T2 T3 T4 f g h mcA rcA poA : Addr) (fd gd hd md rd pd' : FuncData) : Prop where
  dv : ∃ dv : List V, FunD K "covers" "covers" (defArgs sCovers) (defBody sCovers) (defScope sCovers) dv [] f fd
  cv : ∃ c, fd.code = .ref c ∧ GxR.TabB base mg c T2
  bf : Binds K fd ["big", "small", "depth"] []
  kf : PySem.W.keepIn K (.ref f) = true
  mf : mg "covers" = some (.ref f)
  gt : FnOk P w K mg base CX0 60 g gd ["pattern"] (spTE K 30 T1)
  bg : Binds K gd ["pattern"] []
  kg : PySem.W.keepIn K (.ref g) = true
  mt : mg "takes_empty" = some (.ref g)
  fs : FnP K "covers_by_shape" sCoversByShape h hd
  bs : Binds K hd ["big", "small", "depth"] []
  ks : PySem.W.keepIn K (.ref h) = true
  ms : mg "covers_by_shape" = some (.ref h)
  fm : FnP K "many_covers" sManyCovers mcA md
  cm : ∃ c, md.code = .ref c ∧ GxR.TabB base mg c T3
  bm : Binds K md ["big", "small", "depth"] []
  km : PySem.W.keepIn K (.ref mcA) = true
  mm : mg "many_covers" = some (.ref mcA)
  fr : FnP K "row_covers" sRowCovers rcA rd
  cr : ∃ c, rd.code = .ref c ∧ GxR.TabB base mg c T4
  br : Binds K rd ["bigs", "smalls", "depth"] []
  kr : PySem.W.keepIn K (.ref rcA) = true
  mr : mg "row_covers" = some (.ref rcA)
  fp : FnP K "pieces_of" sPiecesOf poA pd'
  bp : Binds K pd' ["pattern"] []
  kp : PySem.W.keepIn K (.ref poA) = true
  mp : mg "pieces_of" = some (.ref poA)
  C : ∃ aA aN aE, Consts K mg aA aN aE
  ma : mg "any" = none
  ml : mg "all" = none
  mlen : mg "len" = none
  mz : mg "zip" = none
theorem cv_none {f : Addr} {fd : FuncData} {T1 T2 T3 T4 : Addr} {k : Nat} : FnOk P w K mg base CX0 k f fd ["big", "small", "depth"] (spCv K T1 T2 T3 T4 0) := by
  have no : ∀ vs H Q E, ¬ spCv K T1 T2 T3 T4 0 vs H Q E := fun vs H Q E h => by
    obtain ⟨_, _, _, _, d, _, _, _, hd, _⟩ := h
    exact absurd hd (Nat.not_lt_zero d)
  exact ⟨fun vs H Q E h => absurd h (no vs H Q E), fun A outer s H args us vs Q E _ _ _ _ h => absurd h (no vs H Q E)⟩
theorem cv_tower {T1 T2 T3 T4 f g h mcA rcA poA : Addr} {fd gd hd md rd pd' : FuncData} (S : CvF P w K mg base T1 T2 T3 T4 f g h mcA rcA poA fd gd hd md rd pd') : ∀ m, FnOk P w K mg base CX0 (60 + 4 * m) f fd ["big", "small", "depth"] (spCv K T1 T2 T3 T4 m)
  | 0 => cv_none
  | m + 1 => by
    have G := cv_tower S m
    obtain ⟨dv, F⟩ := S.dv
    obtain ⟨c, hc, TB⟩ := S.cv
    obtain ⟨c3, hc3, TB3⟩ := S.cm
    obtain ⟨c4, hc4, TB4⟩ := S.cr
    obtain ⟨aA, aN, aE, C⟩ := S.C
    have Gm := mc_ok S.fm hc3 TB3 G S.bf S.kf S.mf S.ml
    have Gr := rc_ok S.fr hc4 TB4 G S.bf S.kf S.mf S.gt S.bg S.kg S.mt S.ml S.mlen S.mz (Nat.le_add_right _ _)
    have Gs := cs_ok S.fs G S.bf S.kf S.mf Gm S.bm S.km S.mm Gr S.br S.kr S.mr (po_ok S.fp) S.bp S.kp S.mp
    exact cv_ok F hc TB G S.bf S.kf S.mf S.gt S.bg S.kg S.mt Gs S.bs S.ks S.ms C S.ma S.ml (Nat.le_add_right _ _)
end
end Bo
set_option Elab.async false
set_option linter.all false
set_option maxRecDepth 100000
set_option maxHeartbeats 4000000
/-! names that are not seen may be others; a call of what a slot holds, with its defaults -/
namespace GE
open PySem PySem.Spec PyProof.Rows L2
/-- the same place, other names where nothing is seen -/
abbrev Cx.named (X : Cx) (N' : List Str) : Cx := { X with N := N' }
theorem ok_named {X : Cx} (N' : List Str) (o : X.Ok) : (Cx.named X N').Ok := ⟨o.mod, o.kind, o.glob, o.blt, o.above, o.inj, o.has, o.cab, o.hd, o.frames, o.stk, o.exf, o.bs, o.bsz, o.noex, o.exfs, o.funs, o.frf⟩
theorem inv_named {X : Cx} {N' : List Str} {pins : List (Addr × Obj)} {σ : L2.St} {H : Hp} {s : Shared} (hv : ∀ (i : Nat) (y : Str), Vis X.env.scope y → N'[i]? = some y → X.N[i]? = some y) (hl : N'.length = X.N.length) (I : Inv X pins σ H s) : Inv (Cx.named X N') pins σ H s :=
  ⟨ok_named N' I.ok, I.os, I.bare, I.base, let ⟨m, h1, h2⟩ := I.loc; ⟨m, h1, fun i x v e1 e2 e3 => h2 i x v (hv i x e3 e1) e2 e3⟩, I.cell, I.free, I.freeC, I.pin, I.hok, I.len.trans hl.symm⟩
theorem inv_unnamed {X : Cx} {N' : List Str} {pins : List (Addr × Obj)} {σ : L2.St} {H : Hp} {s : Shared} (hv : ∀ (i : Nat) (y : Str), Vis X.env.scope y → X.N[i]? = some y → N'[i]? = some y) (hl : N'.length = X.N.length) (I : Inv (Cx.named X N') pins σ H s) : Inv X pins σ H s :=
  ⟨⟨I.ok.mod, I.ok.kind, I.ok.glob, I.ok.blt, I.ok.above, I.ok.inj, I.ok.has, I.ok.cab, I.ok.hd, I.ok.frames, I.ok.stk, I.ok.exf, I.ok.bs, I.ok.bsz, I.ok.noex, I.ok.exfs, I.ok.funs, I.ok.frf⟩, I.os, I.bare, I.base, let ⟨m, h1, h2⟩ := I.loc; ⟨m, h1, fun i x v e1 e2 e3 => h2 i x v (hv i x e3 e1) e2 e3⟩, I.cell, I.free, I.freeC, I.pin, I.hok, I.len.trans hl⟩
def visC (sc : Scope) (y : Str) : Bool := match sc.names.lookup y with
  | some .local => true
  | some .cell => true
  | some .free => true
  | _ => false
theorem vis_C {sc : Scope} {y : Str} (h : visC sc y = false) : ¬ Vis sc y := fun v => by
  unfold visC at h
  rcases v with v | v | v <;> (rw [v] at h; cases h)
/-- the i-th name, which is not seen, is another one that is not seen -/
theorem pe_named {X : Cx} {e : Expr} {t : TE} (j : Nat) (z : Str) (h : PE (Cx.named X (X.N.set j z)) e t) (h1 : visC X.env.scope z = false) (h2 : ∀ y, X.N[j]? = some y → visC X.env.scope y = false) : PE X e t := by
  have hl : (X.N.set j z).length = X.N.length := List.length_set
  refine ⟨fun pins s σ H Q I q => ?_⟩
  refine thn (h.run pins s σ H Q (inv_named (fun i y v e => ?_) hl I) q) fun v s' ⟨x, H', I', r, k⟩ => ⟨x, H', inv_unnamed (fun i y v e => ?_) hl I', r, k⟩
  · by_cases hj : j = i
    · subst hj
      rw [List.getElem?_set_self'] at e
      cases hq : X.N[j]? with
      | none => rw [hq] at e; cases e
      | some a =>
        rw [hq] at e
        have e : z = y := Option.some.inj e
        exact absurd (e ▸ v) (vis_C h1)
    · rw [List.getElem?_set_ne hj] at e; exact e
  · by_cases hj : j = i
    · subst hj; exact absurd v (vis_C (h2 y e))
    · rw [List.getElem?_set_ne hj]; exact e
/-- one of several defs that keeps a promise, whatever its defaults are -/
structure HeldD (P : Program) (w : World) (K : PySem.W.Frag) (mg : Str → Option Value) (base : Heap) (k : Nat) (f : Addr) (sp : Sp) : Prop where
  ex : ∃ (fd : FuncData) (ps : List Str) (sp' : Sp) (dvs : List V) (ds : List Value), FnOk P w K mg base (fun _ _ _ _ _ _ => False) k f fd ps sp' ∧ PySem.W.keepIn K (.ref f) = true ∧ Binds K fd ps ds ∧ Vals dvs ds ∧ ∀ vs H Q E, sp vs H Q E → sp' (vs ++ dvs) H Q E
def tCallD {ι : Type} (i : Nat) (S : Addr → ι → Prop) (sp : ι → Sp) (t : TA) : TE := fun σ H Q => ∃ f z, σ[i]? = some (some (.ref f)) ∧ S f z ∧ t σ H fun vs H1 => sp z vs H1 Q (fun _ _ _ => False)
/-- as a reading that may be made weaker -/
def MonoA (t : TA) : Prop := ∀ σ H (Q Q' : List V → Hp → Prop), (∀ vs H1, Q vs H1 → Q' vs H1) → t σ H Q → t σ H Q'
theorem mono_nil : MonoA tNil := fun _ _ _ _ h q => h _ _ q
theorem mono_cons {i : Nat} {t : TA} (m : MonoA t) : MonoA (tCons (tVar i) t) := fun σ H Q Q' h q => by
  obtain ⟨v, e, q⟩ := q
  exact ⟨v, e, m σ H _ _ (fun vs H1 => h _ H1) q⟩
theorem pe_callD {X : Cx} {k i : Nat} {ι : Type} {S : Addr → ι → Prop} {sp : ι → Sp} {x : Str} {p pos : Pos} {e : Expr} {es : List Expr} {t : TA} (A : ∀ f z, S f z → HeldD X.prog X.w X.K X.mg X.base k f (sp z)) (hr : Room k X.A) (hN : X.N[i]? = some x) (hv : Vis X.env.scope x) (ha : PA X (e :: es) t) (hm : MonoA t)
    (hdb : (x == ("__debug__" : Str)) = false := by decide) (hcd : (x == ("__classdict__" : Str)) = false := by decide)
    (he : starEach (e :: es) X.env = (false, eval e X.env) :: starEach es X.env := by rfl) (hpl : (backTo pos (starEach es X.env)).any (·.1) = false := by rfl) : PE X (.Call (.Name x p) (e :: es) [] pos) (tCallD i S sp t) := by
  refine ⟨fun pins s σ H Q I h => ?_⟩
  obtain ⟨f, z, hs, hS, ht⟩ := h
  obtain ⟨fd, ps, sp', dvs, ds, F, hk, hb, hd, imp⟩ := (A f z hS).ex
  exact (pe_callL (i := i) (f := f) (sp := sp') (dvs := dvs) (E := fun _ _ _ => False) F hr hN hv hk hb hd (fun _ _ _ _ _ _ _ z => z.elim) ha hdb hcd he hpl).run pins s σ H Q I ⟨hs, hm _ _ _ _ (fun vs H1 q => imp vs H1 Q _ q) ht⟩
end GE
set_option Elab.async false
set_option linter.all false
set_option maxRecDepth 100000
set_option maxHeartbeats 8000000
/-! small parts of the forms: negated, joined, spread, takes_along, covered -/
namespace Bo
open PySem PySem.Spec PyProof.Rows L2 GE
/-- all tuples stay, lists may be written -/
structure Tup (H H' : Hp) : Prop where
  t : ∀ b xs, H b = some (.tup xs) → H' b = some (.tup xs)
  z : ∀ b o xs, H b = some (.frz o (.tup xs)) → H' b = some (.frz o (.tup xs))
theorem Tup.refl (H : Hp) : Tup H H := ⟨fun _ _ h => h, fun _ _ _ h => h⟩
theorem Tup.trans {H H1 H2 : Hp} (a : Tup H H1) (b : Tup H1 H2) : Tup H H2 := ⟨fun c xs h => b.t c xs (a.t c xs h), fun c o xs h => b.z c o xs (a.z c o xs h)⟩
theorem Ext.tups {H H' : Hp} (e : Ext H H') : Tup H H' := ⟨fun _ _ h => e.tup h, fun _ _ _ h => e.keep _ _ h (fun ps z => by cases z)⟩
theorem Tup.wr {H : Hp} {D : Addr} {xs : List V} {o : HO} (h : H D = some (.lst xs)) : Tup H (upd H D o) :=
  ⟨fun b ys q => by rw [upd_ne (fun e => by rw [e, h] at q; cases q)]; exact q, fun b o' ys q => by rw [upd_ne (fun e => by rw [e, h] at q; cases q)]; exact q⟩
theorem Tup.sqT {K : PySem.W.Frag} {H H' : Hp} (e : Tup H H') {a : Addr} {xs : List V} (h : SqT K H a xs) : SqT K H' a xs := by
  rcases h with (h | ⟨o, h⟩) | h
  · exact .inl (.inl (e.t _ _ h))
  · exact .inl (.inr ⟨o, e.z _ _ _ h⟩)
  · exact .inr h
mutual
theorem PatQ.tups {K : PySem.W.Frag} {H H' : Hp} (e : Tup H H') : ∀ {p : Pat} {v : V}, PatQ K H p v → PatQ K H' p v
  | .none, v, ⟨a, h1, h2⟩ => ⟨a, h1, e.sqT h2⟩
  | .empty, v, ⟨a, h1, h2⟩ => ⟨a, h1, e.sqT h2⟩
  | .sign c, v, ⟨a, h1, h2⟩ => ⟨a, h1, e.sqT h2⟩
  | .row ps, v, ⟨a, b, vs, h1, h2, h3, h4⟩ => ⟨a, b, vs, h1, e.sqT h2, e.t _ _ h3, PatsQ.tups e h4⟩
  | .or ps, v, ⟨a, b, vs, h1, h2, h3, h4⟩ => ⟨a, b, vs, h1, e.sqT h2, e.t _ _ h3, PatsQ.tups e h4⟩
  | .and ps, v, ⟨a, b, vs, h1, h2, h3, h4⟩ => ⟨a, b, vs, h1, e.sqT h2, e.t _ _ h3, PatsQ.tups e h4⟩
  | .many p, v, ⟨a, u, h1, h2, h3⟩ => ⟨a, u, h1, e.sqT h2, PatQ.tups e h3⟩
  | .not p, v, ⟨a, u, h1, h2, h3⟩ => ⟨a, u, h1, e.sqT h2, PatQ.tups e h3⟩
theorem PatsQ.tups {K : PySem.W.Frag} {H H' : Hp} (e : Tup H H') : ∀ {ps : List Pat} {vs : List V}, PatsQ K H ps vs → PatsQ K H' ps vs
  | [], vs, h => h
  | p :: ps, vs, ⟨v, r, h1, h2, h3⟩ => ⟨v, r, h1, PatQ.tups e h2, PatsQ.tups e h3⟩
end
/-- the tables of code -/
structure Tz where
  te : Addr
  cv : Addr
  mc : Addr
  rc : Addr
  ei : Addr
  bo : Addr
  ne : Addr
structure Tbl (H : Hp) (T : Tz) : Prop where
  c : Tabs H T.te T.cv T.mc T.rc
  ei : GxR.TabG H T.ei
  bo : GxR.TabG H T.bo
  ne : GxR.TabG H T.ne
theorem Tbl.ext {H H' : Hp} {T : Tz} (h : Tbl H T) (e : Ext H H') : Tbl H' T := ⟨h.c.ext e, e.tab _ h.ei, e.tab _ h.bo, e.tab _ h.ne⟩
/-- the def stands -/
structure Std (K : PySem.W.Frag) (mg : Str → Option Value) (x : Str) (st : Stmt) (ps : List Str) (f : Addr) (fd : FuncData) : Prop where
  F : FnP K x st f fd
  b : Binds K fd ps []
  m : mg x = some (.ref f)
/-- a def that keeps a promise, by its name -/
def Cal (P : Program) (w : World) (K : PySem.W.Frag) (mg : Str → Option Value) (base : Heap) (k : Nat) (x : Str) (ps : List Str) (dvs : List V) (sp : Sp) : Prop :=
  ∃ (f : Addr) (fd : FuncData) (ds : List Value), FnOk P w K mg base CX0 k f fd ps sp ∧ Binds K fd ps ds ∧ Vals dvs ds ∧ PySem.W.keepIn K (.ref f) = true ∧ mg x = some (.ref f)
theorem Std.cal {P : Program} {w : World} {K : PySem.W.Frag} {mg : Str → Option Value} {base : Heap} {k : Nat} {x : Str} {st : Stmt} {ps : List Str} {f : Addr} {fd : FuncData} {sp : Sp} (S : Std K mg x st ps f fd) (G : FnOk P w K mg base CX0 k f fd ps sp) : Cal P w K mg base k x ps [] sp :=
  ⟨f, fd, [], G, S.b, .nil, S.F.kp, S.m⟩
/-- the kinds that have parts -/
inductive Kd : Str → (List Pat → Pat) → (Pat → List Pat) → Prop
  | or : Kd "or" .or partsO
  | and : Kd "and" .and partsA
  | row : Kd "row" .row pieces
theorem Kd.make {K : PySem.W.Frag} {H : Hp} {kd : Str} {mk : List Pat → Pat} {f : Pat → List Pat} (h : Kd kd mk f) {a b : Addr} {us : List V} {ps : List Pat} (ha : SqT K H a [.str kd, .ref b]) (hb : H b = some (.tup us)) (hp : PatsQ K H ps us) : PatQ K H (mk ps) (.ref a) := by
  cases h <;> exact ⟨a, b, us, rfl, ha, hb, hp⟩
theorem Kd.take {K : PySem.W.Frag} {H : Hp} {kd : Str} {mk : List Pat → Pat} {f : Pat → List Pat} (h : Kd kd mk f) {p : Pat} {v : V} (hp : PatQ K H p v) (e : p.kind = kd) : ∃ a b us, v = .ref a ∧ SqT K H a [.str kd, .ref b] ∧ H b = some (.tup us) ∧ PatsQ K H (f p) us := by
  cases h with
  | or => cases p <;> first | exact hp | exact absurd e (kind_neq (i := 5) (by decide) (by simp [rank]))
  | and => cases p <;> first | exact hp | exact absurd e (kind_neq (i := 0) (by decide) (by simp [rank]))
  | row => cases p <;> first | exact hp | exact absurd e (kind_neq (i := 6) (by decide) (by simp [rank]))
theorem Kd.leave {kd : Str} {mk : List Pat → Pat} {f : Pat → List Pat} (h : Kd kd mk f) {p : Pat} (e : p.kind ≠ kd) : f p = [p] := by
  cases h <;> (cases p <;> first | rfl | exact absurd rfl e)
theorem take_flat {f : Pat → List Pat} {ps : List Pat} {i : Nat} {p : Pat} (h : ps[i]? = some p) : spread f (ps.take (i + 1)) = spread f (ps.take i) ++ f p := by
  unfold spread
  rw [List.take_succ, h]; simp
theorem flat_le {f : Pat → List Pat} {ps : List Pat} (i : Nat) : (spread f (ps.take i)).length ≤ (spread f ps).length := by
  have : spread f ps = spread f (ps.take i) ++ spread f (ps.drop i) := by
    unfold spread
    rw [← List.flatMap_append, List.take_append_drop]
  rw [this, List.length_append]; exact Nat.le_add_right _ _
/-- as long as lists of ours may be -/
def lineB : Nat := 4194304
theorem line_le : lineB < sizeLine := by rw [sizeLine_eq]; decide
/-- the lists that may be asked of -/
structure Okl (K : PySem.W.Frag) (H : Hp) (ps : List Pat) (us : List V) : Prop where
  at_ : PatsQ K H ps us
  ok : ∀ p ∈ ps, Sg Low p ∧ p.dep ≤ 30
theorem Okl.ext {K : PySem.W.Frag} {H H' : Hp} {ps : List Pat} {us : List V} (h : Okl K H ps us) (e : Ext H H') : Okl K H' ps us := ⟨PatsQ.ext e ps us h.at_, h.ok⟩
def spNg (K : PySem.W.Frag) : Sp := fun vs H Q _ => ∃ v p, vs = [v] ∧ PatQ K H p v ∧ ∀ H' u, Ext H H' → PatQ K H' (negated p) u → Q u H'
def spJn (K : PySem.W.Frag) : Sp := fun vs H Q _ => ∃ (kd : Str) (mk : List Pat → Pat) (f : Pat → List Pat) (a : Addr) (us : List V) (ps : List Pat) (z : V) (zp : Pat), vs = [.str kd, .ref a, z] ∧ Kd kd mk f ∧ SqL K H a us ∧ PatsQ K H ps us ∧ PatQ K H zp z ∧
  ∀ H' u, Ext H H' → PatQ K H' (joined mk ps zp) u → Q u H'
def spSd (K : PySem.W.Frag) : Sp := fun vs H Q _ => ∃ (kd : Str) (mk : List Pat → Pat) (f : Pat → List Pat) (a : Addr) (us : List V) (ps : List Pat), vs = [.str kd, .ref a] ∧ Kd kd mk f ∧ SqL K H a us ∧ PatsQ K H ps us ∧ (spread f ps).length ≤ lineB ∧
  ∀ r H' ws, Ext H H' → H r = none → H' r = some (.lst ws) → PatsQ K H' (spread f ps) ws → Q (.ref r) H'
/-- what covers and covered tell of two -/
def spId (K : PySem.W.Frag) (T : Tz) (c : Pat → Pat → Bool) : Sp := fun vs H Q _ => ∃ x y p q, vs = [x, y] ∧ Ok K H p x ∧ Ok K H q y ∧ Tbl H T ∧ ∀ H', Ext H H' → Q (.bl (c p q)) H'
section
variable {P : Program} {w : World} {K : PySem.W.Frag} {mg : Str → Option Value} {base : Heap}
theorem scNg : FnScope ["pattern"] ["pattern"] (defScope sNegated) := ⟨rfl, rfl, rfl, by decide +kernel, rfl, by decide +kernel, by decide +kernel⟩
theorem scJn : FnScope ["kind", "parts", "nothing"] ["kind", "parts", "nothing"] (defScope sJoined) := ⟨rfl, rfl, rfl, by decide +kernel, rfl, by decide +kernel, by decide +kernel⟩
theorem scSd : FnScope ["kind", "parts", "found", "part"] ["kind", "parts"] (defScope sSpread) := ⟨rfl, rfl, rfl, by decide +kernel, rfl, by decide +kernel, by decide +kernel⟩
theorem scTA : FnScope ["greedy", "part"] ["greedy", "part"] (defScope sTakesAlong) := ⟨rfl, rfl, rfl, by decide +kernel, rfl, by decide +kernel, by decide +kernel⟩
theorem scCo : FnScope ["small", "big"] ["small", "big"] (defScope sCovered) := ⟨rfl, rfl, rfl, by decide +kernel, rfl, by decide +kernel, by decide +kernel⟩
theorem ng_ok {f : Addr} {fd : FuncData} (S : Std K mg "negated" sNegated ["pattern"] f fd) : FnOk P w K mg base CX0 1 f fd ["pattern"] (spNg K) := by
  refine okD S.F scNg (fun vs H Q E h => ?_) (fun cdv A outer s H vs Q E hr h => ?_)
  · obtain ⟨v, p, rfl, _⟩ := h
    rfl
  obtain ⟨v, p, rfl, hp, q⟩ := h
  refine ⟨_, (pss_cons (ps_if (pt_cmpR op_eq (pe_ix ix_tup (pv 0) pe_int (fun _ _ => rfl)) pe_str (nomark _)) (pss_one (ps_ret (pe_ix ix_tup (pv 0) pe_int (fun _ _ => rfl)))) pss_nil) (pss_one (ps_ret (pe_tup (pa_cons pe_str (pa_cons (pv 0) pa_nil)))))), ?_⟩
  by_cases h : ∃ x, p = .not x
  · obtain ⟨x, rfl⟩ := h
    obtain ⟨a, u, rfl, ha, hu⟩ := hp
    exact t_seq (q_kT rfl ha (q_ix 1 rfl ha rfl (q H u (Ext.refl _) hu)))
  obtain ⟨a, xs, rfl, ha⟩ := hp.hd
  have n4 : rank p ≠ 4 := by cases p <;> first | (exact absurd ⟨_, rfl⟩ h) | simp [rank]
  refine t_seq (q_kF rfl ha (kind_neq (i := 4) (by decide) n4) ⟨_, rfl, (show 2 ≤ sizeLine by decide), fun b xb => ?_⟩)
  have e := Ext.new (o := .tup [V.str "not", V.ref a]) xb
  refine q _ (.ref b) e ?_
  have g : PatQ K _ (.not p) (.ref b) := ⟨b, _, rfl, SqT.of upd_same, PatQ.ext e p _ hp⟩
  cases p <;> first | exact g | exact absurd ⟨_, rfl⟩ h
theorem jn_ok {f : Addr} {fd : FuncData} (S : Std K mg "joined" sJoined ["kind", "parts", "nothing"] f fd) (mlen : mg "len" = none) (mt : mg "tuple" = none) : FnOk P w K mg base CX0 1 f fd ["kind", "parts", "nothing"] (spJn K) := by
  refine okD S.F scJn (fun vs H Q E h => ?_) (fun cdv A outer s H vs Q E hr h => ?_)
  · obtain ⟨kd, mk, f, a, us, ps, z, zp, rfl, _⟩ := h
    rfl
  obtain ⟨kd, mk, f, a, us, ps, z, zp, rfl, hk, ha, hp, hz, q⟩ := h
  refine ⟨_, (pss_cons (ps_if (pt_not (pt_truth (pv 1) (by intro _; rfl))) (pss_one (ps_ret (pv 2))) pss_nil) (pss_cons (ps_if (pt_cmpR op_eq (pe_callB call_len_seq rfl mlen PySem.boot_len (pa_cons (pv 1) pa_nil)) pe_int (nomark _)) (pss_one (ps_ret (pe_ix ix_list (pv 1) pe_int (fun _ _ => rfl)))) pss_nil) (pss_one (ps_ret (pe_tup (pa_cons (pv 0) (pa_cons (pe_tupleOf rfl mt (pv 1)) pa_nil))))))), ?_⟩
  refine t_seq ⟨_, rfl, !us.isEmpty, .inl ⟨us, ha, rfl⟩, ?_⟩
  match ps, us, hp with
  | [], us, hp =>
    have hp : us = [] := hp
    subst hp
    exact iffT rfl ⟨_, rfl, q H z (Ext.refl _) hz⟩
  | [p], us, hp =>
    obtain ⟨v, r, rfl, hv, hr'⟩ := hp
    have hr' : r = [] := hr'
    subst hr'
    refine iffF rfl ?_
    refine t_seq ⟨_, rfl, a, _, rfl, .inl ha, rfl, _, rfl, iffT rfl ⟨_, rfl, a, _, _, v, rfl, rfl, ha, rfl, q H v (Ext.refl _) hv⟩⟩
  | p :: p' :: ps, us, hp =>
    have hl := hp.len
    have hne : us.isEmpty = false := by cases us with
      | nil => simp at hl
      | cons _ _ => rfl
    refine iffF (by rw [hne]; rfl) ?_
    refine t_seq ⟨_, rfl, a, _, rfl, .inl ha, rfl, _, rfl, iffF ?_ ⟨_, rfl, _, rfl, .inl ⟨a, us, rfl, ha, fun b xb => ⟨show 2 ≤ sizeLine by decide, fun c xc => ?_⟩⟩⟩⟩
    · rw [dec_int, hl]; exact beq_eq_false_iff_ne.mpr (by simp only [List.length_cons]; omega)
    have e1 := Ext.new (o := .tup us) xb
    have e2 := Ext.new (o := .tup [V.str kd, V.ref b]) xc
    exact q _ (.ref c) (e1.trans e2) (hk.make (SqT.of upd_same) (e2.tup upd_same) (PatsQ.ext (e1.trans e2) _ _ hp))
theorem sd_ok {f : Addr} {fd : FuncData} (S : Std K mg "spread" sSpread ["kind", "parts"] f fd) : FnOk P w K mg base CX0 1 f fd ["kind", "parts"] (spSd K) := by
  refine okD S.F scSd (fun vs H Q E h => ?_) (fun cdv A outer s H vs Q E hr h => ?_)
  · obtain ⟨kd, mk, f, a, us, ps, rfl, _⟩ := h
    rfl
  obtain ⟨kd, mk, f, a, us, ps, rfl, hk, ha, hp, hz, q⟩ := h
  refine ⟨_, (pss_cons (ps_set (i := 2) scSd.nd rfl (Or.inl rfl) (pe_lst pa_nil)) (pss_cons (ps_for PassesOwn.never rfl (pi_list (pv 1)) (pg_name (i := 3) scSd.nd rfl (Or.inl rfl))
      (pss_one (ps_if (pt_cmpR op_eq (pe_ix ix_tup (pv 3) pe_int (fun _ _ => rfl)) (pv 0) (by rfl))
        (pss_one (ps_expr (pe_bm PySem.F.plainAttrs_list PySem.F.slot_list_extend PySem.F.type_list_extend mt_extT (pv 2) (pa_cons (pe_ix ix_tup (pv 3) pe_int (fun _ _ => rfl)) pa_nil))))
        (pss_one (ps_expr (pe_bm PySem.F.plainAttrs_list PySem.F.slot_list_append PySem.F.type_list_append mt_append (pv 2) (pa_cons (pv 3) pa_nil))))))) (pss_one (ps_ret (pv 2))))), ?_⟩
  refine t_set ⟨Nat.zero_le _, fun D hD => ?_⟩
  refine t_seq ⟨_, rfl, a, rfl, ⟨us, (Ext.new hD).sqL ha⟩, ?_⟩
  refine for_list (K := K) (a := a) (xs := us) (fun i σ' H' => ∃ o3 ws, σ' = [some (.str kd), some (.ref a), some (.ref D), o3] ∧ Ext H H' ∧ H' D = some (.lst ws) ∧ PatsQ K H' (spread f (ps.take i)) ws) ?_ ?_ ?_ ?_
  · exact ⟨none, [], rfl, (Ext.refl _).wr hD, upd_same, rfl⟩
  · rintro i σ' H' _ ⟨o3, ws, _, e, _⟩
    exact e.sqL ha
  · rintro i v σ' H' hv ⟨o3, ws, rfl, e, hw, hs⟩
    obtain ⟨p, hpi, hpv⟩ := hp.get hv
    have hpv := PatQ.ext e p v hpv
    have fl := flat_le (f := f) (ps := ps) (i + 1)
    rw [take_flat hpi, List.length_append] at fl
    have ll := line_le
    have hl := hs.len
    obtain ⟨c, xs, rfl, hc⟩ := hpv.hd
    refine q_ix 0 rfl hc rfl ⟨_, rfl, rfl, _, rfl, ?_⟩
    have e0 : decide (V.str p.kind = V.str kd) = decide (p.kind = kd) := by rw [dec_str, Bool.beq_eq_decide_eq]
    rw [e0]
    by_cases hkd : p.kind = kd
    · obtain ⟨c', b, us', ec, hcb, hb, hps⟩ := hk.take hpv hkd
      cases ec
      have hl' := hps.len
      refine iffT (decide_eq_true hkd) ⟨_, rfl, .inl ⟨rfl, _, SqL.of hw⟩, q_ix 1 rfl hcb rfl ⟨D, b, ws, us', rfl, rfl, hw, SqT.of hb, by omega, ?_⟩⟩
      have e' := e.wr (o := .lst (ws ++ us')) hD
      have e2 : Tup H' (upd H' D (.lst (ws ++ us'))) := .wr hw
      exact ⟨_, _, rfl, e', upd_same, by rw [take_flat hpi]; exact (hs.tups e2).append (hps.tups e2)⟩
    · have e2 : Tup H' (upd H' D (.lst (ws ++ [V.ref c]))) := .wr hw
      have hf := hk.leave hkd
      rw [hf, List.length_singleton] at fl
      refine iffF (decide_eq_false hkd) ⟨_, rfl, .inl ⟨rfl, _, SqL.of hw⟩, _, rfl, D, _, _, rfl, rfl, hw, by omega, ?_⟩
      exact ⟨_, _, rfl, e.wr hD, upd_same, by rw [take_flat hpi, hf]; exact (hs.tups e2).append (PatsQ.one (hpv.tups e2))⟩
  · rintro σ' H' ⟨o3, ws, rfl, e, hw, hs⟩
    rw [hp.len, List.take_length] at hs
    exact ⟨_, rfl, q D H' ws e hD hw hs⟩
/-- covers, asked with the depth that stands as its default -/
theorem id_cv {T : Tz} {vs : List V} {H : Hp} {Q : VK} {E : XK} (h : spId K T c8 vs H Q E) : spCv K T.te T.cv T.mc T.rc 9 (vs ++ [.int 8]) H Q E := by
  obtain ⟨x, y, p, q, rfl, hx, hy, hT, k⟩ := h
  exact ⟨x, y, p, q, 8, rfl, hx, hy, by decide, hT.c, k⟩
/-- covers as it is asked for by its name -/
structure Cov (P : Program) (w : World) (K : PySem.W.Frag) (mg : Str → Option Value) (base : Heap) (T : Tz) : Prop where
  ex : Cal P w K mg base 96 "covers" ["big", "small", "depth"] [.int 8] (spCv K T.te T.cv T.mc T.rc 9)
theorem id_call {T : Tz} {vs : List V} {H : Hp} {Q : VK} {x y : V} {p q : Pat} (e : vs = [x, y]) (hx : Ok K H p x) (hy : Ok K H q y) (hT : Tbl H T) (k : ∀ H', Ext H H' → Q (.bl (c8 p q)) H') : spCv K T.te T.cv T.mc T.rc 9 (vs ++ [.int 8]) H Q E0 :=
  id_cv ⟨x, y, p, q, e, hx, hy, hT, k⟩
theorem co_ok {f : Addr} {fd : FuncData} {T : Tz} (S : Std K mg "covered" sCovered ["small", "big"] f fd) (Vc : Cov P w K mg base T) : FnOk P w K mg base CX0 97 f fd ["small", "big"] (spId K T fun s b => c8 b s) := by
  obtain ⟨g, gd, ds, G, bG, vd, kG, mG⟩ := Vc.ex
  refine okD S.F scCo (fun vs H Q E h => ?_) (fun cdv A outer s H vs Q E hr h => ?_)
  · obtain ⟨x, y, p, q, rfl, _⟩ := h
    rfl
  obtain ⟨x, y, p, q, rfl, hx, hy, hT, k⟩ := h
  refine ⟨_, (pss_one (ps_ret (pe_call G hr rfl mG kG bG vd pass0 (pa_cons (pv 1) (pa_cons (pv 0) pa_nil))))), ?_⟩
  exact ⟨_, rfl, _, rfl, id_call rfl hy hx hT k⟩
theorem ta_ok {f : Addr} {fd : FuncData} {T : Tz} {aA aN aE : Addr} (S : Std K mg "takes_along" sTakesAlong ["greedy", "part"] f fd) (Vc : Cov P w K mg base T) (TE : Cal P w K mg base 60 "takes_empty" ["pattern"] [] (spTE K 30 T.te)) (C : Consts K mg aA aN aE) : FnOk P w K mg base CX0 97 f fd ["greedy", "part"] (spId K T along) := by
  obtain ⟨g, gd, ds, G, bG, vd, kG, mG⟩ := Vc.ex
  obtain ⟨t, td, ds', Gt, bt, vt, kt, mt⟩ := TE
  refine okD S.F scTA (fun vs H Q E h => ?_) (fun cdv A outer s H vs Q E hr h => ?_)
  · obtain ⟨x, y, p, q, rfl, _⟩ := h
    rfl
  obtain ⟨x, y, p, q, rfl, hx, hy, hT, k⟩ := h
  have hu := Nat.lt_of_le_of_lt (Nat.add_le_add_left (show 300 ≤ 16 * 96 + 200 by omega) _) (Nat.lt_of_le_of_lt (Nat.le_of_eq (Nat.add_assoc _ (16 * 96) 200).symm) hr.un)
  refine ⟨_, (pss_cons (ps_if (PW.pt (pw_and (pt_cmpR op_ne (pe_ix ix_tup (pv 0) pe_int (fun _ _ => rfl)) pe_str (nomark _)) (pw_and1 (pt_cmpR (op_neQ hu) (pv 0) (pe_glob rfl C.mA (v := .ref aA) rfl) (by rfl))))) (pss_one (ps_ret pe_bl)) pss_nil) (pss_one (ps_ret (pe_and (pe_call Gt (hr.mono (by decide)) rfl mt kt bt vt pass0 (pa_cons (pv 1) pa_nil)) (pe_one (pe_call G hr rfl mG kG bG vd pass0 (pa_cons (pv 0) (pa_cons (pv 1) pa_nil)))))))), ?_⟩
  obtain ⟨a, xs, rfl, ha⟩ := hx.at_.hd
  have rest : isMany p = true ∨ p = ALL → tRet (tAndV (tCall (spTE K 30 T.te) [] E0 (tCons (tVar 1) tNil)) (tCall (spCv K T.te T.cv T.mc T.rc 9) [.int 8] E0 (tCons (tVar 0) (tCons (tVar 1) tNil)))) { nx := fun _ H' => Q .non H', rt := Q } [some (.ref a), some y] H := by
    intro hm
    have ea : along p q = (nullb q && c8 p q) := by
      unfold along
      rcases hm with h | h
      · rw [h, Bool.true_or, Bool.true_and]
      · rw [decide_eq_true h, Bool.or_true, Bool.true_and]
    rw [ea] at k
    refine ⟨_, rfl, y, q, rfl, hy.at_, hy.dep, hT.c.te, fun H1 e1 => ⟨_, rfl, ?_⟩⟩
    cases hn : nullb q with
    | true =>
      rw [hn, Bool.true_and] at k
      exact iffT rfl ⟨_, rfl, _, rfl, id_call rfl (hx.ext e1) (hy.ext e1) (hT.ext e1) fun H2 e2 => k H2 (e1.trans e2)⟩
    | false =>
      rw [hn, Bool.false_and] at k
      exact iffF rfl (k H1 e1)
  refine t_seq (q_ix 0 rfl ha rfl ⟨rfl, _, rfl, ?_⟩)
  have e0 : (!decide (V.str p.kind = V.str "many")) = !decide (p.kind = "many") := by rw [dec_str, Bool.beq_eq_decide_eq]
  rw [e0]
  by_cases hm : isMany p = true
  · have hk : p.kind = "many" := by cases p <;> first | rfl | cases hm
    exact iffF (by rw [decide_eq_true hk]; rfl) (iffF rfl (rest (.inl hm)))
  have hk : p.kind ≠ "many" := kind_neq (i := 2) (by decide) (many_rank hm)
  refine iffT (by rw [decide_eq_false hk]; rfl) ⟨_, rfl, p, ALL, hx.at_, C.hA _, hx.low, trivial, Nat.le_trans hx.dep (by decide), _, rfl, ?_⟩
  by_cases h : p = ALL
  · exact iffF (by rw [decide_eq_true h]; rfl) (rest (.inr h))
  · refine iffT (by rw [decide_eq_false h]; rfl) ?_
    have := k H (Ext.refl _)
    unfold along at this
    rw [Bool.eq_false_iff.mpr hm, decide_eq_false h] at this
    exact this
end
end Bo
set_option Elab.async false
set_option linter.all false
set_option maxRecDepth 100000
set_option maxHeartbeats 8000000
/-! needed -/
namespace Bo
open PySem PySem.Spec PyProof.Rows L2 GE
theorem if_val {te : TE} {t u : TS} {D : Ends} {σ : L2.St} {H : Hp} (h : te σ H fun x H1 => ∃ b, x = .bl b ∧ if b = true then t D σ H1 else u D σ H1) : tIfS (tB te) t u D σ H := h
/-- any, all over a list -/
theorem quant_list {K : PySem.W.Frag} {stopv : Bool} {T a : Addr} {xs : List V} {te : TE} {σ : L2.St} {H1 : Hp} {Q : VK} (h0 : GxR.TabG H1 T) (ha : H1 a = some (.lst xs)) (Pv : Nat → Hp → Prop) (p0 : ∀ H, Ext H1 H → Pv 0 H) (hl : ∀ i H, Pv i H → H a = some (.lst xs))
    (hs : ∀ i v H, xs[i]? = some v → Pv i H → te (σ ++ [some v]) H fun y H3 => ∃ b, y = .bl b ∧ if b = stopv then Q (.bl stopv) H3 else Pv (i + 1) H3) (hd : ∀ H, Pv xs.length H → Q (.bl (!stopv)) H) :
    GxR.TabG H1 T ∧ ∀ H2, GxR.Tabbed T H1 H2 → ∃ W : Nat → Nat → Hp → Prop, (∃ m, W 0 m H2) ∧ ∀ i m H, W i m H →
      ((Itl K a).stop i H ∧ Q (.bl (!stopv)) H) ∨ ((Itl K a).go i H ∧ ∃ Nx : Hp → Prop, (∀ H', Nx H' → ∃ m', m' < m ∧ W (i + 1) m' H') ∧ ∀ v H', (Itl K a).yld i H v H' → te (σ ++ [some v]) H' fun y H3 => ∃ b, y = .bl b ∧ if b = stopv then Q (.bl stopv) H3 else Nx H3) := by
  refine ⟨h0, fun H2 hT => ⟨fun i m H => i ≤ xs.length ∧ m = xs.length - i ∧ Pv i H, ⟨xs.length, Nat.zero_le _, rfl, p0 H2 (Ext.tabbed h0 hT)⟩, ?_⟩⟩
  rintro i m H ⟨hi, rfl, p⟩
  have q := hl i H p
  by_cases hlt : i < xs.length
  · refine .inr ⟨⟨xs, xs[i], SqL.of q, by simp [hlt]⟩, Pv (i + 1), fun H' p' => ⟨xs.length - (i + 1), by omega, hlt, rfl, p'⟩, fun v H' y => ?_⟩
    obtain ⟨e, y⟩ := y
    subst e
    exact hs i v H' (y xs (SqL.of q)) p
  · have e : i = xs.length := by omega
    subst e
    exact .inl ⟨⟨xs, SqL.of q, Nat.le_refl _⟩, hd H p⟩
section
variable {K : PySem.W.Frag} {T a : Addr} {ps : List Pat} {us : List V} {te : TE} {σ : L2.St} {H : Hp} {Q : VK}
theorem any_list (f : Pat → Bool) {i : Nat} (h0 : σ[i]? = some (some (.ref a))) (ha : H a = some (.lst us)) (hps : PatsQ K H ps us) (hT : GxR.TabG H T)
    (hs : ∀ p ∈ ps, ∀ v H', PatQ K H' p v → Ext H H' → ∀ Q' : VK, (∀ H'', Ext H' H'' → Q' (.bl (f p)) H'') → te (σ ++ [some v]) H' Q') (q : ∀ H', Ext H H' → Q (.bl (ps.any f)) H') : tQuant true T (iList K (tVar i)) te σ H Q := by
  refine ⟨_, h0, a, rfl, ⟨us, SqL.of ha⟩, ?_⟩
  refine quant_list hT ha (fun i H' => Ext H H' ∧ (ps.take i).any f = false) (fun H' e => ⟨e, rfl⟩) (fun i H' p => p.1.lst ha) ?_ ?_
  · rintro i v H' hv ⟨e, hall⟩
    obtain ⟨p, hp, hpv⟩ := hps.get hv
    refine hs p (List.mem_of_getElem? hp) v H' (PatQ.ext e p v hpv) e _ fun H2 e2 => ⟨_, rfl, ?_⟩
    cases hn : f p with
    | true =>
      rw [if_pos rfl]
      have : ps.any f = true := List.any_eq_true.mpr ⟨p, List.mem_of_getElem? hp, hn⟩
      rw [this] at q
      exact q _ (e.trans e2)
    | false =>
      rw [if_neg (by decide)]
      exact ⟨e.trans e2, by rw [take_anyF hp, hall, hn]; rfl⟩
  · rintro H' ⟨e, hall⟩
    rw [hps.len, List.take_length] at hall
    rw [hall] at q
    exact q _ e
theorem take_filt {f : Pat → Bool} {ps : List Pat} {i : Nat} {p : Pat} (h : ps[i]? = some p) : (ps.take (i + 1)).filter f = (ps.take i).filter f ++ (if f p = true then [p] else []) := by
  rw [List.take_succ, h, List.filter_append]
  congr 1
  by_cases e : f p = true
  · rw [if_pos e]; simp [e]
  · rw [if_neg e]; simp [e]
/-- [x for x in xs if f(x)]: what is kept -/
theorem keep_list (f : Pat → Bool) {j : Nat} {tl : TE} {tt : L2.TT} (hz : ps.length < sizeLine) (hw : ∀ v : V, ((wipe σ [j]).set j (some v))[j]? = some (some v) ∧ wipe ((wipe σ [j]).set j (some v)) [j] = wipe σ [j])
    (hl : ∀ R : VK, (∀ a us H1, Ext H H1 → H1 a = some (.lst us) → PatsQ K H1 ps us → R (.ref a) H1) → tl σ H R)
    (hs : ∀ p ∈ ps, ∀ v H', PatQ K H' p v → Ext H H' → ∀ Q' : Bool → Hp → Prop, (∀ H'', Ext H' H'' → Q' (f p) H'') → tt ((wipe σ [j]).set j (some v)) H' Q')
    (q : ∀ r H' ws, Ext H H' → H r = none → H' r = some (.lst ws) → PatsQ K H' (ps.filter f) ws → Q (.ref r) H') : tLc (iList K tl) (gName j) tt (tVar j) [j] σ H Q := by
  refine hl _ fun a us H1 e1 ha hps => ⟨a, rfl, ⟨us, SqL.of ha⟩, fun D hD => ?_⟩
  have hD0 : H D = none := e1.free hD
  refine lc_list (K := K) (a := a) (xs := us) (fun m H' => Ext H1 H' ∧ ∃ ws, H' D = some (.lst ws) ∧ PatsQ K H' ((ps.take m).filter f) ws) ⟨(Ext.refl _).wr hD, [], upd_same, rfl⟩ (fun m H' _ s => SqL.of (s.1.lst ha)) ?_ ?_
  · rintro m v H' hv ⟨e, ws, hw', hs'⟩
    obtain ⟨p, hp, hpv⟩ := hps.get hv
    have hpv := PatQ.ext e p v hpv
    refine ⟨(hw v).2, hs p (List.mem_of_getElem? hp) v H' hpv (e1.trans e) _ fun H2 e2 => ?_⟩
    have l1 := (PatsQ.ext e2 _ _ hs').len
    have l2 := List.length_filter_le f (ps.take m)
    have l3 : m < ps.length := (List.getElem?_eq_some_iff.mp hp).1
    rw [List.length_take] at l2
    cases hf : f p with
    | true =>
      refine iffT rfl ⟨v, (hw v).1, ws, e2.lst hw', by omega, (e.trans e2).wr hD, _, upd_same, ?_⟩
      have t2 : Tup H2 (upd H2 D (.lst (ws ++ [v]))) := .wr (e2.lst hw')
      rw [take_filt hp, if_pos hf]
      exact ((PatsQ.ext e2 _ _ hs').tups t2).append (PatsQ.one ((PatQ.ext e2 _ _ hpv).tups t2))
    | false =>
      refine iffF rfl ⟨e.trans e2, ws, e2.lst hw', ?_⟩
      rw [take_filt hp, if_neg (by rw [hf]; decide), List.append_nil]
      exact PatsQ.ext e2 _ _ hs'
  · rintro H' ⟨e, ws, hw', hs'⟩
    rw [hps.len, List.take_length] at hs'
    exact q D H' ws (e1.trans e) hD0 hw' hs'
end
def spNd (K : PySem.W.Frag) (T : Tz) (S : Addr → (Pat → Pat → Bool) → Prop) : Sp := fun vs H Q _ => ∃ (a : Addr) (us : List V) (ps : List Pat) (fa : Addr) (idle : Pat → Pat → Bool), vs = [.ref a, .ref fa] ∧ S fa idle ∧ SqL K H a us ∧ Okl K H ps us ∧ ps.length ≤ lineB ∧ Tbl H T ∧
  ∀ r H' ws, Ext H H' → H r = none → H' r = some (.lst ws) → PatsQ K H' (needed idle ps) ws → Q (.ref r) H'
theorem foldl_take {idle : Pat → Pat → Bool} {ps : List Pat} {i : Nat} {p : Pat} (h : ps[i]? = some p) : (ps.take (i + 1)).foldl (step idle) [] = step idle ((ps.take i).foldl (step idle) []) p := by
  rw [List.take_succ, h, List.foldl_append]; rfl
theorem step_len (idle : Pat → Pat → Bool) (k : List Pat) (p : Pat) : (step idle k p).length ≤ k.length + 1 := by
  unfold step
  split
  · exact Nat.le_succ _
  · rw [List.length_append]; exact Nat.succ_le_succ (List.length_filter_le _ _)
theorem fold_len (idle : Pat → Pat → Bool) : ∀ (ps k : List Pat), (ps.foldl (step idle) k).length ≤ k.length + ps.length
  | [], k => Nat.le_refl _
  | p :: ps, k => by
    have := fold_len idle ps (step idle k p)
    have := step_len idle k p
    show (ps.foldl (step idle) (step idle k p)).length ≤ k.length + (ps.length + 1)
    omega
section
variable {P : Program} {w : World} {K : PySem.W.Frag} {mg : Str → Option Value} {base : Heap}
theorem scNd : FnScope ["parts", "idle", "kept", "part", "other"] ["parts", "idle"] (defScope sNeeded) := ⟨rfl, rfl, rfl, by decide +kernel, rfl, by decide +kernel, by decide +kernel⟩
theorem nd_ok {f : Addr} {fd : FuncData} {c : Addr} {T : Tz} {S : Addr → (Pat → Pat → Bool) → Prop} (St : Std K mg "needed" sNeeded ["parts", "idle"] f fd) (hc : fd.code = .ref c) (TB : GxR.TabB base mg c T.ne) (A : ∀ g z, S g z → HeldD P w K mg base 97 g (spId K T z)) (ma : mg "any" = none) (ms : mg "sorted" = none) :
    FnOk P w K mg base CX0 99 f fd ["parts", "idle"] (spNd K T S) := by
  refine okC St.F hc scNd (fun vs H Q E h => ?_) (fun A' outer s H vs Q E hr h => ?_)
  · obtain ⟨a, us, ps, fa, idle, rfl, _⟩ := h
    rfl
  obtain ⟨a, us, ps, fa, idle, rfl, hS, ha, hps, hlen, hT, q⟩ := h
  have hu := Nat.lt_of_le_of_lt (Nat.add_le_add_left (show 300 ≤ 16 * 98 + 200 by omega) _) (Nat.lt_of_le_of_lt (Nat.le_of_eq (Nat.add_assoc _ (16 * 98) 200).symm) hr.un)
  refine ⟨_, PSs.nox (pss_cons (ps_set (i := 2) scNd.nd rfl (Or.inl rfl) (pe_lst pa_nil)) (pss_cons (ps_for PassesOwn.never rfl (pi_list (pe_callB (cr_sortQ hu) rfl ms boot_sorted (pa_cons (pv 0) pa_nil))) (pg_name (i := 3) scNd.nd rfl (Or.inr rfl))
      (pss_cons (ps_if (pt_val (pe_named 4 "" (pe_anyE rfl hr rfl ma TB rfl (gsc_by (N := ["parts", "idle", "kept", "part", ""]) (sc := defScope sNeeded) (by decide +kernel)) (pi_list (pv 2))
          (fun s H C code fp => pe_callD (i := 1) A (Room.gen hr _) rfl (.inr (.inr rfl)) (pa_cons (pv 3) (pa_cons (pv 5) pa_nil)) (mono_cons (mono_cons mono_nil))) (fun _ => rfl)) (show visC (defScope sNeeded) "" = false by decide +kernel) (fun y e => by cases (Option.some.inj e); exact (show visC (defScope sNeeded) "other" = false by decide +kernel)))) (pss_one ps_continue) pss_nil) (pss_cons (ps_setLc (i := 2) (own := [("other", 4)]) (g := gName 4) (tt := tNot (tB (tCallD 1 S (spId K T) (tCons (tVar 4) (tCons (tVar 3) tNil))))) (te := tVar 4) rfl scNd.nd rfl rfl (sw_true rfl rfl rfl (by decide +kernel)) (pi_list (pv 2))
          (blkOk_by (N := ["parts", "idle", "kept", "part", "other"]) (sc := defScope sNeeded) (by decide +kernel)) (fun _ _ _ _ _ => pg_name (i := 4) scNd.nd rfl (Or.inl rfl) (Or.inr rfl))
          (fun _ _ _ _ _ => pts_one (pt_not (pt_val (pe_callD (i := 1) A (hr.mono (by decide)) rfl (.inr (.inl rfl)) (pa_cons (pv 4) (pa_cons (pv 3) pa_nil)) (mono_cons (mono_cons mono_nil)))))) (fun _ _ _ _ _ => pv 4)) (pss_one (ps_expr (pe_bm PySem.F.plainAttrs_list PySem.F.slot_list_append PySem.F.type_list_append mt_append (pv 2) (pa_cons (pv 3) pa_nil))))))) (pss_one (ps_ret (pv 2))))), ?_⟩
  have ll := line_le
  have hlen' : (srt ps).length = ps.length := (srt_perm ps).length_eq
  refine t_set ⟨Nat.zero_le _, fun D hD => ?_⟩
  have eD := Ext.new (o := .lst ([] : List V)) hD
  have h0 := hps.ext eD
  refine t_seq ⟨_, rfl, a, us, ps, rfl, eD.sqL ha, h0.at_, SgL_iff.mpr fun p hp => (hps.ok p hp).1, fun p hp => Nat.le_trans (hps.ok p hp).2 (by decide), fun ws l hws hl => ?_⟩
  have el := Ext.new (o := .lst ws) hl
  have okp : ∀ p ∈ srt ps, Sg Low p ∧ p.dep ≤ 30 := fun p hp => hps.ok p (srt_mem.mp hp)
  refine ⟨l, rfl, ⟨ws, SqL.of upd_same⟩, ?_⟩
  have hne : l ≠ D := fun e => by rw [e, upd_same] at hl; cases hl
  refine for_list (K := K) (a := l) (xs := ws) (fun i σ' H' => ∃ o3 o4 k r ks, σ' = [some (.ref a), some (.ref fa), some (.ref r), o3, o4] ∧ k = ((srt ps).take i).foldl (step idle) [] ∧ H r = none ∧ r ≠ l ∧ Ext H H' ∧ H' l = some (.lst ws) ∧ H' r = some (.lst ks) ∧ PatsQ K H' (srt ps) ws ∧ PatsQ K H' k ks) ?_ ?_ ?_ ?_
  · refine ⟨none, none, [], D, [], rfl, rfl, hD, Ne.symm hne, eD.trans el, upd_same, by rw [upd_ne (Ne.symm hne)]; exact upd_same, PatsQ.ext el _ _ hws, rfl⟩
  · rintro i σ' H' _ ⟨o3, o4, k, r, ks, _, _, _, _, _, hl', _⟩
    exact SqL.of hl'
  · rintro i v σ' H' hv ⟨o3, o4, k, r, ks, rfl, ek, hr0, hrl, e, hl', hrk, hsw, hk⟩
    obtain ⟨p, hp, hpv⟩ := hsw.get hv
    have okP := okp p (List.mem_of_getElem? hp)
    have hkm : ∀ o ∈ k, Sg Low o ∧ o.dep ≤ 30 := fun o ho => by
      rw [ek] at ho
      rcases fold_mem _ _ ho with h | h
      · cases h
      · exact okp o (List.mem_of_mem_take h)
    have hkl : k.length ≤ lineB := by
      have := fold_len idle ((srt ps).take i) []
      rw [← ek, List.length_take] at this
      simp only [List.length_nil] at this
      omega
    have il : i < ps.length := by
      have := (List.getElem?_eq_some_iff.mp hp).1
      omega
    have hkl' : k.length ≤ i := by
      have := fold_len idle ((srt ps).take i) []
      rw [← ek, List.length_take] at this
      simp only [List.length_nil] at this
      omega
    have next : ∀ k', step idle k p = k' → ((srt ps).take (i + 1)).foldl (step idle) [] = k' := fun k' h => by rw [foldl_take hp, ← ek]; exact h
    refine t_seq (if_val ?_)
    refine any_list (fun o => idle p o) rfl hrk hk (hT.ext e).ne (fun o ho u H2 hu e2 Q' k' => ⟨fa, idle, rfl, hS, _, rfl, _, rfl, v, u, p, o, rfl, ⟨PatQ.ext e2 _ _ hpv, okP.1, okP.2⟩, ⟨hu, (hkm o ho).1, (hkm o ho).2⟩, hT.ext (e.trans e2), k'⟩) ?_
    intro H2 e2
    refine ⟨_, rfl, ?_⟩
    cases hany : k.any (fun o => idle p o) with
    | true =>
      refine iffT rfl ⟨_, _, k, r, ks, rfl, (next k (by unfold step; rw [if_pos hany])).symm, hr0, hrl, e.trans e2, e2.lst hl', e2.lst hrk, PatsQ.ext e2 _ _ hsw, PatsQ.ext e2 _ _ hk⟩
    | false =>
    refine iffF rfl ?_
    dsimp only [tNext]
    refine t_set ?_
    refine keep_list (K := K) (ps := k) (fun o => !idle o p) (by omega) (fun _ => ⟨rfl, rfl⟩) (fun R hR => ⟨_, rfl, hR r ks H2 (Ext.refl _) (e2.lst hrk) (PatsQ.ext e2 _ _ hk)⟩) (fun o ho u H3 hu e3 Q' k' => ?_) (fun r2 H3 ks2 e3 hr2 hk2 hps2 => ?_)
    · exact ⟨fa, idle, rfl, hS, _, rfl, _, rfl, u, v, o, p, rfl, ⟨hu, (hkm o ho).1, (hkm o ho).2⟩, ⟨PatQ.ext (e2.trans e3) _ _ hpv, okP.1, okP.2⟩, hT.ext (e.trans (e2.trans e3)), fun H4 e4 => ⟨_, rfl, k' H4 e4⟩⟩
    have hne2 : r2 ≠ l := fun h => by rw [h, e2.lst hl'] at hr2; cases hr2
    have hl2 := hps2.len
    have hl3 := List.length_filter_le (fun o => !idle o p) k
    refine ⟨_, rfl, .inl ⟨rfl, _, SqL.of hk2⟩, _, rfl, r2, _, _, rfl, rfl, hk2, by omega, ?_⟩
    have t2 : Tup H3 (upd H3 r2 (.lst (ks2 ++ [v]))) := .wr hk2
    have e4 := e.trans (e2.trans e3)
    refine ⟨_, _, _, r2, ks2 ++ [v], rfl, (next (k.filter (fun o => !idle o p) ++ [p]) (by unfold step; rw [if_neg (by rw [hany]; decide)])).symm, (e.trans e2).free hr2, hne2, e4.wr ((e.trans e2).free hr2), ?_, upd_same, (PatsQ.ext (e2.trans e3) _ _ hsw).tups t2, (hps2.tups t2).append (PatsQ.one ((PatQ.ext (e2.trans e3) _ _ hpv).tups t2))⟩
    rw [upd_ne (Ne.symm hne2)]; exact (e2.trans e3).lst hl'
  · rintro σ' H' ⟨o3, o4, k, r, ks, rfl, ek, hr0, _, e, _, hrk, hsw, hk⟩
    rw [hws.len, List.take_length] at ek
    refine ⟨_, rfl, q r H' ks e hr0 hrk ?_⟩
    rw [ek] at hk; exact hk
end
end Bo
set_option Elab.async false
set_option linter.all false
set_option maxRecDepth 100000
set_option maxHeartbeats 8000000
/-! shortened -/
namespace Bo
open PySem PySem.Spec PyProof.Rows L2 GE
def spSh (K : PySem.W.Frag) (T : Tz) : Sp := fun vs H Q _ => ∃ (a : Addr) (us : List V) (ps : List Pat), vs = [.ref a] ∧ SqL K H a us ∧ Okl K H ps us ∧ ps.length ≤ lineB ∧ Tbl H T ∧
  ∀ r H' ws, Ext H H' → H r = none → H' r = some (.lst ws) → PatsQ K H' (shortened ps) ws → Q (.ref r) H'
theorem foldS_take {ps : List Pat} {i : Nat} {p : Pat} (h : ps[i]? = some p) : (ps.take (i + 1)).foldl stepS [] = stepS ((ps.take i).foldl stepS []) p := by
  rw [List.take_succ, h, List.foldl_append]; rfl
theorem foldS_mem : ∀ (ps st : List Pat) {q : Pat}, q ∈ ps.foldl stepS st → q ∈ st ∨ q ∈ ps
  | [], st, q, h => .inl h
  | p :: ps, st, q, h => by
    rcases foldS_mem ps (stepS st p) h with h | h
    · rcases stepS_mem h with h | h
      · exact .inl h
      · exact .inr (h ▸ List.mem_cons_self)
    · exact .inr (List.mem_cons_of_mem _ h)
theorem foldS_len : ∀ (ps st : List Pat), (ps.foldl stepS st).length ≤ st.length + ps.length
  | [], st => Nat.le_refl _
  | p :: ps, st => by
    have := foldS_len ps (stepS st p)
    have := stepS_len st p
    show (ps.foldl stepS (stepS st p)).length ≤ st.length + (ps.length + 1)
    omega
theorem stepS_pop {st : List Pat} {p : Pat} (h : ∀ t r, st = t :: r → along t p = false) : stepS st p = p :: popW p st := by
  cases st with
  | nil => rfl
  | cons t r => unfold stepS; simp only [h t r rfl, Bool.false_eq_true, if_false]
/-- the last one of a row of values -/
theorem last_of {K : PySem.W.Frag} {H : Hp} {t : Pat} {st : List Pat} {ks : List V} (h : PatsQ K H (t :: st).reverse ks) : ∃ us v, ks = us ++ [v] ∧ PatsQ K H st.reverse us ∧ PatQ K H t v := by
  rw [List.reverse_cons] at h
  obtain ⟨us, ws, e, h1, v, r, e2, h2, h3⟩ := h.cut
  have h3 : r = [] := h3
  subst h3 e2
  exact ⟨us, v, e, h1, h2⟩
/-- kept and f(kept's last one) -/
theorem look_kept {K : PySem.W.Frag} {D : Addr} {ks : List V} {st : List Pat} {σ : L2.St} {H : Hp} {te : TE} {X : Bool → Hp → Prop} (f : Pat → Bool) (h1 : σ[1]? = some (some (.ref D))) (hk : H D = some (.lst ks)) (hs : PatsQ K H st.reverse ks)
    (call : ∀ t r us u, st = t :: r → ks = us ++ [u] → PatQ K H t u → ∀ Q' : VK, (∀ H1, Ext H H1 → Q' (.bl (f t)) H1) → te σ H Q') (hT : ∀ t r H1, st = t :: r → f t = true → Ext H H1 → X true H1)
    (hF : ∀ H1, (∀ t r, st = t :: r → f t = false) → Ext H H1 → X false H1) : tAnd (fun σ H Q => tVar 1 σ H fun x H' => ∃ k, TruV K x H' k ∧ Q k H') (tB te) σ H X := by
  refine ⟨_, h1, !ks.isEmpty, .inl ⟨ks, SqL.of hk, rfl⟩, ?_⟩
  cases st with
  | nil =>
    have hs : ks = [] := hs
    subst hs
    exact iffF rfl (hF H (fun t r h => by cases h) (Ext.refl _))
  | cons t r =>
    obtain ⟨us, u, rfl, hus, hu⟩ := last_of hs
    refine iffT (by simp) (call t r us u rfl rfl hu _ fun H1 e1 => ⟨_, rfl, ?_⟩)
    cases hf : f t with
    | true => exact hT t r H1 rfl hf e1
    | false => exact hF H1 (fun t' r' h => by cases h; exact hf) e1
section
variable {P : Program} {w : World} {K : PySem.W.Frag} {mg : Str → Option Value} {base : Heap}
theorem scSh : FnScope ["parts", "kept", "part"] ["parts"] (defScope sShortened) := ⟨rfl, rfl, rfl, by decide +kernel, rfl, by decide +kernel, by decide +kernel⟩
theorem sh_ok {f : Addr} {fd : FuncData} {T : Tz} (St : Std K mg "shortened" sShortened ["parts"] f fd) (TA : Cal P w K mg base 97 "takes_along" ["greedy", "part"] [] (spId K T along)) :
    FnOk P w K mg base CX0 98 f fd ["parts"] (spSh K T) := by
  obtain ⟨g, gd, ds, G, bG, vG, kG, mG⟩ := TA
  refine okD St.F scSh (fun vs H Q E h => ?_) (fun cdv A outer s H vs Q E hr h => ?_)
  · obtain ⟨a, us, ps, rfl, _⟩ := h
    rfl
  obtain ⟨a, us, ps, rfl, ha, hps, hlen, hT, q⟩ := h
  refine ⟨_, (pss_cons (ps_set (i := 1) scSh.nd rfl (Or.inl rfl) (pe_lst pa_nil)) (pss_cons (ps_for PassesOwn.never rfl (pi_list (pv 0)) (pg_name (i := 2) scSh.nd rfl (Or.inl rfl))
      (pss_cons (ps_if (PW.pt (pw_and (pt_truth (pv 1) (by intro _; rfl)) (pw_and1 (pt_val (pe_call G hr rfl mG kG bG vG pass0 (pa_cons (pe_ix ix_list (pv 1) (pe_un un_neg pe_int) (fun _ _ => rfl)) (pa_cons (pv 2) pa_nil))))))) (pss_one ps_continue) pss_nil) (pss_cons (ps_while PassesOwn.never (PW.pt (pw_and (pt_truth (pv 1) (by intro _; rfl)) (pw_and1 (pt_val (pe_call G hr rfl mG kG bG vG pass0 (pa_cons (pv 2) (pa_cons (pe_ix ix_list (pv 1) (pe_un un_neg pe_int) (fun _ _ => rfl)) pa_nil)))))))
          (pss_one (ps_expr (pe_bm0 PySem.F.plainAttrs_list PySem.F.slot_list_pop PySem.F.type_list_pop mt_pop (pv 1))))) (pss_one (ps_expr (pe_bm PySem.F.plainAttrs_list PySem.F.slot_list_append PySem.F.type_list_append mt_append (pv 1) (pa_cons (pv 2) pa_nil))))))) (pss_one (ps_ret (pv 1))))), ?_⟩
  have ll := line_le
  refine t_set ⟨Nat.zero_le _, fun D hD => ?_⟩
  refine t_seq ⟨_, rfl, a, rfl, ⟨us, (Ext.new hD).sqL ha⟩, ?_⟩
  refine for_list (K := K) (a := a) (xs := us) (fun i σ' H' => ∃ o2 st ks, σ' = [some (.ref a), some (.ref D), o2] ∧ st = (ps.take i).foldl stepS [] ∧ Ext H H' ∧ H' D = some (.lst ks) ∧ PatsQ K H' st.reverse ks) ⟨none, [], [], rfl, rfl, (Ext.refl _).wr hD, upd_same, rfl⟩ (fun i σ' H' _ ⟨_, _, _, _, _, e, _⟩ => e.sqL ha) ?_ ?_
  · rintro i v σ' H' hv ⟨o2, st, ks, rfl, est, e, hk, hs⟩
    obtain ⟨p, hp, hpv0⟩ := hps.at_.get hv
    have hpv := PatQ.ext e p v hpv0
    have okP := hps.ok p (List.mem_of_getElem? hp)
    have okS : ∀ t ∈ st, Sg Low t ∧ t.dep ≤ 30 := fun t ht => by
      rw [est] at ht
      rcases foldS_mem _ _ ht with h | h
      · cases h
      · exact hps.ok t (List.mem_of_mem_take h)
    have il : i < ps.length := (List.getElem?_eq_some_iff.mp hp).1
    have sl : st.length ≤ i := by
      have := foldS_len (ps.take i) []
      rw [← est, List.length_take] at this
      simp only [List.length_nil] at this
      omega
    have next : ∀ st', stepS st p = st' → (ps.take (i + 1)).foldl stepS [] = st' := fun st' h => by rw [foldS_take hp, ← est]; exact h
    refine t_seq (look_kept (K := K) (fun t => along t p) rfl hk hs (fun t r us' u est' eks hu' Q' k' => ?_) (fun t r H1 est' hal e1 => iffT rfl ?_) (fun H1 hal e1 => iffF rfl ?_))
    · have okT := okS t (est' ▸ List.mem_cons_self)
      exact ⟨_, rfl, 1, rfl, D, ks, -1, u, rfl, rfl, SqL.of hk, eks ▸ atI_last us' u, v, rfl, u, v, t, p, rfl, ⟨hu', okT.1, okT.2⟩, ⟨hpv, okP.1, okP.2⟩, hT.ext e, k'⟩
    · refine ⟨_, st, ks, rfl, (next st ?_).symm, e.trans e1, e1.lst hk, PatsQ.ext e1 _ _ hs⟩
      rw [est']; unfold stepS; simp only [hal, if_true]
    dsimp only [tNext]
    have app : ∀ H2 ks2, Ext H H2 → H2 D = some (.lst ks2) → PatsQ K H2 (popW p st).reverse ks2 → ∃ o2 st' ks', [some (V.ref a), some (V.ref D), some v] = [some (V.ref a), some (V.ref D), o2] ∧ st' = (ps.take (i + 1)).foldl stepS [] ∧ Ext H (upd H2 D (.lst (ks2 ++ [v]))) ∧ (upd H2 D (.lst (ks2 ++ [v]))) D = some (.lst ks') ∧ PatsQ K (upd H2 D (.lst (ks2 ++ [v]))) st'.reverse ks' := by
      intro H2 ks2 e2 hk2 hs2
      have t2 : Tup H2 (upd H2 D (.lst (ks2 ++ [v]))) := .wr hk2
      refine ⟨_, p :: popW p st, ks2 ++ [v], rfl, (next _ (stepS_pop hal)).symm, e2.wr hD, upd_same, ?_⟩
      rw [List.reverse_cons]
      exact (hs2.tups t2).append (PatsQ.one ((PatQ.ext e2 _ _ hpv0).tups t2))
    refine t_seq ⟨fun m σ' H2 => ∃ st2 ks2, σ' = [some (.ref a), some (.ref D), some v] ∧ m = st2.length ∧ popW p st2 = popW p st ∧ (∀ t ∈ st2, t ∈ st) ∧ Ext H H2 ∧ H2 D = some (.lst ks2) ∧ PatsQ K H2 st2.reverse ks2,
      ⟨st.length, st, ks, rfl, rfl, rfl, fun _ h => h, e.trans e1, e1.lst hk, PatsQ.ext e1 _ _ hs⟩, ?_⟩
    rintro m σ' H2 ⟨st2, ks2, rfl, rfl, hpop, hmem, e2, hk2, hs2⟩
    have hpv2 := PatQ.ext e2 p v hpv0
    refine look_kept (K := K) (fun t => along p t) rfl hk2 hs2 (fun t r us' u est' eks hu' Q' k' => ?_) (fun t r H3 est' hal' e3 => iffT rfl ?_) (fun H3 hal' e3 => iffF rfl ?_)
    · have okT := okS t (hmem t (est' ▸ List.mem_cons_self))
      exact ⟨v, rfl, _, rfl, 1, rfl, D, ks2, -1, u, rfl, rfl, SqL.of hk2, eks ▸ atI_last us' u, v, u, p, t, rfl, ⟨hpv2, okP.1, okP.2⟩, ⟨hu', okT.1, okT.2⟩, hT.ext e2, k'⟩
    · subst est'
      obtain ⟨us', u, rfl, hus, hu'⟩ := last_of hs2
      refine ⟨fun σ' H4 => ∃ ks3, σ' = [some (.ref a), some (.ref D), some v] ∧ Ext H H4 ∧ H4 D = some (.lst ks3) ∧ PatsQ K H4 r.reverse ks3, fun σ' H4 ⟨ks3, e4, e5, h6, h7⟩ => ⟨r.length, Nat.lt_succ_self _, r, ks3, e4, rfl, ?_, fun t' h' => hmem t' (List.mem_cons_of_mem _ h'), e5, h6, h7⟩, ?_⟩
      · rw [← hpop]
        show popW p r = (if along p t = true then popW p r else t :: r)
        rw [if_pos hal']
      · have t3 : Tup H3 (upd H3 D (.lst us')) := .wr (e3.lst hk2)
        refine ⟨_, rfl, .inl ⟨rfl, _, SqL.of (e3.lst hk2)⟩, D, _, u, rfl, rfl, e3.lst hk2, by simp, ?_⟩
        exact ⟨us', rfl, (e2.trans e3).wr hD, by rw [upd_same, List.dropLast_concat], by rw [List.dropLast_concat]; exact (PatsQ.ext e3 _ _ hus).tups t3⟩
    · have hst2 : st2 = popW p st := by
        rw [← hpop]
        cases st2 with
        | nil => rfl
        | cons t r =>
          show t :: r = (if along p t = true then popW p r else t :: r)
          rw [if_neg (by rw [hal' t r rfl]; decide)]
      have l2 := hs2.len
      have l3 : st2.length ≤ st.length := by rw [hst2]; exact popW_len p st
      rw [List.length_reverse] at l2
      refine ⟨_, rfl, .inl ⟨rfl, _, SqL.of (e3.lst hk2)⟩, _, rfl, D, _, _, rfl, rfl, e3.lst hk2, by omega, app H3 ks2 (e2.trans e3) (e3.lst hk2) ?_⟩
      rw [← hst2]; exact PatsQ.ext e3 _ _ hs2
  · rintro σ' H' ⟨o2, st, ks, rfl, est, e, hk, hs⟩
    rw [hps.at_.len, List.take_length] at est
    refine ⟨_, rfl, q D H' ks e hD hk ?_⟩
    rw [est] at hs; exact hs
end
end Bo
set_option Elab.async false
set_option linter.all false
set_option maxRecDepth 100000
set_option maxHeartbeats 8000000
/-! either, both -/
namespace Bo
open PySem PySem.Spec PyProof.Rows L2 GE
/-- the two defs that needed is handed -/
def SC (cA coA : Addr) : Addr → (Pat → Pat → Bool) → Prop := fun f z => (f = cA ∧ z = c8) ∨ (f = coA ∧ z = fun s b => c8 b s)
def spEi (K : PySem.W.Frag) (T : Tz) (fl : List Pat → Nat) (g : List Pat → Pat) : Sp := fun vs H Q _ => ∃ (a : Addr) (us : List V) (ps : List Pat), vs = [.ref a] ∧ SqL K H a us ∧ Okl K H ps us ∧ fl ps ≤ lineB ∧ Tbl H T ∧ ∀ H' u, Ext H H' → PatQ K H' (g ps) u → Q u H'
def flO (ps : List Pat) : Nat := (spread partsO ps).length
def flA (ps : List Pat) : Nat := (spread partsA ps).length
theorem partsO_dep {p q : Pat} (a : q ∈ partsO p) : q.dep ≤ p.dep := by
  cases p with
  | or ps => exact Nat.le_succ_of_le (dep_mem a)
  | _ => rw [List.mem_singleton.mp a]; exact Nat.le_refl _
theorem partsA_dep {p q : Pat} (a : q ∈ partsA p) : q.dep ≤ p.dep := by
  cases p with
  | and ps => exact Nat.le_succ_of_le (dep_mem a)
  | _ => rw [List.mem_singleton.mp a]; exact Nat.le_refl _
theorem pieces_dep {p q : Pat} (a : q ∈ pieces p) : q.dep ≤ p.dep := by
  cases p with
  | row ps => exact Nat.le_succ_of_le (dep_mem a)
  | _ => rw [List.mem_singleton.mp a]; exact Nat.le_refl _
def gO (kept : List Pat) (p : Pat) : Bool := match p with
  | .not x => kept.any fun o => c8 o x
  | _ => false
def gA (kept : List Pat) (p : Pat) : Bool := match p with
  | .not x => kept.any fun o => c8 x o
  | _ => false
/-- EMPTY in kept and len(kept) > 1 -/
theorem both_look {K : PySem.W.Frag} {r aE : Addr} {ks : List V} {kp : List Pat} {σ : L2.St} {H : Hp} {X : Bool → Hp → Prop} (h1 : σ[1]? = some (some (.ref r))) (hr : H r = some (.lst ks)) (hk : PatsQ K H kp ks) (hE : PatQ K H .empty (.ref aE)) (low : ∀ p ∈ kp, Sg Low p)
    (hT : (Pat.empty ∈ kp ∧ 1 < kp.length) → X true H) (hF : ¬ (Pat.empty ∈ kp ∧ 1 < kp.length) → X false H) :
    tAnd (tTest (tOp (rInQ K) (tC (.ref aE)) (tVar 1))) (tTest (tOp (rI0 fun i j => .bl (decide (j < i))) (tCB (fun xs H Q => ∃ p ys, xs = [V.ref p] ∧ (SqL K H p ys ∨ SqT K H p ys) ∧ Q (.int (ys.length : Nat)) H) (tCons (tVar 1) tNil)) (tC (.int 1)))) σ H X := by
  refine ⟨_, h1, .empty, kp, r, ks, hE, rfl, .inl (SqL.of hr), hk, trivial, SgL_iff.mpr low, by decide, _, rfl, ?_⟩
  by_cases h : Pat.empty ∈ kp
  · refine iffT (decide_eq_true h) ⟨_, h1, r, ks, rfl, .inl (SqL.of hr), _, _, rfl, rfl, _, rfl, ?_⟩
    have hl := hk.len
    by_cases h2 : 1 < kp.length
    · rw [decide_eq_true (show (1 : Int) < ((ks.length : Nat) : Int) by omega)]; exact hT ⟨h, h2⟩
    · rw [decide_eq_false (show ¬ (1 : Int) < ((ks.length : Nat) : Int) by omega)]; exact hF fun h' => h2 h'.2
  · exact iffF (decide_eq_false h) (hF fun h' => h h'.1)
theorem allO_g (kept : List Pat) : allO kept = kept.any (gO kept) := rfl
theorem noneA_g (kept : List Pat) : noneA kept = kept.any (gA kept) := rfl
section
variable {P : Program} {w : World} {K : PySem.W.Frag} {mg : Str → Option Value} {base : Heap}
theorem scEi : FnScope ["parts", "kept", "part"] ["parts"] (defScope sEither) := ⟨rfl, rfl, rfl, by decide +kernel, rfl, by decide +kernel, by decide +kernel⟩
theorem scBo : FnScope ["parts", "kept", "part"] ["parts"] (defScope sBoth) := ⟨rfl, rfl, rfl, by decide +kernel, rfl, by decide +kernel, by decide +kernel⟩
theorem ei_ok {f : Addr} {fd : FuncData} {c cA coA aA aN aE : Addr} {T : Tz} (St : Std K mg "either" sEither ["parts"] f fd) (hc : fd.code = .ref c) (TB : GxR.TabB base mg c T.ei)
    (N : Cal P w K mg base 99 "needed" ["parts", "idle"] [] (spNd K T (SC cA coA))) (SD : Cal P w K mg base 1 "spread" ["kind", "parts"] [] (spSd K)) (J : Cal P w K mg base 1 "joined" ["kind", "parts", "nothing"] [] (spJn K)) (Vc : Cov P w K mg base T)
    (C : Consts K mg aA aN aE) (mco : mg "covered" = some (.ref coA)) (ma : mg "any" = none) :
    FnOk P w K mg base CX0 100 f fd ["parts"] (spEi K T flO either) := by
  obtain ⟨nf, nfd, nds, GN, bN, vN, kN, mN⟩ := N
  obtain ⟨sf, sfd, sds, GS, bS, vS, kS, mS⟩ := SD
  obtain ⟨jf, jfd, jds, GJ, bJ, vJ, kJ, mJ⟩ := J
  obtain ⟨cf, cfd, cds', GC, bC, vC, kC, mC⟩ := Vc.ex
  refine okC St.F hc scEi (fun vs H Q E h => ?_) (fun A' outer s H vs Q E hr h => ?_)
  · obtain ⟨a, us, ps, rfl, _⟩ := h
    rfl
  obtain ⟨a, us, ps, rfl, ha, hps, hlen, hT, q⟩ := h
  refine ⟨_, PSs.nox (pss_cons (ps_set (i := 1) scEi.nd rfl (Or.inl rfl) (pe_call GN hr rfl mN kN bN vN pass0 (pa_cons (pe_call GS (hr.mono (by decide)) rfl mS kS bS vS pass0 (pa_cons pe_str (pa_cons (pv 0) pa_nil))) (pa_cons (pe_glob rfl mco (v := .ref coA) rfl) pa_nil)))) (pss_cons (ps_for PassesOwn.never rfl (pi_list (pv 1)) (pg_name (i := 2) scEi.nd rfl (Or.inr rfl))
      (pss_one (ps_if (PW.pt (pw_and (pt_cmpR op_eq (pe_ix ix_tup (pv 2) pe_int (fun _ _ => rfl)) pe_str (nomark _)) (pw_and1 (pt_val (pe_anyE (te := tCall (spCv K T.te T.cv T.mc T.rc 9) [.int 8] E0 (tCons (tVar 3) (tCons (tOp (rIxT K) (tVar 2) (tC (.int 1))) tNil))) rfl hr rfl ma TB rfl (gsc_by (N := ["parts", "kept", "part"]) (sc := defScope sEither) (by decide +kernel)) (pi_list (pv 1))
          (fun s H C code fp => pe_call GC ((Room.gen hr _).mono (by decide)) rfl mC kC bC vC pass0 (pa_cons (pv 3) (pa_cons (pe_ix ix_tup (pv 2) pe_int (fun _ _ => rfl)) pa_nil))) (fun _ => rfl)))))) (pss_one (ps_ret (pe_glob rfl C.mA (v := .ref aA) rfl))) pss_nil))) (pss_one (ps_ret (pe_call GJ (hr.mono (by decide)) rfl mJ kJ bJ vJ pass0 (pa_cons pe_str (pa_cons (pv 1) (pa_cons (pe_glob rfl C.mN (v := .ref aN) rfl) pa_nil)))))))), ?_⟩
  refine t_set ⟨_, rfl, "or", .or, partsO, a, us, ps, rfl, .or, ha, hps.at_, hlen, fun r1 H1 ws e1 _ hr1 hs1 => ?_⟩
  have oks : ∀ p ∈ spread partsO ps, Sg Low p ∧ p.dep ≤ 30 := fun p hp => by
    obtain ⟨q', hq, b⟩ := spread_mem hp
    exact ⟨partsO_sg (hps.ok q' hq).1 b, Nat.le_trans (partsO_dep b) (hps.ok q' hq).2⟩
  refine ⟨r1, ws, spread partsO ps, coA, _, rfl, .inr ⟨rfl, rfl⟩, SqL.of hr1, ⟨hs1, oks⟩, hlen, hT.ext e1, fun r H2 ks e2 _ hr2 hk => ?_⟩
  have hk : PatsQ K H2 (keptO ps) ks := hk
  have okk : ∀ p ∈ keptO ps, Sg Low p ∧ p.dep ≤ 30 := fun p hp => oks p (needed_mem hp)
  have e12 := e1.trans e2
  refine t_seq ⟨_, rfl, r, rfl, ⟨ks, SqL.of hr2⟩, ?_⟩
  refine for_list (K := K) (a := r) (xs := ks) (fun i σ' H' => ∃ o2, σ' = [some (.ref a), some (.ref r), o2] ∧ Ext H2 H' ∧ ((keptO ps).take i).any (gO (keptO ps)) = false) ⟨none, rfl, Ext.refl _, rfl⟩ (fun i σ' H' _ ⟨_, _, e, _⟩ => SqL.of (e.lst hr2)) ?_ ?_
  · rintro i v σ' H' hv ⟨o2, rfl, e, hany⟩
    obtain ⟨p, hp, hpv⟩ := hk.get hv
    have hpv := PatQ.ext e p v hpv
    have okP := okk p (List.mem_of_getElem? hp)
    have next : gO (keptO ps) p = false → ∀ H'', Ext H2 H'' → ∃ o2 : Option V, [some (V.ref a), some (V.ref r), some v] = [some (V.ref a), some (V.ref r), o2] ∧ Ext H2 H'' ∧ ((keptO ps).take (i + 1)).any (gO (keptO ps)) = false := fun h H'' e' => ⟨_, rfl, e', by rw [take_anyF hp, hany, h]; rfl⟩
    obtain ⟨c', xs, rfl, hc'⟩ := hpv.hd
    by_cases hn : ∃ x, p = .not x
    · obtain ⟨x, rfl⟩ := hn
      obtain ⟨a', u, ea, ha', hu'⟩ := hpv
      cases ea
      refine q_kind rfl ha' (iffT (decide_eq_true rfl) ?_)
      refine any_list (fun o => c8 o x) rfl (e.lst hr2) (PatsQ.ext e _ _ hk) (hT.ext (e12.trans e)).ei (fun o ho u2 H3 hu2 e3 Q' k' => ⟨_, rfl, q_ix 1 rfl (e3.sqT _ _ ha') rfl (id_call rfl ⟨hu2, (okk o ho).1, (okk o ho).2⟩ ⟨PatQ.ext e3 _ _ hu', okP.1, Nat.le_of_succ_le okP.2⟩ (hT.ext (e12.trans (e.trans e3))) k')⟩) ?_
      intro H3 e3
      refine ⟨_, rfl, ?_⟩
      cases hg : (keptO ps).any (fun o => c8 o x) with
      | true =>
        refine iffT rfl (q H3 _ (e12.trans (e.trans e3)) ?_)
        have ga : allO (keptO ps) = true := List.any_eq_true.mpr ⟨.not x, List.mem_of_getElem? hp, hg⟩
        unfold either
        rw [if_pos ga]; exact C.hA _
      | false => exact iffF rfl (next hg H3 (e.trans e3))
    · have n4 : rank p ≠ 4 := by cases p <;> first | (exact absurd ⟨_, rfl⟩ hn) | simp [rank]
      have hg : gO (keptO ps) p = false := by cases p <;> first | rfl | exact absurd ⟨_, rfl⟩ hn
      exact q_kind rfl hc' (iffF (decide_eq_false (kind_neq (i := 4) (by decide) n4)) (iffF rfl (next hg H' e)))
  · rintro σ' H' ⟨o2, rfl, e, hany⟩
    rw [hk.len, List.take_length] at hany
    refine ⟨_, rfl, "or", .or, partsO, r, ks, keptO ps, _, .none, rfl, .or, SqL.of (e.lst hr2), PatsQ.ext e _ _ hk, C.hN _, fun H3 u e3 hu => ?_⟩
    refine q H3 u (e12.trans (e.trans e3)) ?_
    have ga : ¬ allO (keptO ps) = true := by rw [allO_g, hany]; decide
    unfold either
    rw [if_neg ga]; exact hu
theorem bo_ok {f : Addr} {fd : FuncData} {c cA coA aA aN aE : Addr} {T : Tz} (St : Std K mg "both" sBoth ["parts"] f fd) (hc : fd.code = .ref c) (TB : GxR.TabB base mg c T.bo)
    (N : Cal P w K mg base 99 "needed" ["parts", "idle"] [] (spNd K T (SC cA coA))) (SD : Cal P w K mg base 1 "spread" ["kind", "parts"] [] (spSd K)) (J : Cal P w K mg base 1 "joined" ["kind", "parts", "nothing"] [] (spJn K)) (Vc : Cov P w K mg base T)
    (C : Consts K mg aA aN aE) (mcA : mg "covers" = some (.ref cA)) (ma : mg "any" = none) (mlen : mg "len" = none) :
    FnOk P w K mg base CX0 100 f fd ["parts"] (spEi K T flA both) := by
  obtain ⟨nf, nfd, nds, GN, bN, vN, kN, mN⟩ := N
  obtain ⟨sf, sfd, sds, GS, bS, vS, kS, mS⟩ := SD
  obtain ⟨jf, jfd, jds, GJ, bJ, vJ, kJ, mJ⟩ := J
  obtain ⟨cf, cfd, cds', GC, bC, vC, kC, mC⟩ := Vc.ex
  refine okC St.F hc scBo (fun vs H Q E h => ?_) (fun A' outer s H vs Q E hr h => ?_)
  · obtain ⟨a, us, ps, rfl, _⟩ := h
    rfl
  obtain ⟨a, us, ps, rfl, ha, hps, hlen, hT, q⟩ := h
  have hu := Nat.lt_of_le_of_lt (Nat.add_le_add_left (show 300 ≤ 16 * 99 + 200 by omega) _) (Nat.lt_of_le_of_lt (Nat.le_of_eq (Nat.add_assoc _ (16 * 99) 200).symm) hr.un)
  refine ⟨_, PSs.nox (pss_cons (ps_set (i := 1) scBo.nd rfl (Or.inl rfl) (pe_call GN hr rfl mN kN bN vN pass0 (pa_cons (pe_call GS (hr.mono (by decide)) rfl mS kS bS vS pass0 (pa_cons pe_str (pa_cons (pv 0) pa_nil))) (pa_cons (pe_glob rfl mcA (v := .ref cA) rfl) pa_nil)))) (pss_cons (ps_if (PW.pt (pw_and (pt_cmpR (op_inQ hu) (pe_glob rfl C.mE (v := .ref aE) rfl) (pv 1) (by rfl)) (pw_and1 (pt_cmpR op_gt (pe_callB call_len_seq rfl mlen PySem.boot_len (pa_cons (pv 1) pa_nil)) pe_int (nomark _))))) (pss_one (ps_ret (pe_glob rfl C.mN (v := .ref aN) rfl))) pss_nil) (pss_cons (ps_for PassesOwn.never rfl (pi_list (pv 1)) (pg_name (i := 2) scBo.nd rfl (Or.inr rfl))
      (pss_one (ps_if (PW.pt (pw_and (pt_cmpR op_eq (pe_ix ix_tup (pv 2) pe_int (fun _ _ => rfl)) pe_str (nomark _)) (pw_and1 (pt_val (pe_anyE (te := tCall (spCv K T.te T.cv T.mc T.rc 9) [.int 8] E0 (tCons (tOp (rIxT K) (tVar 2) (tC (.int 1))) (tCons (tVar 3) tNil))) rfl hr rfl ma TB rfl (gsc_by (N := ["parts", "kept", "part"]) (sc := defScope sBoth) (by decide +kernel)) (pi_list (pv 1))
          (fun s H C code fp => pe_call GC ((Room.gen hr _).mono (by decide)) rfl mC kC bC vC pass0 (pa_cons (pe_ix ix_tup (pv 2) pe_int (fun _ _ => rfl)) (pa_cons (pv 3) pa_nil))) (fun _ => rfl)))))) (pss_one (ps_ret (pe_glob rfl C.mN (v := .ref aN) rfl))) pss_nil))) (pss_one (ps_ret (pe_call GJ (hr.mono (by decide)) rfl mJ kJ bJ vJ pass0 (pa_cons pe_str (pa_cons (pv 1) (pa_cons (pe_glob rfl C.mA (v := .ref aA) rfl) pa_nil))))))))), ?_⟩
  refine t_set ⟨_, rfl, "and", .and, partsA, a, us, ps, rfl, .and, ha, hps.at_, hlen, fun r1 H1 ws e1 _ hr1 hs1 => ?_⟩
  have oks : ∀ p ∈ spread partsA ps, Sg Low p ∧ p.dep ≤ 30 := fun p hp => by
    obtain ⟨q', hq, b⟩ := spread_mem hp
    exact ⟨partsA_sg (hps.ok q' hq).1 b, Nat.le_trans (partsA_dep b) (hps.ok q' hq).2⟩
  refine ⟨r1, ws, spread partsA ps, cA, _, rfl, .inl ⟨rfl, rfl⟩, SqL.of hr1, ⟨hs1, oks⟩, hlen, hT.ext e1, fun r H2 ks e2 _ hr2 hk => ?_⟩
  have hk : PatsQ K H2 (keptA ps) ks := hk
  have okk : ∀ p ∈ keptA ps, Sg Low p ∧ p.dep ≤ 30 := fun p hp => oks p (needed_mem hp)
  have e12 := e1.trans e2
  have hkl := hk.len
  refine t_seq (both_look (K := K) (H := H2) rfl hr2 hk (C.hE _) (fun p hp => (okk p hp).1) (fun h => iffT rfl ?_) (fun h0 => iffF rfl ?_))
  · refine q H2 _ e12 ?_
    unfold both
    rw [if_pos h]; exact C.hN _
  dsimp only [tNext]
  refine t_seq ⟨_, rfl, r, rfl, ⟨ks, SqL.of hr2⟩, ?_⟩
  refine for_list (K := K) (a := r) (xs := ks) (fun i σ' H' => ∃ o2, σ' = [some (.ref a), some (.ref r), o2] ∧ Ext H2 H' ∧ ((keptA ps).take i).any (gA (keptA ps)) = false) ⟨none, rfl, Ext.refl _, rfl⟩ (fun i σ' H' _ ⟨_, _, e, _⟩ => SqL.of (e.lst hr2)) ?_ ?_
  · rintro i v σ' H' hv ⟨o2, rfl, e, hany⟩
    obtain ⟨p, hp, hpv⟩ := hk.get hv
    have hpv := PatQ.ext e p v hpv
    have okP := okk p (List.mem_of_getElem? hp)
    have next : gA (keptA ps) p = false → ∀ H'', Ext H2 H'' → ∃ o2 : Option V, [some (V.ref a), some (V.ref r), some v] = [some (V.ref a), some (V.ref r), o2] ∧ Ext H2 H'' ∧ ((keptA ps).take (i + 1)).any (gA (keptA ps)) = false := fun h H'' e' => ⟨_, rfl, e', by rw [take_anyF hp, hany, h]; rfl⟩
    obtain ⟨c', xs, rfl, hc'⟩ := hpv.hd
    by_cases hn : ∃ x, p = .not x
    · obtain ⟨x, rfl⟩ := hn
      obtain ⟨a', u, ea, ha', hu'⟩ := hpv
      cases ea
      refine q_kind rfl ha' (iffT (decide_eq_true rfl) ?_)
      refine any_list (fun o => c8 x o) rfl (e.lst hr2) (PatsQ.ext e _ _ hk) (hT.ext (e12.trans e)).bo (fun o ho u2 H3 hu2 e3 Q' k' => q_ix 1 rfl (e3.sqT _ _ ha') rfl ⟨_, rfl, id_call rfl ⟨PatQ.ext e3 _ _ hu', okP.1, Nat.le_of_succ_le okP.2⟩ ⟨hu2, (okk o ho).1, (okk o ho).2⟩ (hT.ext (e12.trans (e.trans e3))) k'⟩) ?_
      intro H3 e3
      refine ⟨_, rfl, ?_⟩
      cases hg : (keptA ps).any (fun o => c8 x o) with
      | true =>
        refine iffT rfl (q H3 _ (e12.trans (e.trans e3)) ?_)
        have ga : noneA (keptA ps) = true := List.any_eq_true.mpr ⟨.not x, List.mem_of_getElem? hp, hg⟩
        unfold both
        rw [if_neg h0, if_pos ga]; exact C.hN _
      | false => exact iffF rfl (next hg H3 (e.trans e3))
    · have n4 : rank p ≠ 4 := by cases p <;> first | (exact absurd ⟨_, rfl⟩ hn) | simp [rank]
      have hg : gA (keptA ps) p = false := by cases p <;> first | rfl | exact absurd ⟨_, rfl⟩ hn
      exact q_kind rfl hc' (iffF (decide_eq_false (kind_neq (i := 4) (by decide) n4)) (iffF rfl (next hg H' e)))
  · rintro σ' H' ⟨o2, rfl, e, hany⟩
    rw [hk.len, List.take_length] at hany
    refine ⟨_, rfl, "and", .and, partsA, r, ks, keptA ps, _, ALL, rfl, .and, SqL.of (e.lst hr2), PatsQ.ext e _ _ hk, C.hA _, fun H3 u e3 hu => ?_⟩
    refine q H3 u (e12.trans (e.trans e3)) ?_
    have ga : ¬ noneA (keptA ps) = true := by rw [noneA_g, hany]; decide
    unfold both
    rw [if_neg h0, if_neg ga]; exact hu
end
end Bo
set_option Elab.async false
set_option linter.all false
set_option maxRecDepth 100000
set_option maxHeartbeats 8000000
/-! row_of -/
namespace Bo
open PySem PySem.Spec PyProof.Rows L2 GE StX
section
variable {K : PySem.W.Frag} {ps : List Pat} {σ : L2.St} {H : Hp} {Q : VK}
theorem call_one {sp : Sp} {dvs : List V} {E : XK} {te : TE} (h : te σ H fun x H1 => sp ([x] ++ dvs) H1 Q E) : tCall sp dvs E (tCons te tNil) σ H Q := h
theorem ret_val {te : TE} {D : Ends} (h : te σ H fun x H1 => D.rt x H1) : tRet te D σ H := h
theorem take_map {g : Pat → Pat} {i : Nat} {p : Pat} (h : ps[i]? = some p) : (ps.take (i + 1)).map g = (ps.take i).map g ++ [g p] := by
  rw [List.take_succ, h, List.map_append]; rfl
/-- [g(x) for x in xs] over a tuple of patterns -/
theorem map_pats (g : Pat → Pat) {j : Nat} {tl te : TE} (hz : ps.length < sizeLine) (hw : ∀ v : V, wipe ((wipe σ [j]).set j (some v)) [j] = wipe σ [j])
    (hl : ∀ R : VK, (∀ a us H1, Ext H H1 → H1 a = some (.tup us) → PatsQ K H1 ps us → R (.ref a) H1) → tl σ H R)
    (hs : ∀ p ∈ ps, ∀ v H', PatQ K H' p v → Ext H H' → ∀ Q' : VK, (∀ H'' u, Ext H' H'' → PatQ K H'' (g p) u → Q' u H'') → te ((wipe σ [j]).set j (some v)) H' Q')
    (q : ∀ r H' ws, Ext H H' → H r = none → H' r = some (.lst ws) → PatsQ K H' (ps.map g) ws → Q (.ref r) H') : tLc (iTup K tl) (gName j) tYes te [j] σ H Q := by
  refine hl _ fun a us H1 e1 ha hps => ⟨a, rfl, ⟨us, SqT.of ha⟩, fun D hD => ?_⟩
  have hD0 : H D = none := e1.free hD
  refine lc_tup (K := K) (a := a) (xs := us) (fun m H' => Ext H1 H' ∧ ∃ ws, H' D = some (.lst ws) ∧ PatsQ K H' ((ps.take m).map g) ws) ⟨(Ext.refl _).wr hD, [], upd_same, rfl⟩ (fun m H' _ s => SqT.of (s.1.tup ha)) ?_ ?_
  · rintro m v H' hv ⟨e, ws, hw', hs'⟩
    obtain ⟨p, hp, hpv⟩ := hps.get hv
    have hpv := PatQ.ext e p v hpv
    refine ⟨hw v, hs p (List.mem_of_getElem? hp) v H' hpv (e1.trans e) _ fun H2 u e2 hu => ?_⟩
    have l1 := hs'.len
    have l3 : m < ps.length := (List.getElem?_eq_some_iff.mp hp).1
    rw [List.length_map, List.length_take] at l1
    have t2 : Tup H2 (upd H2 D (.lst (ws ++ [u]))) := .wr (e2.lst hw')
    refine ⟨ws, e2.lst hw', by omega, (e.trans e2).wr hD, _, upd_same, ?_⟩
    rw [take_map hp]
    exact ((PatsQ.ext e2 _ _ hs').tups t2).append (PatsQ.one (hu.tups t2))
  · rintro H' ⟨e, ws, hw', hs'⟩
    rw [hps.len, List.take_length] at hs'
    exact q D H' ws (e1.trans e) hD0 hw' hs'
end
/-- the parts that a row may be made of -/
structure Rw (k : Nat) (ps : List Pat) : Prop where
  ok : ∀ p ∈ ps, NF p ∧ Hb k p ∧ Sg Low p
  w : WB k (wtP ps)
  l : LB k (Lm.cap (lmP ps))
  d : dpL ps ≤ 13
theorem Rw.kept {k : Nat} {ps : List Pat} (h : Rw k ps) : Rw k (keptR ps) := by
  refine ⟨fun p a => ⟨(keptR_nf (fun q b => (h.ok q b).1) a).2.1, keptR_hb (fun q b => (h.ok q b).2.1) a, keptR_sg (fun q b => (h.ok q b).2.2) p a⟩, h.w.le (keptR_wt ps), h.l.le (Lm.cap_le (keptR_lm ps)), dpL_le.mpr fun q a => Nat.le_trans (keptR_dp a) h.d⟩
theorem Rw.low {k : Nat} {ps : List Pat} (h : Rw k ps) : ∀ p ∈ ps, Sg Low p ∧ p.dep ≤ 30 := fun p a => ⟨(h.ok p a).2.2, by
  have h1 := nf_dep2 (h.ok p a).1
  have h2 := Nat.le_trans (dp_mem a) h.d
  omega⟩
theorem Rw.flat {k : Nat} {ps : List Pat} (h : Rw k ps) : (spread pieces ps).length ≤ 11 := by
  have h1 := spreadR_len ps
  have h2 : (lmP ps).a ≤ 11 := Nat.le_trans (Nat.le_max_right _ _) h.l.a
  omega
theorem Rw.keptLen {k : Nat} {ps : List Pat} (h : Rw k ps) : (keptR ps).length ≤ 11 := Nat.le_trans (short_len _) (Nat.le_trans (List.length_filter_le _ _) h.flat)
theorem Rw.turn {k : Nat} {fs rest : List Pat} (h : Rw k (.or fs :: rest)) {f : Pat} (hf : f ∈ fs) : Rw k (f :: rest) := by
  have ho := h.ok _ List.mem_cons_self
  refine ⟨fun r hr => ?_, h.w.le (Wt.mul_le (wtS_mem hf) .rfl), h.l.le (Lm.cap_le (Lm.cat_le (lmS_mem hf) .rfl)), ?_⟩
  · rcases List.mem_cons.mp hr with e | hr
    · rw [e]; exact ⟨(NFl_iff.mp ho.1.2 f hf).2, HbL_iff.mp ho.2.1.2.2 f hf, SgL_iff.mp ho.2.2 f hf⟩
    · exact h.ok r (List.mem_cons_of_mem _ hr)
  · refine dpL_le.mpr fun r hr => ?_
    rcases List.mem_cons.mp hr with e | hr
    · rw [e]
      exact Nat.le_trans (dp_mem hf) (Nat.le_trans (dp_mem (ps := .or fs :: rest) List.mem_cons_self) h.d)
    · exact Nat.le_trans (dp_mem (List.mem_cons_of_mem _ hr)) h.d
theorem Rw.out {k : Nat} {ps : List Pat} (h : Rw k ps) (n : Nat) : NF (rowF n ps) ∧ Sg Low (rowF n ps) ∧ (rowF n ps).dep ≤ 30 := by
  have h1 := rowF_nf n ps fun p a => (h.ok p a).1
  refine ⟨h1, rowF_sg n ps fun p a => (h.ok p a).2.2, ?_⟩
  have h2 := nf_dep2 h1
  have h3 := rowF_dp n ps
  have := h.d
  omega
theorem Rw.width {k : Nat} {fs rest : List Pat} (h : Rw k (.or fs :: rest)) (n : Nat) : flO (fs.map fun f => rowF n (f :: rest)) ≤ lineB ∧ fs.length ≤ 1048576 := by
  have ho := h.ok _ List.mem_cons_self
  have h1 := spreadO_len (fs.map fun f => rowF n (f :: rest)) fun q hq => by
    obtain ⟨f, hf, rfl⟩ := List.mem_map.mp hq
    exact ((h.turn hf).out n).1
  have h2 := (map_wt n rest fs).x
  have h3 := h.w.x
  have h4 := nf_width ho.1
  have h5 := (hb_wt ho.2.1).1.x
  rw [List.length_map] at h1
  have h6 : (wtS fs).x ≤ 1048576 := h5
  have h7 : (Wt.mul (wtS fs) (wtP rest)).x ≤ 1048576 := h3
  unfold flO lineB
  omega
/-- what row_of may be asked of -/
structure RwG (ps : List Pat) : Prop where
  low : ∀ p ∈ ps, Sg Low p ∧ p.dep ≤ 30
  flat : (spread pieces ps).length ≤ 40
  turn : ∀ fs rest, keptR ps = .or fs :: rest → ∃ k, Rw k (.or fs :: rest)
theorem Rw.gen {k : Nat} {ps : List Pat} (h : Rw k ps) : RwG ps := ⟨h.low, Nat.le_trans h.flat (by decide), fun fs rest e => ⟨k, e ▸ h.kept⟩⟩
theorem RwG.keptLow {ps : List Pat} (h : RwG ps) : ∀ p ∈ keptR ps, Sg Low p ∧ p.dep ≤ 30 := fun p hp => by
  obtain ⟨q', hq, b⟩ := spread_mem (List.mem_filter.mp (short_mem hp)).1
  exact ⟨pieces_sg (h.low q' hq).1 b, Nat.le_trans (pieces_dep b) (h.low q' hq).2⟩
def spRo (K : PySem.W.Frag) (T : Tz) (n : Nat) : Sp := fun vs H Q _ => ∃ (a : Addr) (us : List V) (ps : List Pat) (m : Nat), vs = [.ref a] ∧ SqL K H a us ∧ PatsQ K H ps us ∧ RwG ps ∧ m ≤ n ∧ rowK m ps ∧ Tbl H T ∧ ∀ H' u, Ext H H' → PatQ K H' (rowF m ps) u → Q u H'
section
variable {P : Program} {w : World} {K : PySem.W.Frag} {mg : Str → Option Value} {base : Heap}
theorem scRo : FnScope ["parts", "kept", "rest", "part", "first"] ["parts"] (defScope sRowOf) := ⟨rfl, rfl, rfl, by decide +kernel, rfl, by decide +kernel, by decide +kernel⟩
theorem ro_none {f : Addr} {fd : FuncData} {T : Tz} {k : Nat} : FnOk P w K mg base CX0 k f fd ["parts"] (spRo K T 0) := by
  have no : ∀ vs H Q E, ¬ spRo K T 0 vs H Q E := fun vs H Q E h => by
    obtain ⟨_, _, _, m, _, _, _, _, hm, hk, _⟩ := h
    have : m = 0 := Nat.le_zero.mp hm
    subst this
    exact hk
  exact ⟨fun vs H Q E h => absurd h (no vs H Q E), fun A outer s H args us vs Q E _ _ _ _ h => absurd h (no vs H Q E)⟩
theorem ro_step {f : Addr} {fd : FuncData} {aA aN aE : Addr} {T : Tz} {k n : Nat} (St : Std K mg "row_of" sRowOf ["parts"] f fd) (G : FnOk P w K mg base CX0 k f fd ["parts"] (spRo K T n)) (hk : 100 ≤ k)
    (EI : Cal P w K mg base 100 "either" ["parts"] [] (spEi K T flO either)) (SH : Cal P w K mg base 98 "shortened" ["parts"] [] (spSh K T)) (SD : Cal P w K mg base 1 "spread" ["kind", "parts"] [] (spSd K)) (J : Cal P w K mg base 1 "joined" ["kind", "parts", "nothing"] [] (spJn K))
    (C : Consts K mg aA aN aE) : FnOk P w K mg base CX0 (k + 1) f fd ["parts"] (spRo K T (n + 1)) := by
  obtain ⟨ef, efd, eds, GE', bE, vE, kE, mE⟩ := EI
  obtain ⟨hf', hfd, hds, GH, bH, vH, kH, mH⟩ := SH
  obtain ⟨sf, sfd, sds, GS, bS, vS, kS, mS⟩ := SD
  obtain ⟨jf, jfd, jds, GJ, bJ, vJ, kJ, mJ⟩ := J
  refine okD St.F scRo (fun vs H Q E h => ?_) (fun cdv A' outer s H vs Q E hr h => ?_)
  · obtain ⟨a, us, ps, _, rfl, _⟩ := h
    rfl
  obtain ⟨a, us, ps, m, rfl, ha, hps, hR, hm, hK, hT, q⟩ := h
  have hu := Nat.lt_of_le_of_lt (Nat.add_le_add_left (show 300 ≤ 16 * k + 200 by omega) _) (Nat.lt_of_le_of_lt (Nat.le_of_eq (Nat.add_assoc _ (16 * k) 200).symm) hr.un)
  refine ⟨_, (pss_cons (ps_set (i := 1) scRo.nd rfl (Or.inl rfl) (pe_call GH (hr.mono (by omega)) rfl mH kH bH vH pass0 (pa_cons (pe_lc (own := [("part", 3)]) (g := gName 3) (tt := tTest (tOp (rNeQ K) (tVar 3) (tC (.ref aE)))) (te := tVar 3) rfl scRo.nd (pi_list (pe_call GS (hr.mono (by omega)) rfl mS kS bS vS pass0 (pa_cons pe_str (pa_cons (pv 0) pa_nil))))
        (blkOk_by (N := ["parts", "kept", "rest", "part", "first"]) (sc := defScope sRowOf) (by decide +kernel)) (fun _ _ _ _ _ => pg_name (i := 3) scRo.nd rfl (Or.inl rfl) (Or.inr rfl))
        (fun _ _ _ _ _ => pts_one (pt_cmpR (op_neQ hu) (pv 3) (pe_glob rfl C.mE (v := .ref aE) rfl) (by rfl))) (fun _ _ _ _ _ => pv 3)) pa_nil))) (pss_cons (ps_if (pt_cmpR (op_inQ hu) (pe_glob rfl C.mN (v := .ref aN) rfl) (pv 1) (by rfl)) (pss_one (ps_ret (pe_glob rfl C.mN (v := .ref aN) rfl))) pss_nil) (pss_cons (ps_if (PW.pt (pw_and (pt_truth (pv 1) (by intro _; rfl)) (pw_and1 (pt_cmpR op_eq (pe_ix ix_tup (pe_ix ix_list (pv 1) pe_int (fun _ _ => rfl)) pe_int (fun _ _ => rfl)) pe_str (nomark _)))))
      (pss_cons (ps_set (i := 2) scRo.nd rfl (Or.inr rfl) (pe_slice sl_list (pv 1) (po_some pe_int) po_none)) (pss_one (ps_ret (pe_call GE' (hr.mono (by omega)) rfl mE kE bE vE pass0 (pa_cons (pe_lc (own := [("first", 4)]) (g := gName 4) (tt := tYes) (te := tCall (spRo K T n) [] E0 (tCons (tLst (tCons (tVar 4) (tStar K (tVar 2) tNil))) tNil)) rfl scRo.nd (pi_tup (pe_ix ix_tup (pe_ix ix_list (pv 1) pe_int (fun _ _ => rfl)) pe_int (fun _ _ => rfl)))
          (blkOk_by (N := ["parts", "kept", "rest", "part", "first"]) (sc := defScope sRowOf) (by decide +kernel)) (fun _ _ _ _ _ => pg_name (i := 4) scRo.nd rfl (Or.inl rfl) (Or.inr rfl))
          (fun _ _ _ _ _ => pts_nil) (fun _ _ _ _ _ => pe_call G hr rfl St.m St.F.kp St.b .nil pass0 (pa_cons (pe_lst (pa_cons (pv 4) (pa_star (pv 2) pa_nil))) pa_nil))) pa_nil))))) pss_nil) (pss_one (ps_ret (pe_call GJ (hr.mono (by omega)) rfl mJ kJ bJ vJ pass0 (pa_cons pe_str (pa_cons (pv 1) (pa_cons (pe_glob rfl C.mE (v := .ref aE) rfl) pa_nil))))))))), ?_⟩
  have hfl := hR.flat
  have ll := line_le
  have sE : sizeLine = 16777216 := sizeLine_eq
  have okS : ∀ p ∈ spread pieces ps, Sg Low p ∧ p.dep ≤ 30 := fun p hp => by
    obtain ⟨q', hq, b⟩ := spread_mem hp
    exact ⟨pieces_sg (hR.low q' hq).1 b, Nat.le_trans (pieces_dep b) (hR.low q' hq).2⟩
  refine t_set (call_one ?_)
  refine keep_list (K := K) (ps := spread pieces ps) (fun p => !decide (p = .empty)) (by omega) (fun _ => ⟨rfl, rfl⟩) (fun R hR' => ⟨_, rfl, "row", .row, pieces, a, us, ps, rfl, .row, ha, hps, by unfold lineB; omega, fun r1 H1 ws e1 _ hr1 hs1 => hR' r1 ws H1 e1 hr1 hs1⟩) (fun p hp v H' hv e Q' k' => ⟨_, rfl, p, .empty, hv, C.hE _, (okS p hp).1, trivial, Nat.le_trans (okS p hp).2 (by decide), _, rfl, k' H' (Ext.refl _)⟩) (fun r1 H1 ws e1 _ hr1 hs1 => ?_)
  have fl : ((spread pieces ps).filter fun p => !decide (p = .empty)).length ≤ 40 := Nat.le_trans (List.length_filter_le _ _) hfl
  refine ⟨r1, ws, _, rfl, SqL.of hr1, ⟨hs1, fun p hp => okS p (List.mem_filter.mp hp).1⟩, by unfold lineB; omega, hT.ext e1, fun r2 H2 ks e2 _ hr2 hs2 => ?_⟩
  have hs2 : PatsQ K H2 (keptR ps) ks := hs2
  have hRk := hR.keptLow
  have hkl : (keptR ps).length ≤ 40 := Nat.le_trans (short_len _) fl
  have e12 := e1.trans e2
  obtain ⟨m, rfl⟩ : ∃ m', m = m' + 1 := by
    cases m with
    | zero => exact hK.elim
    | succ m => exact ⟨m, rfl⟩
  have hK : ∀ fs rest, keptR ps = .or fs :: rest → ∀ f ∈ fs, rowK m (f :: rest) := hK
  refine t_seq ⟨_, rfl, .none, keptR ps, r2, ks, C.hN _, rfl, .inl (SqL.of hr2), hs2, trivial, SgL_iff.mpr fun p hp => (hRk p hp).1, by decide, _, rfl, ?_⟩
  by_cases hn : Pat.none ∈ keptR ps
  · refine iffT (decide_eq_true hn) (q H2 _ e12 ?_)
    rw [show rowF (m + 1) ps = .none by unfold rowF; rw [if_pos hn]]
    exact C.hN _
  refine iffF (decide_eq_false hn) ?_
  dsimp only [tNext]
  have fin : ∀ {k}, keptR ps = k → (∀ fs rest, k ≠ .or fs :: rest) → rowF (m + 1) ps = joined .row k .empty := fun {k} ek h => by
    unfold rowF
    rw [if_neg hn, ek]
    split
    · exact absurd rfl (h _ _)
    · rfl
  have last : (∀ fs rest, keptR ps ≠ .or fs :: rest) → tRet (tCall (spJn K) [] E0 (tCons (tC (.str "row")) (tCons (tVar 1) (tCons (tC (.ref aE)) tNil)))) { nx := fun _ H' => Q .non H', rt := Q } [some (.ref a), some (.ref r2), none, none, none] H2 := fun h =>
    ⟨_, rfl, "row", .row, pieces, r2, ks, keptR ps, _, .empty, rfl, .row, SqL.of hr2, hs2, C.hE _, fun H3 u e3 hu => q H3 u (e12.trans e3) (by rw [fin rfl h]; exact hu)⟩
  refine t_seq ⟨_, rfl, !ks.isEmpty, .inl ⟨ks, SqL.of hr2, rfl⟩, ?_⟩
  cases hc : keptR ps with
  | nil =>
    rw [hc] at hs2 last
    have hs2' : ks = [] := hs2
    subst hs2'
    exact iffF rfl (iffF rfl (last fun fs rest h => by cases h))
  | cons h tl =>
    rw [hc] at hs2 last
    obtain ⟨v, r, rfl, hv, hr'⟩ := hs2
    obtain ⟨b, xs, rfl, hb⟩ := hv.hd
    refine iffT rfl ⟨_, rfl, r2, _, 0, .ref b, rfl, rfl, SqL.of hr2, atI_nat (j := 0) rfl, b, _, 0, V.str h.kind, rfl, rfl, hb, atI_nat (j := 0) rfl, rfl, _, rfl, ?_⟩
    have e0 : decide (V.str h.kind = V.str "or") = decide (h.kind = "or") := by rw [dec_str, Bool.beq_eq_decide_eq]
    rw [e0]
    by_cases ho : isOr h = true
    · cases h with
      | or fs =>
        refine iffT rfl ?_
        refine t_set ⟨_, rfl, _, rfl, r2, _, rfl, SqL.of hr2, fun r3 hr3 => ?_⟩
        have ecut : cutV (V.ref b :: r) (some 1) none = r := cut_from (k := 1) (by simp)
        have e3 := Ext.new (o := .lst (cutV (V.ref b :: r) (some 1) none)) hr3
        have hr3' : (upd H2 r3 (.lst (cutV (V.ref b :: r) (some 1) none))) r3 = some (.lst r) := by rw [upd_same, ecut]
        generalize upd H2 r3 (.lst (cutV (V.ref b :: r) (some 1) none)) = H3 at e3 hr3' ⊢
        obtain ⟨b', c', fsv, eb, hbc, hc', hfs⟩ := hv
        cases eb
        obtain ⟨kk, hRk⟩ := hR.turn fs tl hc
        have wid := hRk.width m
        have rl := hr'.len
        rw [hc] at hkl
        simp only [List.length_cons] at hkl
        refine ret_val (call_one ?_)
        refine map_pats (K := K) (ps := fs) (fun f => rowF m (f :: tl)) (by omega) (fun _ => rfl) (fun R hR' => ⟨_, rfl, r2, _, 0, .ref b, rfl, rfl, SqL.of (e3.lst hr2), atI_nat (j := 0) rfl, b, _, 1, V.ref c', rfl, rfl, e3.sqT _ _ hbc, atI_nat (j := 1) rfl, hR' c' fsv H3 (Ext.refl _) (e3.tup hc') (PatsQ.ext e3 _ _ hfs)⟩) (fun f hf v H4 hv e4 Q' k' => ?_) (fun r5 H5 ws5 e5 _ hr5 hs5 => ?_)
        · refine ⟨v, rfl, .ref r3, rfl, r3, r, rfl, .inr (SqL.of (e4.lst hr3')), ?_, fun p6 hp6 => ?_⟩
          · show (v :: (r ++ [])).length ≤ sizeLine
            rw [List.append_nil, List.length_cons]; omega
          have e6 := Ext.new (o := .lst (v :: (r ++ []))) hp6
          refine ⟨p6, v :: (r ++ []), f :: tl, m, rfl, SqL.of upd_same, ⟨v, r ++ [], rfl, PatQ.ext e6 _ _ hv, ?_⟩, (hRk.turn hf).gen, Nat.le_of_succ_le_succ hm, hK fs tl hc f hf, hT.ext ((e12.trans e3).trans (e4.trans e6)), fun H7 u e7 hu7 => k' H7 u (e6.trans e7) hu7⟩
          have hh := PatsQ.ext ((e3.trans e4).trans e6) _ _ hr'
          generalize upd H4 p6 (.lst (v :: (r ++ []))) = HH at hh ⊢
          rw [List.append_nil]; exact hh
        · refine ⟨r5, ws5, _, rfl, SqL.of hr5, ⟨hs5, fun p hp => ?_⟩, wid.1, hT.ext ((e12.trans e3).trans e5), fun H6 u e6 hu6 => q H6 u (((e12.trans e3).trans e5).trans e6) ?_⟩
          · obtain ⟨f, hf, rfl⟩ := List.mem_map.mp hp
            exact ((hRk.turn hf).out m).2
          · have : rowF (m + 1) ps = either (fs.map fun f => rowF m (f :: tl)) := by
              conv => lhs; unfold rowF
              rw [if_neg hn, hc]
            rw [this]; exact hu6
      | _ => cases ho
    · have hkd : h.kind ≠ "or" := kind_neq (i := 5) (by decide) (or_rank ho)
      exact iffF (decide_eq_false hkd) (last fun fs rest hh => by cases hh; exact ho rfl)
end
end Bo
set_option Elab.async false
set_option linter.all false
set_option maxRecDepth 100000
set_option maxHeartbeats 8000000
/-! row_of of every length; piece_kinds -/
namespace Bo
open PySem PySem.Spec PyProof.Rows L2 GE StX
theorem flat_takeL {g : Pat → List Pat} {ps : List Pat} {i : Nat} {p : Pat} (h : ps[i]? = some p) : (ps.take (i + 1)).flatMap g = (ps.take i).flatMap g ++ g p := by
  rw [List.take_succ, h]; simp
theorem flat_leL {g : Pat → List Pat} {ps : List Pat} (i : Nat) : ((ps.take i).flatMap g).length ≤ (ps.flatMap g).length := by
  have : ps.flatMap g = (ps.take i).flatMap g ++ (ps.drop i).flatMap g := by rw [← List.flatMap_append, List.take_append_drop]
  rw [this, List.length_append]; exact Nat.le_add_right _ _
/-- [y for x in xs for y in g(x)] over a tuple of patterns -/
theorem flat_pats {K : PySem.W.Frag} {ps : List Pat} {H : Hp} {Q : VK} {v0 : V} {o1 o2 : Option V} (g : Pat → List Pat) {tl te1 : TE} (hz : (ps.flatMap g).length ≤ lineB)
    (hl : ∀ R : VK, (∀ a us H1, Ext H H1 → H1 a = some (.tup us) → PatsQ K H1 ps us → R (.ref a) H1) → tl [some v0, o1, o2] H R)
    (hs : ∀ p ∈ ps, ∀ v H', PatQ K H' p v → Ext H H' → ∀ Q' : VK, (∀ r H'' ws, Ext H' H'' → H' r = none → H'' r = some (.lst ws) → PatsQ K H'' (g p) ws → Q' (.ref r) H'') → te1 [some v0, some v, none] H' Q')
    (q : ∀ r H' ws, Ext H H' → H r = none → H' r = some (.lst ws) → PatsQ K H' (ps.flatMap g) ws → Q (.ref r) H') :
    tLc2 (iTup K tl) (gName 1) tYes (iList K te1) (gName 2) tYes (tVar 2) [1, 2] [2] [some v0, o1, o2] H Q := by
  refine hl _ fun a us H1 e1 ha hps => ⟨a, rfl, ⟨us, SqT.of ha⟩, fun D hD => ?_⟩
  have hD0 : H D = none := e1.free hD
  have ll := line_le
  refine ⟨fun i m H' => i ≤ us.length ∧ m = us.length - i ∧ Ext H1 H' ∧ ∃ ws, H' D = some (.lst ws) ∧ PatsQ K H' ((ps.take i).flatMap g) ws, ⟨us.length, Nat.zero_le _, rfl, (Ext.refl _).wr hD, [], upd_same, rfl⟩, ?_⟩
  rintro i m H' ⟨hi, rfl, e, ws, hw, hs'⟩
  have qa : SqT K H' a us := SqT.of (e.tup ha)
  by_cases hlt : i < us.length
  · refine .inr ⟨⟨us, us[i], qa, by simp [hlt]⟩, fun H2 => Ext H1 H2 ∧ ∃ ws, H2 D = some (.lst ws) ∧ PatsQ K H2 ((ps.take (i + 1)).flatMap g) ws, fun H2 h => ⟨us.length - (i + 1), by omega, hlt, rfl, h⟩, fun v H2 y => ?_⟩
    obtain ⟨y0, y⟩ := y
    subst y0
    have hv := y us qa
    obtain ⟨p, hp, hpv⟩ := hps.get hv
    refine ⟨rfl, hs p (List.mem_of_getElem? hp) v H2 (PatQ.ext e p v hpv) (e1.trans e) _ fun r H3 zs e3 hr hz3 hps3 => ⟨r, rfl, ⟨zs, SqL.of hz3⟩, ?_⟩⟩
    have ner : r ≠ D := fun h => by rw [h, hw] at hr; cases hr
    have gl := hps3.len
    have fl := flat_leL (g := g) (ps := ps) (i + 1)
    rw [flat_takeL hp, List.length_append] at fl
    refine ⟨fun j k H4 => j ≤ zs.length ∧ k = zs.length - j ∧ Ext H1 H4 ∧ H4 r = some (.lst zs) ∧ PatsQ K H4 (g p) zs ∧ ∃ ws, H4 D = some (.lst ws) ∧ PatsQ K H4 ((ps.take i).flatMap g ++ (g p).take j) ws,
      ⟨zs.length, Nat.zero_le _, rfl, e.trans e3, hz3, hps3, ws, e3.lst hw, by rw [List.take_zero, List.append_nil]; exact PatsQ.ext e3 _ _ hs'⟩, ?_⟩
    rintro j k H4 ⟨hj, rfl, e4, hr4, hp4, ws4, hw4, hs4⟩
    have ql : SqL K H4 r zs := SqL.of hr4
    by_cases hjl : j < zs.length
    · refine .inr ⟨⟨zs, zs[j], ql, by simp [hjl]⟩, fun H5 => Ext H1 H5 ∧ H5 r = some (.lst zs) ∧ PatsQ K H5 (g p) zs ∧ ∃ ws, H5 D = some (.lst ws) ∧ PatsQ K H5 ((ps.take i).flatMap g ++ (g p).take (j + 1)) ws, fun H5 h => ⟨zs.length - (j + 1), by omega, hjl, rfl, h⟩, fun u H5 y2 => ?_⟩
      obtain ⟨y3, y4⟩ := y2
      subst y3
      have hu := y4 zs ql
      obtain ⟨q', hq', hqu⟩ := hp4.get hu
      have l4 := hs4.len
      rw [List.length_append] at l4
      have l5 := List.length_take_le j (g p)
      have l6 : j < (g p).length := (List.getElem?_eq_some_iff.mp hq').1
      have l7 : ((g p).take j).length = j := by rw [List.length_take]; omega
      have t2 : Tup H5 (upd H5 D (.lst (ws4 ++ [u]))) := .wr hw4
      refine ⟨rfl, u, rfl, ws4, hw4, by omega, e4.wr hD, by rw [upd_ne ner]; exact hr4, hp4.tups t2, _, upd_same, ?_⟩
      rw [List.take_succ, hq', ← List.append_assoc]
      exact (hs4.tups t2).append (PatsQ.one (hqu.tups t2))
    · have ej : j = zs.length := by omega
      subst ej
      refine .inl ⟨⟨zs, ql, Nat.le_refl _⟩, e4, ws4, hw4, ?_⟩
      rw [flat_takeL hp]
      rw [gl, List.take_length] at hs4
      exact hs4
  · have ei : i = us.length := by omega
    subst ei
    rw [hps.len, List.take_length] at hs'
    exact .inl ⟨⟨us, qa, Nat.le_refl _⟩, q D H' ws (e1.trans e) hD0 hw hs'⟩
theorem pks_flat : ∀ ps : List Pat, pks ps = ps.flatMap pk
  | [] => rfl
  | p :: ps => by rw [pks, pks_flat ps]; rfl
def spRO (K : PySem.W.Frag) (T : Tz) : Sp := fun vs H Q _ => ∃ (a : Addr) (us : List V) (ps : List Pat), vs = [.ref a] ∧ SqL K H a us ∧ PatsQ K H ps us ∧ RwG ps ∧ (∀ p ∈ ps, NF p) ∧ (keptR ps).length ≤ 11 ∧ Tbl H T ∧ ∀ H' u, Ext H H' → PatQ K H' (rowOf ps) u → Q u H'
def spPk (K : PySem.W.Frag) (T : Tz) (d : Nat) : Sp := fun vs H Q _ => ∃ (v : V) (p : Pat), vs = [v] ∧ PatQ K H p v ∧ p.dep ≤ d ∧ p.dep ≤ 30 ∧ Sg Low p ∧ (pk p).length ≤ lineB ∧ GxR.TabG H T.te ∧ ∀ r H' ws, Ext H H' → H r = none → H' r = some (.lst ws) → PatsQ K H' (pk p) ws → Q (.ref r) H'
section
variable {P : Program} {w : World} {K : PySem.W.Frag} {mg : Str → Option Value} {base : Heap}
theorem ro_tower {f : Addr} {fd : FuncData} {aA aN aE : Addr} {T : Tz} (St : Std K mg "row_of" sRowOf ["parts"] f fd)
    (EI : Cal P w K mg base 100 "either" ["parts"] [] (spEi K T flO either)) (SH : Cal P w K mg base 98 "shortened" ["parts"] [] (spSh K T)) (SD : Cal P w K mg base 1 "spread" ["kind", "parts"] [] (spSd K)) (J : Cal P w K mg base 1 "joined" ["kind", "parts", "nothing"] [] (spJn K))
    (C : Consts K mg aA aN aE) : ∀ n, FnOk P w K mg base CX0 (100 + n) f fd ["parts"] (spRo K T n)
  | 0 => ro_none
  | n + 1 => ro_step St (ro_tower St EI SH SD J C n) (Nat.le_add_right _ _) EI SH SD J C
theorem ro_all {f : Addr} {fd : FuncData} {T : Tz} (G : FnOk P w K mg base CX0 112 f fd ["parts"] (spRo K T 12)) : FnOk P w K mg base CX0 112 f fd ["parts"] (spRO K T) :=
  FnOk.imp G fun vs H Q E ⟨a, us, ps, e, h1, h2, h3, h4, h5, h6, q⟩ => ⟨a, us, ps, (keptR ps).length + 1, e, h1, h2, h3, Nat.succ_le_succ h5, rowK_nf _ _ h4 (Nat.lt_succ_self _), h6, q⟩
theorem scPk : FnScope ["pattern", "part", "piece"] ["pattern"] (defScope sPieceKinds) := ⟨rfl, rfl, rfl, by decide +kernel, rfl, by decide +kernel, by decide +kernel⟩
theorem pk_none {f : Addr} {fd : FuncData} {T : Tz} {k : Nat} : FnOk P w K mg base CX0 k f fd ["pattern"] (spPk K T 0) := by
  have no : ∀ vs H Q E, ¬ spPk K T 0 vs H Q E := fun vs H Q E h => by
    obtain ⟨v, p, _, _, hd, _⟩ := h
    have := dep_pos p
    omega
  exact ⟨fun vs H Q E h => absurd h (no vs H Q E), fun A outer s H args us vs Q E _ _ _ _ h => absurd h (no vs H Q E)⟩
theorem pk_step {f : Addr} {fd : FuncData} {aA aN aE : Addr} {T : Tz} {k d : Nat} (St : Std K mg "piece_kinds" sPieceKinds ["pattern"] f fd) (G : FnOk P w K mg base CX0 k f fd ["pattern"] (spPk K T d)) (hk : 60 ≤ k)
    (TE : Cal P w K mg base 60 "takes_empty" ["pattern"] [] (spTE K 30 T.te)) (C : Consts K mg aA aN aE) : FnOk P w K mg base CX0 (k + 1) f fd ["pattern"] (spPk K T (d + 1)) := by
  obtain ⟨t, td, tds, Gt, bt, vt, kt, mt⟩ := TE
  refine okD St.F scPk (fun vs H Q E h => ?_) (fun cdv A outer s H vs Q E hr h => ?_)
  · obtain ⟨v, p, rfl, _⟩ := h
    rfl
  obtain ⟨v, p, rfl, hp, hd, hd3, low, hlen, hT, q⟩ := h
  have hu := Nat.lt_of_le_of_lt (Nat.add_le_add_left (show 300 ≤ 16 * k + 200 by omega) _) (Nat.lt_of_le_of_lt (Nat.le_of_eq (Nat.add_assoc _ (16 * k) 200).symm) hr.un)
  refine ⟨_, (pss_cons (ps_if (pt_cmpR (op_inQ hu) (pv 0) (pe_tup (pa_cons (pe_glob rfl C.mN (v := .ref aN) rfl) (pa_cons (pe_glob rfl C.mE (v := .ref aE) rfl) pa_nil))) (by rfl)) (pss_one (ps_ret (pe_lst pa_nil))) pss_nil) (pss_cons (ps_if (pt_cmpR op_eq (pe_ix ix_tup (pv 0) pe_int (fun _ _ => rfl)) pe_str (nomark _)) (pss_one (ps_ret (pe_call G hr rfl St.m St.F.kp St.b .nil pass0 (pa_cons (pe_ix ix_tup (pv 0) pe_int (fun _ _ => rfl)) pa_nil)))) pss_nil) (pss_cons (ps_if (PW.pt (pw_or (pt_cmpR op_eq (pe_ix ix_tup (pv 0) pe_int (fun _ _ => rfl)) pe_str (nomark _)) (pw_or1 (PW.pt (pw_and (pt_cmpR op_eq (pe_ix ix_tup (pv 0) pe_int (fun _ _ => rfl)) pe_str (nomark _)) (pw_and1 (pt_val (pe_call Gt (hr.mono (by omega)) rfl mt kt bt vt pass0 (pa_cons (pv 0) pa_nil)))))))))
      (pss_one (ps_ret (pe_lc2 (own := [("part", 1), ("piece", 2)]) (vs1 := [2]) (g := gName 1) (tt := tYes) (wi1 := iList K (tCall (spPk K T d) [] E0 (tCons (tVar 1) tNil))) (g1 := gName 2) (tt1 := tYes) (te := tVar 2) rfl scPk.nd (pi_tup (pe_ix ix_tup (pv 0) pe_int (fun _ _ => rfl)))
        (blkOk_by (N := ["pattern", "part", "piece"]) (sc := defScope sPieceKinds) (by decide +kernel)) (by decide) (fun _ _ _ _ _ => pg_name (i := 1) scPk.nd rfl (Or.inl rfl) (Or.inr rfl)) (fun _ _ _ _ _ => pts_nil)
        (fun _ _ _ _ _ => pi_list (pe_call G hr rfl St.m St.F.kp St.b .nil pass0 (pa_cons (pv 1) pa_nil))) (fun _ _ _ _ _ => pg_name (i := 2) scPk.nd rfl (Or.inl rfl) (Or.inr rfl)) (fun _ _ _ _ _ => pts_nil) (fun _ _ _ _ _ => pv 2)))) pss_nil) (pss_one (ps_ret (pe_lst (pa_cons (pv 0) pa_nil))))))), ?_⟩
  refine t_seq ⟨_, rfl, show 2 ≤ sizeLine by decide, fun b hb => ?_⟩
  have e1 := Ext.new (o := .tup [V.ref aN, V.ref aE]) hb
  have hb' : (upd H b (.tup [V.ref aN, V.ref aE])) b = some (.tup [V.ref aN, V.ref aE]) := upd_same
  generalize upd H b (.tup [V.ref aN, V.ref aE]) = H1 at e1 hb' ⊢
  have hp1 := PatQ.ext e1 p v hp
  refine ⟨p, [.none, .empty], b, _, hp1, rfl, .inr (SqT.of hb'), ⟨_, _, rfl, C.hN _, _, _, rfl, C.hE _, rfl⟩, low, ⟨trivial, trivial, trivial⟩, Nat.le_trans hd3 (by decide), _, rfl, ?_⟩
  by_cases h0 : p ∈ [Pat.none, Pat.empty]
  · refine iffT (decide_eq_true h0) ⟨Nat.zero_le _, fun r hr' => q r _ [] (e1.trans (Ext.new hr')) (e1.free hr') upd_same ?_⟩
    have : pk p = [] := by
      rcases List.mem_cons.mp h0 with h | h
      · subst h; rfl
      · rw [List.mem_singleton.mp h]; rfl
    rw [this]; rfl
  refine iffF (decide_eq_false h0) ?_
  dsimp only [tNext]
  -- the parts' kinds, one behind another
  have flat : ∀ (ps : List Pat) (a b' : Addr) (vs : List V) (z : V) (H2 : Hp), Ext H H2 → SqT K H a [z, .ref b'] → H b' = some (.tup vs) → PatsQ K H ps vs → depL ps ≤ d → (∀ x ∈ ps, x.dep ≤ 30) → SgL Low ps → pk p = pks ps →
      tLc2 (iTup K (tOp (rIxT K) (tVar 0) (tC (.int 1)))) (gName 1) tYes (iList K (tCall (spPk K T d) [] E0 (tCons (tVar 1) tNil))) (gName 2) tYes (tVar 2) [1, 2] [2] [some (.ref a), none, none] H2 Q := by
    intro ps a b' vs z H2 e2 ha hb2 hps hdl h30 lowL epk
    rw [epk, pks_flat] at hlen
    refine flat_pats (K := K) (ps := ps) pk hlen (fun R hR => q_ix 1 rfl (e2.sqT _ _ ha) rfl (hR b' vs H2 (Ext.refl _) (e2.tup hb2) (PatsQ.ext e2 _ _ hps))) (fun x hx u H3 hu' e3 Q' k' => ?_) (fun r H3 ws e3 hr3 hw3 hs3 => q r H3 ws (e2.trans e3) (e2.free hr3) hw3 (by rw [epk, pks_flat]; exact hs3))
    refine ⟨_, rfl, u, x, rfl, hu', Nat.le_trans (dep_mem hx) hdl, h30 x hx, SgL_iff.mp lowL x hx, ?_, (e2.trans e3).tab _ hT, fun r H4 ws e4 hr4 hw4 hs4 => k' r H4 ws e4 hr4 hw4 hs4⟩
    obtain ⟨i, hi⟩ := List.mem_iff_getElem?.mp hx
    have := flat_leL (g := pk) (ps := ps) (i + 1)
    rw [flat_takeL hi, List.length_append] at this
    omega
  have keep : pk p = [p] → ∀ H2, Ext H H2 → tRet (tLst (tCons (tVar 0) tNil)) { nx := fun _ H' => Q .non H', rt := Q } [some v, none, none] H2 := fun e H2 e2 =>
    ⟨_, rfl, show 1 ≤ sizeLine by decide, fun r hr' => q r _ [v] (e2.trans (Ext.new hr')) (e2.free hr') upd_same (by rw [e]; exact PatsQ.one (PatQ.ext (e2.trans (Ext.new hr')) _ _ hp))⟩
  cases p with
  | none => exact absurd (by simp) h0
  | empty => exact absurd (by simp) h0
  | sign c =>
    obtain ⟨a, xs, rfl, ha⟩ := hp.hd
    have ha1 := e1.sqT _ _ ha
    exact t_seq (q_kF rfl ha1 (kind_neq (i := 2) (by decide) (by simp [rank])) (t_seq (q_kind rfl ha1 (iffF (decide_eq_false (kind_neq (i := 5) (by decide) (by simp [rank]))) (q_kind rfl ha1 (iffF (decide_eq_false (kind_neq (i := 6) (by decide) (by simp [rank]))) (iffF rfl (keep rfl H1 e1))))))))
  | and ps =>
    obtain ⟨a, xs, rfl, ha⟩ := hp.hd
    have ha1 := e1.sqT _ _ ha
    exact t_seq (q_kF rfl ha1 (kind_neq (i := 2) (by decide) (by simp [rank])) (t_seq (q_kind rfl ha1 (iffF (decide_eq_false (kind_neq (i := 5) (by decide) (by simp [rank]))) (q_kind rfl ha1 (iffF (decide_eq_false (kind_neq (i := 6) (by decide) (by simp [rank]))) (iffF rfl (keep rfl H1 e1))))))))
  | not x =>
    obtain ⟨a, xs, rfl, ha⟩ := hp.hd
    have ha1 := e1.sqT _ _ ha
    exact t_seq (q_kF rfl ha1 (kind_neq (i := 2) (by decide) (by simp [rank])) (t_seq (q_kind rfl ha1 (iffF (decide_eq_false (kind_neq (i := 5) (by decide) (by simp [rank]))) (q_kind rfl ha1 (iffF (decide_eq_false (kind_neq (i := 6) (by decide) (by simp [rank]))) (iffF rfl (keep rfl H1 e1))))))))
  | many x =>
    obtain ⟨a, u, rfl, ha, hu'⟩ := hp
    refine t_seq (q_kT rfl (e1.sqT _ _ ha) (q_ix 1 rfl (e1.sqT _ _ ha) rfl ?_))
    exact ⟨u, x, rfl, PatQ.ext e1 _ _ hu', Nat.le_of_succ_le_succ hd, Nat.le_of_succ_le hd3, low, hlen, e1.tab _ hT, fun r H2 ws e2 hr2 hw2 hs2 => q r H2 ws (e1.trans e2) (e1.free hr2) hw2 hs2⟩
  | or ps =>
    obtain ⟨a, b', vs, rfl, ha, hb2, hps⟩ := hp
    have ha1 := e1.sqT _ _ ha
    refine t_seq (q_kF rfl ha1 (by decide) (t_seq (q_kind rfl ha1 (iffT (decide_eq_true rfl) (iffT rfl ?_)))))
    exact flat ps a b' vs _ H1 e1 ha hb2 hps (Nat.le_of_succ_le_succ hd) (fun x hx => Nat.le_trans (dep_mem hx) (Nat.le_of_succ_le hd3)) low rfl
  | row ps =>
    obtain ⟨a, b', vs, rfl, ha, hb2, hps⟩ := id hp
    have ha1 := e1.sqT _ _ ha
    refine t_seq (q_kF rfl ha1 (by decide) (t_seq (q_kind rfl ha1 (iffF (decide_eq_false (by decide)) (q_kind rfl ha1 (iffT (decide_eq_true rfl) ?_))))))
    refine ⟨_, rfl, _, .row ps, rfl, hp1, hd3, e1.tab _ hT, fun H2 e2 => ⟨_, rfl, ?_⟩⟩
    cases hn : nullb (.row ps) with
    | true => exact iffT rfl (flat ps a b' vs _ H2 (e1.trans e2) ha hb2 hps (Nat.le_of_succ_le_succ hd) (fun x hx => Nat.le_trans (dep_mem hx) (Nat.le_of_succ_le hd3)) low (by rw [pk, if_pos (show nullAll ps = true from hn)]))
    | false => exact iffF rfl (keep (by rw [pk, if_neg (by rw [show nullAll ps = false from hn]; decide)]) H2 (e1.trans e2))
end
end Bo
set_option Elab.async false
set_option linter.all false
set_option maxRecDepth 100000
set_option maxHeartbeats 8000000
/-! many_of -/
namespace Bo
open PySem PySem.Spec PyProof.Rows L2 GE StX
theorem stepM_subl (k : List Pat) (p : Pat) : (stepM k p).Sublist k := by
  unfold stepM
  split
  · exact List.filter_sublist
  · exact List.Sublist.refl _
theorem foldM_sub : ∀ (l k : List Pat), (l.foldl stepM k).Sublist k
  | [], k => List.Sublist.refl _
  | p :: l, k => (foldM_sub l (stepM k p)).trans (stepM_subl k p)
theorem foldM_take {l k : List Pat} {i : Nat} {p : Pat} (h : l[i]? = some p) : (l.take (i + 1)).foldl stepM k = stepM ((l.take i).foldl stepM k) p := by
  rw [List.take_succ, h, List.foldl_append]; rfl
/-- what a many may be made of -/
structure Mn (k : Nat) (p : Pat) : Prop where
  nf : NF p
  hb : Hb k p
  low : Sg Low p
  d : dp p ≤ 13
  kp : kp p ≤ 1048576
theorem Mn.sub {k : Nat} {p : Pat} (h : Mn k p) {qs : List Pat} (hs : qs.Sublist (srt (pk p))) : (∀ q ∈ qs, NF q ∧ Sg Low q ∧ dp q ≤ 13 ∧ q.dep ≤ 28) ∧ qs.length ≤ 1048576 ∧ flO qs ≤ lineB := by
  have hm : ∀ q ∈ qs, q ∈ pk p := fun q a => srt_mem.mp (hs.subset a)
  have h1 : ∀ q ∈ qs, NF q ∧ Sg Low q ∧ dp q ≤ 13 ∧ q.dep ≤ 28 := fun q a => by
    have n := pk_nf p h.nf q (hm q a)
    have d := Nat.le_trans (pk_dp p q (hm q a)) h.d
    exact ⟨n, pk_sg p h.low q (hm q a), d, by have := nf_dep2 n; omega⟩
  have h2 : qs.length ≤ 1048576 := by
    have := hs.length_le
    rw [(srt_perm (pk p)).length_eq] at this
    exact Nat.le_trans this (Nat.le_trans (pk_len h.nf) h.kp)
  refine ⟨h1, h2, ?_⟩
  have h3 := (sub_wb hs h.nf h.hb h.kp).x
  have h4 := spreadO_len qs fun q a => (h1 q a).1
  unfold flO lineB
  omega
theorem either_low {qs : List Pat} (h : ∀ q ∈ qs, NF q ∧ Sg Low q ∧ dp q ≤ 13 ∧ q.dep ≤ 28) : NF (either qs) ∧ Sg Low (either qs) ∧ (either qs).dep ≤ 28 := by
  have n := either_nf fun q a => (h q a).1
  refine ⟨n, either_sg fun q a => (h q a).2.1, ?_⟩
  have := nf_dep2 n
  have := either_dp qs
  have := dpL_le.mpr fun q a => (h q a).2.2.1
  omega
def spMo (K : PySem.W.Frag) (T : Tz) : Sp := fun vs H Q _ => ∃ (v : V) (p : Pat) (k : Nat), vs = [v] ∧ PatQ K H p v ∧ Mn k p ∧ Tbl H T ∧ ∀ H' u, Ext H H' → PatQ K H' (manyOf p) u → Q u H'
section
variable {P : Program} {w : World} {K : PySem.W.Frag} {mg : Str → Option Value} {base : Heap}
theorem scMo : FnScope ["pattern", "kept", "piece", "others", "inner", "other"] ["pattern"] (defScope sManyOf) := ⟨rfl, rfl, rfl, by decide +kernel, rfl, by decide +kernel, by decide +kernel⟩
theorem mo_ok {f : Addr} {fd : FuncData} {aA aN aE : Addr} {T : Tz} (St : Std K mg "many_of" sManyOf ["pattern"] f fd) (PK : Cal P w K mg base 100 "piece_kinds" ["pattern"] [] (spPk K T 40)) (EI : Cal P w K mg base 100 "either" ["parts"] [] (spEi K T flO either))
    (Vc : Cov P w K mg base T) (C : Consts K mg aA aN aE) (ms : mg "sorted" = none) (ml : mg "list" = none) : FnOk P w K mg base CX0 101 f fd ["pattern"] (spMo K T) := by
  obtain ⟨kf, kfd, kds, GK, bK, vK, kK, mK⟩ := PK
  obtain ⟨ef, efd, eds, GE', bE, vE, kE, mE⟩ := EI
  obtain ⟨cf, cfd, cds', GC, bC, vC, kC, mC⟩ := Vc.ex
  refine okD St.F scMo (fun vs H Q E h => ?_) (fun cdv A' outer s H vs Q E hr h => ?_)
  · obtain ⟨v, p, k, rfl, _⟩ := h
    rfl
  obtain ⟨v, p, kk, rfl, hp, hM, hT, q⟩ := h
  have hu := Nat.lt_of_le_of_lt (Nat.add_le_add_left (show 300 ≤ 16 * 100 + 200 by omega) _) (Nat.lt_of_le_of_lt (Nat.le_of_eq (Nat.add_assoc _ (16 * 100) 200).symm) hr.un)
  refine ⟨_, (pss_cons (ps_set (i := 1) scMo.nd rfl (Or.inl rfl) (pe_callB (cr_sortQ hu) rfl ms boot_sorted (pa_cons (pe_call GK hr rfl mK kK bK vK pass0 (pa_cons (pv 0) pa_nil)) pa_nil))) (pss_cons (ps_for PassesOwn.never rfl (pi_list (pe_callTy call_list_of rfl ml boot_list (pa_cons (pv 1) pa_nil))) (pg_name (i := 2) scMo.nd rfl (Or.inr rfl))
      (pss_cons (ps_setLc (i := 3) (own := [("other", 5)]) (g := gName 5) (tt := tTest (tOp (rNeQ K) (tVar 5) (tVar 2))) (te := tVar 5) rfl scMo.nd rfl rfl (sw_true rfl rfl rfl (by decide +kernel)) (pi_list (pv 1))
          (blkOk_by (N := ["pattern", "kept", "piece", "others", "inner", "other"]) (sc := defScope sManyOf) (by decide +kernel)) (fun _ _ _ _ _ => pg_name (i := 5) scMo.nd rfl (Or.inl rfl) (Or.inr rfl))
          (fun _ _ _ _ _ => pts_one (pt_cmpR (op_neQ hu) (pv 5) (pv 2) (by rfl))) (fun _ _ _ _ _ => pv 5)) (pss_one (ps_if (PW.pt (pw_and (pt_truth (pv 3) (by intro _; rfl)) (pw_and1 (pt_val (pe_call GC (hr.mono (by decide)) rfl mC kC bC vC pass0 (pa_cons (pe_tup (pa_cons pe_str (pa_cons (pe_call GE' hr rfl mE kE bE vE pass0 (pa_cons (pv 3) pa_nil)) pa_nil))) (pa_cons (pv 2) pa_nil)))))))
          (pss_one (ps_set (i := 1) scMo.nd rfl (Or.inl rfl) (pv 3))) pss_nil)))) (pss_cons (ps_set (i := 4) scMo.nd rfl (Or.inl rfl) (pe_call GE' hr rfl mE kE bE vE pass0 (pa_cons (pv 1) pa_nil))) (pss_cons (ps_if (pt_cmpR (op_eqQ hu) (pv 4) (pe_glob rfl C.mN (v := .ref aN) rfl) (by rfl)) (pss_one (ps_ret (pe_glob rfl C.mE (v := .ref aE) rfl))) pss_nil) (pss_cons (ps_if (pt_cmpR (op_eqQ hu) (pv 4) (pe_glob rfl C.mA (v := .ref aA) rfl) (by rfl)) (pss_one (ps_ret (pe_glob rfl C.mA (v := .ref aA) rfl))) pss_nil) (pss_one (ps_ret (pe_tup (pa_cons pe_str (pa_cons (pv 4) pa_nil)))))))))), ?_⟩
  have ll := line_le
  have lB : lineB = 4194304 := rfl
  have hs0 := hM.sub (List.Sublist.refl _)
  have h30 : p.dep ≤ 30 := by have := nf_dep2 hM.nf; have := hM.d; omega
  have hlen : (pk p).length ≤ 1048576 := Nat.le_trans (pk_len hM.nf) hM.kp
  refine t_set ⟨_, rfl, v, p, rfl, hp, by omega, h30, hM.low, by omega, hT.c.te, fun r1 H1 ws1 e1 _ hr1 hs1 => ⟨r1, ws1, pk p, rfl, SqL.of hr1, hs1, SgL_iff.mpr fun q a => pk_sg p hM.low q a, fun q a => Nat.le_trans (hs0.1 q (srt_mem.mpr a)).2.2.2 (by decide), fun ws l hws hl => ?_⟩⟩
  have e2 := Ext.new (o := .lst ws) hl
  have hl2 : (upd H1 l (.lst ws)) l = some (.lst ws) := upd_same
  have hws2 := PatsQ.ext e2 _ _ hws
  generalize upd H1 l (.lst ws) = H2 at e2 hl2 hws2 ⊢
  have e12 := e1.trans e2
  refine t_seq ⟨_, rfl, l, ws, rfl, .inl (SqL.of hl2), fun l3 hl3 => ?_⟩
  have e3 := Ext.new (o := .lst ws) hl3
  have hl3' : (upd H2 l3 (.lst ws)) l3 = some (.lst ws) := upd_same
  generalize upd H2 l3 (.lst ws) = H3 at e3 hl3' ⊢
  refine ⟨l3, rfl, ⟨ws, SqL.of hl3'⟩, ?_⟩
  have e13 := e12.trans e3
  refine for_list (K := K) (a := l3) (xs := ws) (fun i σ' H' => ∃ o2 o3 k r ks, σ' = [some v, some (.ref r), o2, o3, none, none] ∧ k = ((srt (pk p)).take i).foldl stepM (srt (pk p)) ∧ Ext H3 H' ∧ H' r = some (.lst ks) ∧ PatsQ K H' k ks) ⟨none, none, _, l, ws, rfl, rfl, Ext.refl _, e3.lst hl2, PatsQ.ext e3 _ _ hws2⟩ (fun i σ' H' _ ⟨_, _, _, _, _, _, _, e, _⟩ => SqL.of (e.lst hl3')) ?_ ?_
  · rintro i u σ' H' hv ⟨o2, o3, k, r, ks, rfl, ek, e, hr', hk⟩
    obtain ⟨x, hx, hxu⟩ := (PatsQ.ext (e3.trans e) _ _ hws2).get hv
    have hxm := List.mem_of_getElem? hx
    have okx := hs0.1 x hxm
    have hsub : k.Sublist (srt (pk p)) := by rw [ek]; exact foldM_sub _ _
    have hsk := hM.sub hsub
    have next : ∀ k', stepM k x = k' → ((srt (pk p)).take (i + 1)).foldl stepM (srt (pk p)) = k' := fun k' h => by rw [foldM_take hx, ← ek]; exact h
    refine t_set ?_
    refine keep_list (K := K) (ps := k) (fun o => !decide (o = x)) (by omega) (fun _ => ⟨rfl, rfl⟩) (fun R hR => ⟨_, rfl, hR r ks H' (Ext.refl _) hr' hk⟩) (fun o ho u2 H4 hu2 e4 Q' k' => ⟨_, rfl, _, rfl, o, x, hu2, PatQ.ext e4 _ _ hxu, (hsk.1 o ho).2.1, okx.2.1, Nat.le_trans (hsk.1 o ho).2.2.2 (by decide), _, rfl, k' H4 (Ext.refl _)⟩) (fun r4 H4 ws4 e4 _ hr4 hs4 => ?_)
    have hsub4 : (k.filter fun o => !decide (o = x)).Sublist (srt (pk p)) := List.filter_sublist.trans hsub
    have hs4s := hM.sub hsub4
    have e34 := e.trans e4
    -- nothing is left out
    have stay : ∀ H5, Ext H4 H5 → ¬ ((k.filter fun o => !decide (o = x)) ≠ [] ∧ c8 (.many (either (k.filter fun o => !decide (o = x)))) x = true) → ∃ o2 o3 k r' ks, [some v, some (V.ref r), some u, some (V.ref r4), none, none] = [some v, some (V.ref r'), o2, o3, none, none] ∧ k = ((srt (pk p)).take (i + 1)).foldl stepM (srt (pk p)) ∧ Ext H3 H5 ∧ H5 r' = some (.lst ks) ∧ PatsQ K H5 k ks :=
      fun H5 e5 hn => ⟨_, _, k, r, ks, rfl, (next k (by unfold stepM; rw [if_neg hn])).symm, e34.trans e5, (e4.trans e5).lst hr', PatsQ.ext (e4.trans e5) _ _ hk⟩
    refine ⟨_, rfl, !ws4.isEmpty, .inl ⟨ws4, SqL.of hr4, rfl⟩, ?_⟩
    cases hf : (k.filter fun o => !decide (o = x)) with
    | nil =>
      rw [hf] at hs4
      have hs4' : ws4 = [] := hs4
      subst hs4'
      exact iffF rfl (stay H4 (Ext.refl _) fun h => h.1 hf)
    | cons o os =>
      have hne : ws4.isEmpty = false := by
        have := hs4.len
        rw [hf] at this
        cases ws4 with
        | nil => simp at this
        | cons _ _ => rfl
      refine iffT (by rw [hne]; rfl) ⟨_, rfl, r4, ws4, _, rfl, SqL.of hr4, ⟨hs4, fun q a => ⟨(hs4s.1 q a).2.1, Nat.le_trans (hs4s.1 q a).2.2.2 (by decide)⟩⟩, hs4s.2.2, hT.ext (e13.trans e34), fun H5 u5 e5 hu5 => ⟨show 2 ≤ sizeLine by decide, fun p6 hp6 => ⟨u, rfl, ?_⟩⟩⟩
      have e6 := Ext.new (o := .tup [V.str "many", u5]) hp6
      have lo := either_low hs4s.1
      have hm6 : PatQ K (upd H5 p6 (.tup [V.str "many", u5])) (.many (either (k.filter fun o => !decide (o = x)))) (.ref p6) := ⟨p6, u5, rfl, SqT.of upd_same, PatQ.ext e6 _ _ hu5⟩
      dsimp only [tNil]
      refine id_call (vs := [.ref p6, u]) rfl ⟨hm6, lo.2.1, Nat.succ_le_succ (Nat.le_trans lo.2.2 (by decide))⟩ ⟨PatQ.ext ((e4.trans e5).trans e6) _ _ hxu, okx.2.1, Nat.le_trans okx.2.2.2 (by decide)⟩ (hT.ext ((e13.trans e34).trans (e5.trans e6))) fun H7 e7 => ⟨_, rfl, ?_⟩
      have e47 := (e5.trans e6).trans e7
      cases hc : c8 (.many (either (k.filter fun o => !decide (o = x)))) x with
      | true =>
        refine iffT rfl ⟨.ref r4, rfl, ?_⟩
        exact ⟨_, _, _, r4, ws4, rfl, (next _ (by unfold stepM; rw [if_pos ⟨by rw [hf]; exact List.cons_ne_nil _ _, hc⟩])).symm, e34.trans e47, e47.lst hr4, PatsQ.ext e47 _ _ hs4⟩
      | false => exact iffF rfl (stay H7 e47 fun h => by rw [hc] at h; cases h.2)
  · rintro σ' H' ⟨o2, o3, k, r, ks, rfl, ek, e, hr', hk⟩
    rw [hws2.len, List.take_length] at ek
    have ek : k = keptM p := ek
    subst ek
    have hsk := hM.sub (keptM_sub p)
    have lo := either_low hsk.1
    dsimp only
    refine t_set ⟨_, rfl, r, ks, _, rfl, SqL.of hr', ⟨hk, fun q a => ⟨(hsk.1 q a).2.1, Nat.le_trans (hsk.1 q a).2.2.2 (by decide)⟩⟩, hsk.2.2, hT.ext (e13.trans e), fun H5 u5 e5 hu5 => ?_⟩
    have e15 := (e13.trans e).trans e5
    have dd : (either (keptM p)).dep ≤ 100 := Nat.le_trans lo.2.2 (by decide)
    refine t_seq ⟨_, rfl, either (keptM p), .none, hu5, C.hN _, lo.2.1, trivial, dd, _, rfl, ?_⟩
    by_cases h1 : either (keptM p) = .none
    · refine iffT (decide_eq_true h1) (q H5 _ e15 ?_)
      unfold manyOf manyE
      rw [if_pos h1]; exact C.hE _
    refine iffF (decide_eq_false h1) ?_
    dsimp only [tNext]
    refine t_seq ⟨_, rfl, either (keptM p), ALL, hu5, C.hA _, lo.2.1, trivial, dd, _, rfl, ?_⟩
    by_cases h2 : either (keptM p) = ALL
    · refine iffT (decide_eq_true h2) (q H5 _ e15 ?_)
      unfold manyOf manyE
      rw [if_neg h1, if_pos h2]; exact C.hA _
    refine iffF (decide_eq_false h2) ⟨_, rfl, show 2 ≤ sizeLine by decide, fun p6 hp6 => ?_⟩
    have e6 := Ext.new (o := .tup [V.str "many", u5]) hp6
    refine q _ _ (e15.trans e6) ?_
    unfold manyOf manyE
    rw [if_neg h1, if_neg h2]
    exact ⟨p6, u5, rfl, SqT.of upd_same, PatQ.ext e6 _ _ hu5⟩
end
end Bo
set_option Elab.async false
set_option linter.all false
set_option maxRecDepth 100000
set_option maxHeartbeats 8000000
/-! normal -/
namespace Bo
open PySem PySem.Spec PyProof.Rows L2 GE StX
mutual
/-- no list in it is too long -/
def Wd : Pat → Prop
  | .row ps => ps.length ≤ 1048576 ∧ WdL ps
  | .or ps => ps.length ≤ 1048576 ∧ WdL ps
  | .and ps => ps.length ≤ 1048576 ∧ WdL ps
  | .many p => Wd p
  | .not p => Wd p
  | _ => True
def WdL : List Pat → Prop
  | [] => True
  | p :: ps => Wd p ∧ WdL ps
end
theorem WdL_iff : ∀ {ps : List Pat}, WdL ps ↔ ∀ p ∈ ps, Wd p
  | [] => ⟨fun _ _ h => (by cases h), fun _ => trivial⟩
  | p :: ps => ⟨fun h q a => (List.mem_cons.mp a).elim (fun e => e ▸ h.1) fun a => WdL_iff.mp h.2 q a, fun h => ⟨h p List.mem_cons_self, WdL_iff.mpr fun q a => h q (List.mem_cons_of_mem _ a)⟩⟩
theorem size_len : ∀ ps : List Pat, ps.length ≤ sizeL ps
  | [] => Nat.le_refl _
  | p :: ps => by
    have := size_len ps
    have := size_pos p
    show ps.length + 1 ≤ p.size + sizeL ps
    omega
mutual
theorem wd_size : ∀ p : Pat, p.size ≤ 1048576 → Wd p
  | .none, _ => trivial
  | .empty, _ => trivial
  | .sign _, _ => trivial
  | .row ps, h => ⟨Nat.le_trans (size_len ps) (Nat.le_of_succ_le h), wdL_size ps (Nat.le_of_succ_le h)⟩
  | .or ps, h => ⟨Nat.le_trans (size_len ps) (Nat.le_of_succ_le h), wdL_size ps (Nat.le_of_succ_le h)⟩
  | .and ps, h => ⟨Nat.le_trans (size_len ps) (Nat.le_of_succ_le h), wdL_size ps (Nat.le_of_succ_le h)⟩
  | .many p, h => wd_size p (Nat.le_of_succ_le h)
  | .not p, h => wd_size p (Nat.le_of_succ_le h)
theorem wdL_size : ∀ ps : List Pat, sizeL ps ≤ 1048576 → WdL ps
  | [], _ => trivial
  | p :: ps, h => ⟨wd_size p (Nat.le_trans (Nat.le_add_right _ _) h), wdL_size ps (Nat.le_trans (Nat.le_add_left _ _) h)⟩
end
theorem row_len {k : Nat} {ps : List Pat} (h : NF (.row ps)) (b : Hb k (.row ps)) : ps.length ≤ 11 := by
  have h1 := spreadR_len ps
  have h2 : (lmP ps).a ≤ 11 := Nat.le_trans (Nat.le_max_right _ _) b.2.1.a
  rw [spread_flat fun p a => (by have := (NFl_iff.mp h.2.2 p a).1; unfold cR at this; simp only [Bool.and_eq_true, Bool.not_eq_true'] at this; exact this.1)] at h1
  omega
mutual
theorem wd_nf {k : Nat} : ∀ p : Pat, NF p → Hb k p → Wd p
  | .none, _, _ => trivial
  | .empty, _, _ => trivial
  | .sign _, _, _ => trivial
  | .row ps, h, b => ⟨Nat.le_trans (row_len h b) (by decide), wdL_nf cR ps h.2.2 b.2.2⟩
  | .or ps, h, b => ⟨Nat.le_trans (nf_width h) b.1.x, wdL_nf cO ps h.2 b.2.2⟩
  | .and ps, h, b => ⟨Nat.le_trans (nf_widthA h) (Nat.le_trans (Nat.le_add_left _ 1) b.1.x), wdL_nf cA ps h.2 b.2.2⟩
  | .many p, h, b => wd_nf p h b.2.2.2
  | .not p, h, b => wd_nf p h b.2.2
theorem wdL_nf {k : Nat} (c : Pat → Bool) : ∀ ps : List Pat, NFl c ps → HbL k ps → WdL ps
  | [], _, _ => trivial
  | p :: ps, h, b => ⟨wd_nf p h.2.1 b.1, wdL_nf c ps h.2.2 b.2⟩
end
theorem normals_map : ∀ ps : List Pat, normals ps = ps.map normal
  | [] => rfl
  | p :: ps => by rw [normals, normals_map ps]; rfl
/-! the wide row -/
theorem manyOf_cases (p : Pat) : manyOf p = .empty ∨ manyOf p = ALL ∨ ∃ i, manyOf p = .many i := by
  unfold manyOf manyE
  split
  · exact .inl rfl
  · split
    · exact .inr (.inl rfl)
    · exact .inr (.inr ⟨_, rfl⟩)
theorem along_self {m : Pat} (h : m = ALL ∨ ∃ i, m = .many i) : along m m = true := by
  unfold along
  rw [c8_self, Bool.and_true]
  rcases h with rfl | ⟨i, rfl⟩
  · rfl
  · rfl
theorem flat_rep {m : Pat} (h : pieces m = [m]) : ∀ n, spread pieces (List.replicate n m) = List.replicate n m
  | 0 => rfl
  | n + 1 => by
    show pieces m ++ spread pieces (List.replicate n m) = m :: List.replicate n m
    rw [h, flat_rep h n]; rfl
theorem fold_rep {m : Pat} (h : along m m = true) : ∀ n, (List.replicate n m).foldl stepS [m] = [m]
  | 0 => rfl
  | n + 1 => by
    show (List.replicate n m).foldl stepS (stepS [m] m) = [m]
    have : stepS [m] m = [m] := by unfold stepS; simp only [h, if_true]
    rw [this, fold_rep h n]
theorem wide_kept {m : Pat} (h : m = ALL ∨ ∃ i, m = .many i) (n : Nat) : keptR (List.replicate (n + 1) m) = [m] := by
  have hp : pieces m = [m] := by rcases h with rfl | ⟨i, rfl⟩ <;> rfl
  have he : ∀ p ∈ List.replicate (n + 1) m, p ≠ .empty := fun p a => by
    rw [List.eq_of_mem_replicate a]
    rcases h with rfl | ⟨i, rfl⟩
    · intro e; cases e
    · intro e; cases e
  unfold keptR
  rw [flat_rep hp, filter_all he]
  unfold shortened
  show ((List.replicate n m).foldl stepS [m]).reverse = [m]
  rw [fold_rep (along_self h)]; rfl
theorem wide_empty (n : Nat) : keptR (List.replicate n .empty) = [] := by
  unfold keptR
  rw [flat_rep rfl]
  have : (List.replicate n Pat.empty).filter (fun p => !decide (p = .empty)) = [] := List.filter_eq_nil_iff.mpr fun p a => by rw [List.eq_of_mem_replicate a]; simp
  rw [this]; rfl
theorem wide_row {m : Pat} (h : m = .empty ∨ m = ALL ∨ ∃ i, m = .many i) (n : Nat) : rowOf (List.replicate (n + 1) m) = m ∧ (keptR (List.replicate (n + 1) m)).length ≤ 1 ∧ ∀ fs rest, keptR (List.replicate (n + 1) m) ≠ .or fs :: rest := by
  rcases h with rfl | h
  · have e := wide_empty (n + 1)
    refine ⟨?_, by rw [e]; exact Nat.zero_le _, fun fs rest => by rw [e]; intro z; cases z⟩
    unfold rowOf rowF
    rw [e]; rfl
  · have e := wide_kept h n
    refine ⟨?_, by rw [e]; exact Nat.le_refl _, fun fs rest => by
      rw [e]
      rcases h with rfl | ⟨i, rfl⟩
      · intro z; cases z
      · intro z; cases z⟩
    unfold rowOf rowF
    rw [e]
    rcases h with rfl | ⟨i, rfl⟩ <;> simp [joined, ALL]
/-- what normal may be asked of -/
inductive NoOk : Pat → Prop
  | small {p : Pat} (k : Nat) (hb : Hb k p) (wd : Wd p) (low : Sg Low p) (d : dp p ≤ 13) : NoOk p
  | wide (k n : Nat) (x : Pat) (hn : n < 20) (hb : Hb k (.many x)) (wd : Wd x) (low : Sg Low x) (d : dp (.many x) ≤ 13) : NoOk (.row (List.replicate (n + 1) (.many x)))
/-- the parts of a row that normal is asked of -/
theorem NoOk.parts {ps : List Pat} (h : NoOk (.row ps)) : (∀ p ∈ ps, NoOk p) ∧ ps.length ≤ 1048576 ∧ RwG (normals ps) ∧ (∀ p ∈ normals ps, NF p) ∧ (keptR (normals ps)).length ≤ 11 := by
  generalize e : Pat.row ps = r at h
  cases h with
  | small k hb wd low d =>
    subst e
    have d1 : dpL ps + 1 ≤ 13 := d
    have hR : Rw k (normals ps) := ⟨fun p a => ⟨normals_nf ps p a, normals_hb ps hb.2.2 p a, normals_sg ps low p a⟩, hb.1.le (normals_wtP ps), hb.2.1.le (Lm.cap_le (normals_lmP ps)), Nat.le_trans (normals_dp ps) (Nat.le_of_succ_le d1)⟩
    exact ⟨fun p a => .small k (HbL_iff.mp hb.2.2 p a) (WdL_iff.mp wd.2 p a) (SgL_iff.mp low p a) (Nat.le_trans (dp_mem a) (Nat.le_of_succ_le d1)), wd.1, hR.gen, normals_nf ps, hR.keptLen⟩
  | wide k n x hn hb wd low d =>
    cases e
    have hx : NoOk (.many x) := .small k hb wd low d
    have en : normals (List.replicate (n + 1) (.many x)) = List.replicate (n + 1) (manyOf (normal x)) := by rw [normals_map, List.map_replicate]; rfl
    have nm : NF (manyOf (normal x)) := manyOf_nf (normal_nf x)
    have dm : dp (manyOf (normal x)) ≤ 13 := Nat.le_trans (manyOf_dp _) (Nat.le_trans (Nat.succ_le_succ (normal_dp x)) d)
    have hw := wide_row (manyOf_cases (normal x)) n
    refine ⟨fun p a => by rw [List.eq_of_mem_replicate a]; exact hx, by rw [List.length_replicate]; omega, ?_, fun p a => normals_nf _ p a, by rw [en]; exact Nat.le_trans hw.2.1 (by decide)⟩
    rw [en]
    refine ⟨fun p a => ?_, ?_, fun fs rest e => absurd e (hw.2.2 fs rest)⟩
    · rw [List.eq_of_mem_replicate a]
      exact ⟨manyOf_sg (normal_sg x low), by have := nf_dep2 nm; omega⟩
    · have hp : pieces (manyOf (normal x)) = [manyOf (normal x)] := by
        rcases manyOf_cases (normal x) with e | e | ⟨i, e⟩ <;> (rw [e]; rfl)
      rw [flat_rep hp, List.length_replicate]; omega
def spNo (K : PySem.W.Frag) (T : Tz) (d : Nat) : Sp := fun vs H Q _ => ∃ (v : V) (p : Pat), vs = [v] ∧ PatQ K H p v ∧ p.dep ≤ d ∧ NoOk p ∧ Tbl H T ∧ ∀ H' u, Ext H H' → PatQ K H' (normal p) u → Q u H'
section
variable {P : Program} {w : World} {K : PySem.W.Frag} {mg : Str → Option Value} {base : Heap}
theorem scNo : FnScope ["pattern", "part"] ["pattern"] (defScope sNormal) := ⟨rfl, rfl, rfl, by decide +kernel, rfl, by decide +kernel, by decide +kernel⟩
theorem no_none {f : Addr} {fd : FuncData} {T : Tz} {k : Nat} : FnOk P w K mg base CX0 k f fd ["pattern"] (spNo K T 0) := by
  have no : ∀ vs H Q E, ¬ spNo K T 0 vs H Q E := fun vs H Q E h => by
    obtain ⟨v, p, _, _, hd, _⟩ := h
    have := dep_pos p
    omega
  exact ⟨fun vs H Q E h => absurd h (no vs H Q E), fun A outer s H args us vs Q E _ _ _ _ h => absurd h (no vs H Q E)⟩
/-- the defs that the forms are made by -/
structure Forms (P : Program) (w : World) (K : PySem.W.Frag) (mg : Str → Option Value) (base : Heap) (T : Tz) : Prop where
  mo : Cal P w K mg base 101 "many_of" ["pattern"] [] (spMo K T)
  ng : Cal P w K mg base 1 "negated" ["pattern"] [] (spNg K)
  ro : Cal P w K mg base 112 "row_of" ["parts"] [] (spRO K T)
  ei : Cal P w K mg base 100 "either" ["parts"] [] (spEi K T flO either)
  bo : Cal P w K mg base 100 "both" ["parts"] [] (spEi K T flA both)
theorem no_step {f : Addr} {fd : FuncData} {T : Tz} {k d : Nat} (St : Std K mg "normal" sNormal ["pattern"] f fd) (G : FnOk P w K mg base CX0 k f fd ["pattern"] (spNo K T d)) (hk : 112 ≤ k) (FM : Forms P w K mg base T) : FnOk P w K mg base CX0 (k + 1) f fd ["pattern"] (spNo K T (d + 1)) := by
  obtain ⟨f1, fd1, ds1, G1, b1, v1, k1, m1⟩ := FM.mo
  obtain ⟨f2, fd2, ds2, G2, b2, v2, k2, m2⟩ := FM.ng
  obtain ⟨f3, fd3, ds3, G3, b3, v3, k3, m3⟩ := FM.ro
  obtain ⟨f4, fd4, ds4, G4, b4, v4, k4, m4⟩ := FM.ei
  obtain ⟨f5, fd5, ds5, G5, b5, v5, k5, m5⟩ := FM.bo
  refine okD St.F scNo (fun vs H Q E h => ?_) (fun cdv A' outer s H vs Q E hr h => ?_)
  · obtain ⟨v, p, rfl, _⟩ := h
    rfl
  obtain ⟨v, p, rfl, hp, hd, hN, hT, q⟩ := h
  refine ⟨_, (pss_cons (ps_if (pt_cmpR op_eq (pe_ix ix_tup (pv 0) pe_int (fun _ _ => rfl)) pe_str (nomark _)) (pss_one (ps_ret (pe_call G1 (hr.mono (by omega)) rfl m1 k1 b1 v1 pass0 (pa_cons (pe_call G hr rfl St.m St.F.kp St.b .nil pass0 (pa_cons (pe_ix ix_tup (pv 0) pe_int (fun _ _ => rfl)) pa_nil)) pa_nil)))) pss_nil) (pss_cons (ps_if (pt_cmpR op_eq (pe_ix ix_tup (pv 0) pe_int (fun _ _ => rfl)) pe_str (nomark _)) (pss_one (ps_ret (pe_call G2 (hr.mono (by omega)) rfl m2 k2 b2 v2 pass0 (pa_cons (pe_call G hr rfl St.m St.F.kp St.b .nil pass0 (pa_cons (pe_ix ix_tup (pv 0) pe_int (fun _ _ => rfl)) pa_nil)) pa_nil)))) pss_nil) (pss_cons (ps_if (pt_cmpR op_eq (pe_ix ix_tup (pv 0) pe_int (fun _ _ => rfl)) pe_str (nomark _)) (pss_one (ps_ret (pe_call G3 (hr.mono (by omega)) rfl m3 k3 b3 v3 pass0 (pa_cons (pe_lc (own := [("part", 1)]) (g := gName 1) (tt := tYes) (te := tCall (spNo K T d) [] E0 (tCons (tVar 1) tNil)) rfl scNo.nd (pi_tup (pe_ix ix_tup (pv 0) pe_int (fun _ _ => rfl)))
        (blkOk_by (N := ["pattern", "part"]) (sc := defScope sNormal) (by decide +kernel)) (fun _ _ _ _ _ => pg_name (i := 1) scNo.nd rfl (Or.inl rfl) (Or.inr rfl)) (fun _ _ _ _ _ => pts_nil) (fun _ _ _ _ _ => pe_call G hr rfl St.m St.F.kp St.b .nil pass0 (pa_cons (pv 1) pa_nil))) pa_nil)))) pss_nil) (pss_cons (ps_if (pt_cmpR op_eq (pe_ix ix_tup (pv 0) pe_int (fun _ _ => rfl)) pe_str (nomark _)) (pss_one (ps_ret (pe_call G4 (hr.mono (by omega)) rfl m4 k4 b4 v4 pass0 (pa_cons (pe_lc (own := [("part", 1)]) (g := gName 1) (tt := tYes) (te := tCall (spNo K T d) [] E0 (tCons (tVar 1) tNil)) rfl scNo.nd (pi_tup (pe_ix ix_tup (pv 0) pe_int (fun _ _ => rfl)))
        (blkOk_by (N := ["pattern", "part"]) (sc := defScope sNormal) (by decide +kernel)) (fun _ _ _ _ _ => pg_name (i := 1) scNo.nd rfl (Or.inl rfl) (Or.inr rfl)) (fun _ _ _ _ _ => pts_nil) (fun _ _ _ _ _ => pe_call G hr rfl St.m St.F.kp St.b .nil pass0 (pa_cons (pv 1) pa_nil))) pa_nil)))) pss_nil) (pss_cons (ps_if (pt_cmpR op_eq (pe_ix ix_tup (pv 0) pe_int (fun _ _ => rfl)) pe_str (nomark _)) (pss_one (ps_ret (pe_call G5 (hr.mono (by omega)) rfl m5 k5 b5 v5 pass0 (pa_cons (pe_lc (own := [("part", 1)]) (g := gName 1) (tt := tYes) (te := tCall (spNo K T d) [] E0 (tCons (tVar 1) tNil)) rfl scNo.nd (pi_tup (pe_ix ix_tup (pv 0) pe_int (fun _ _ => rfl)))
        (blkOk_by (N := ["pattern", "part"]) (sc := defScope sNormal) (by decide +kernel)) (fun _ _ _ _ _ => pg_name (i := 1) scNo.nd rfl (Or.inl rfl) (Or.inr rfl)) (fun _ _ _ _ _ => pts_nil) (fun _ _ _ _ _ => pe_call G hr rfl St.m St.F.kp St.b .nil pass0 (pa_cons (pv 1) pa_nil))) pa_nil)))) pss_nil) (pss_one (ps_ret (pv 0)))))))), ?_⟩
  have sE : sizeLine = 16777216 := sizeLine_eq
  -- the parts, each in the fixed form
  have parts : ∀ (ps : List Pat) (a b : Addr) (us : List V) (z : V) (R : VK), SqT K H a [z, .ref b] → H b = some (.tup us) → PatsQ K H ps us → depL ps ≤ d → (∀ x ∈ ps, NoOk x) → ps.length ≤ 1048576 → (∀ r H' ws, Ext H H' → H' r = some (.lst ws) → PatsQ K H' (normals ps) ws → R (.ref r) H') →
      tLc (iTup K (tOp (rIxT K) (tVar 0) (tC (.int 1)))) (gName 1) tYes (tCall (spNo K T d) [] E0 (tCons (tVar 1) tNil)) [1] [some (.ref a), none] H R := by
    intro ps a b us z R ha hb hps hdl hN hlen k
    refine map_pats (K := K) (ps := ps) normal (by omega) (fun _ => rfl) (fun R hR => q_ix 1 rfl ha rfl (hR b us H (Ext.refl _) hb hps)) (fun x hx u H' hu e Q' k' => ⟨_, rfl, u, x, rfl, hu, Nat.le_trans (dep_mem hx) hdl, hN x hx, hT.ext e, fun H'' u' e' hu' => k' H'' u' e' hu'⟩) (fun r H' ws e _ hr hs => k r H' ws e hr (by rw [normals_map]; exact hs))
  have other : rank p ≠ 2 → rank p ≠ 4 → rank p ≠ 6 → rank p ≠ 5 → rank p ≠ 0 → normal p = p := fun n1 n2 n3 n4 n5 => by cases p <;> first | rfl | exact absurd rfl n1 | exact absurd rfl n2 | exact absurd rfl n3 | exact absurd rfl n4 | exact absurd rfl n5
  by_cases ho : rank p ≠ 2 ∧ rank p ≠ 4 ∧ rank p ≠ 6 ∧ rank p ≠ 5 ∧ rank p ≠ 0
  · obtain ⟨n1, n2, n3, n4, n5⟩ := ho
    obtain ⟨a, xs, rfl, ha⟩ := hp.hd
    refine t_seq (q_kF rfl ha (kind_neq (i := 2) (by decide) n1) (t_seq (q_kF rfl ha (kind_neq (i := 4) (by decide) n2) (t_seq (q_kF rfl ha (kind_neq (i := 6) (by decide) n3) (t_seq (q_kF rfl ha (kind_neq (i := 5) (by decide) n4) (t_seq (q_kF rfl ha (kind_neq (i := 0) (by decide) n5) ⟨_, rfl, q H _ (Ext.refl _) ?_⟩)))))))))
    rw [other n1 n2 n3 n4 n5]; exact hp
  cases p with
  | none => exact absurd (by simp [rank]) ho
  | empty => exact absurd (by simp [rank]) ho
  | sign c => exact absurd (by simp [rank]) ho
  | many x =>
    obtain ⟨a, u, rfl, ha, hu⟩ := hp
    refine t_seq (q_kT rfl ha (q_ix 1 rfl ha rfl ?_))
    cases hN with
    | small k' hb wd low dd =>
      have d1 : dp x + 1 ≤ 13 := dd
      refine ⟨u, x, rfl, hu, Nat.le_of_succ_le_succ hd, .small k' hb.2.2.2 wd low (Nat.le_of_succ_le d1), hT, fun H1 u1 e1 hu1 => ?_⟩
      exact ⟨u1, normal x, k', rfl, hu1, ⟨normal_nf x, normal_hb x hb.2.2.2, normal_sg x low, Nat.le_trans (normal_dp x) (Nat.le_of_succ_le d1), Nat.le_trans (normal_kp x) hb.1⟩, hT.ext e1, fun H2 u2 e2 hu2 => q H2 u2 (e1.trans e2) hu2⟩
  | not x =>
    obtain ⟨a, u, rfl, ha, hu⟩ := hp
    refine t_seq (q_kF rfl ha (by decide) (t_seq (q_kT rfl ha (q_ix 1 rfl ha rfl ?_))))
    cases hN with
    | small k' hb wd low dd =>
      have d1 : dp x + 1 ≤ 13 := dd
      refine ⟨u, x, rfl, hu, Nat.le_of_succ_le_succ hd, .small k' hb.2.2 wd low (Nat.le_of_succ_le d1), hT, fun H1 u1 e1 hu1 => ?_⟩
      exact ⟨u1, normal x, rfl, hu1, fun H2 u2 e2 hu2 => q H2 u2 (e1.trans e2) hu2⟩
  | row ps =>
    obtain ⟨a, b, us, rfl, ha, hb, hps⟩ := hp
    obtain ⟨h1, h2, h3, h4, h5⟩ := hN.parts
    refine t_seq (q_kF rfl ha (by decide) (t_seq (q_kF rfl ha (by decide) (t_seq (q_kT rfl ha (ret_val (call_one ?_)))))))
    exact parts ps a b us _ _ ha hb hps (Nat.le_of_succ_le_succ hd) h1 h2 fun r H1 ws e1 hr1 hs1 => ⟨r, ws, normals ps, rfl, SqL.of hr1, hs1, h3, h4, h5, hT.ext e1, fun H2 u2 e2 hu2 => q H2 u2 (e1.trans e2) hu2⟩
  | or ps =>
    obtain ⟨a, b, us, rfl, ha, hb, hps⟩ := hp
    cases hN with
    | small k' hbb wd low dd =>
      have dd : dpL ps ≤ 13 := dd
      refine t_seq (q_kF rfl ha (by decide) (t_seq (q_kF rfl ha (by decide) (t_seq (q_kF rfl ha (by decide) (t_seq (q_kT rfl ha (ret_val (call_one ?_)))))))))
      refine parts ps a b us _ _ ha hb hps (Nat.le_of_succ_le_succ hd) (fun x hx => .small k' (HbL_iff.mp hbb.2.2 x hx) (WdL_iff.mp wd.2 x hx) (SgL_iff.mp low x hx) (Nat.le_trans (dp_mem hx) dd)) wd.1 fun r H1 ws e1 hr1 hs1 => ⟨r, ws, normals ps, rfl, SqL.of hr1, ⟨hs1, fun x hx => ⟨normals_sg ps low x hx, ?_⟩⟩, ?_, hT.ext e1, fun H2 u2 e2 hu2 => q H2 u2 (e1.trans e2) hu2⟩
      · have := nf_dep2 (normals_nf ps x hx)
        have := dp_mem hx
        have := normals_dp ps
        omega
      · have h1 := spreadO_len (normals ps) (normals_nf ps)
        have h2 := (normals_wtS ps).x
        have h3 := hbb.1.x
        have h4 := wd.1
        rw [normals_map, List.length_map, ← normals_map] at h1
        unfold flO lineB
        omega
  | and ps =>
    obtain ⟨a, b, us, rfl, ha, hb, hps⟩ := hp
    cases hN with
    | small k' hbb wd low dd =>
      have dd : dpL ps + 1 ≤ 13 := dd
      refine t_seq (q_kF rfl ha (by decide) (t_seq (q_kF rfl ha (by decide) (t_seq (q_kF rfl ha (by decide) (t_seq (q_kF rfl ha (by decide) (t_seq (q_kT rfl ha (ret_val (call_one ?_)))))))))))
      refine parts ps a b us _ _ ha hb hps (Nat.le_of_succ_le_succ hd) (fun x hx => .small k' (HbL_iff.mp hbb.2.2 x hx) (WdL_iff.mp wd.2 x hx) (SgL_iff.mp low x hx) (Nat.le_trans (dp_mem hx) (Nat.le_of_succ_le dd))) wd.1 fun r H1 ws e1 hr1 hs1 => ⟨r, ws, normals ps, rfl, SqL.of hr1, ⟨hs1, fun x hx => ⟨normals_sg ps low x hx, ?_⟩⟩, ?_, hT.ext e1, fun H2 u2 e2 hu2 => q H2 u2 (e1.trans e2) hu2⟩
      · have := nf_dep2 (normals_nf ps x hx)
        have := dp_mem hx
        have := normals_dp ps
        omega
      · have h1 := spreadA_len (normals ps) (normals_nf ps)
        have h2 := (normals_wtS ps).x
        have h3 : 1 + (wtS ps).x ≤ 1048576 := hbb.1.x
        have h4 := wd.1
        rw [normals_map, List.length_map, ← normals_map] at h1
        unfold flA lineB
        omega
end
end Bo
set_option Elab.async false
set_option linter.all false
set_option maxRecDepth 100000
set_option maxHeartbeats 8000000
/-! row_behind, behind -/
namespace Bo
open PySem PySem.Spec PyProof.Rows L2 GE StX
theorem for_enumT {K : PySem.W.Frag} {a : Addr} {xs : List V} {g : TG} {tb : TS} {D : Ends} {σ : L2.St} {H : Hp} (Pv : Nat → L2.St → Hp → Prop) (h0 : Pv 0 σ H) (hq : ∀ i σ H, Pv i σ H → SqT K H a xs)
    (hs : ∀ (i : Nat) (x : V) (T : Addr) (σ : L2.St) (H : Hp), xs[i]? = some x → Pv i σ H → H T = none → g (.ref T) σ (upd H T (.tup [.int (i : Nat), x])) fun σ2 H2 => tb { D with nx := Pv (i + 1), ct := Pv (i + 1), bk := D.nx } σ2 H2) (hd : ∀ σ H, Pv xs.length σ H → D.nx σ H) :
    ∃ W : Nat → Nat → L2.St → Hp → Prop, (∃ m, W 0 m σ H) ∧ ∀ i m σ H, W i m σ H →
      ((IteT K a).stop i H ∧ D.nx σ H) ∨ ((IteT K a).go i H ∧ ∃ N : L2.St → Hp → Prop, (∀ σ' H', N σ' H' → ∃ m', m' < m ∧ W (i + 1) m' σ' H') ∧ ∀ v H', (IteT K a).yld i H v H' → g v σ H' fun σ2 H2 => tb { D with nx := N, ct := N, bk := D.nx } σ2 H2) := by
  refine ⟨fun i m σ H => m = xs.length - i ∧ i ≤ xs.length ∧ Pv i σ H, ⟨xs.length, rfl, Nat.zero_le _, h0⟩, ?_⟩
  rintro i m σ H ⟨rfl, hi, p⟩
  have qx := hq i σ H p
  by_cases hlt : i < xs.length
  · refine .inr ⟨⟨xs, _, qx, List.getElem?_eq_getElem hlt⟩, Pv (i + 1), fun σ' H' p' => ⟨xs.length - (i + 1), by omega, rfl, hlt, p'⟩, fun v H' y => ?_⟩
    obtain ⟨T, x', rfl, hT, rfl, f1⟩ := y
    exact hs i x' T σ H (f1 xs qx) p hT
  · have e : i = xs.length := by omega
    subst e
    exact .inl ⟨⟨xs, qx, Nat.le_refl _⟩, hd σ H p⟩
theorem not_ifB {te : TE} {t u : TS} {D : Ends} {σ : L2.St} {H : Hp} (h : te σ H fun x H1 => ∃ b, x = .bl b ∧ if (!b) = true then t D σ H1 else u D σ H1) : tIfS (tNot (tB te)) t u D σ H := h
theorem drop_at {α : Type} {ps : List α} {i : Nat} {p : α} (h : ps[i]? = some p) : ps.drop i = p :: ps.drop (i + 1) := by
  obtain ⟨hl, e⟩ := List.getElem?_eq_some_iff.mp h
  rw [List.drop_eq_getElem_cons hl, e]
/-- what behind may be asked of -/
structure BeOk (k : Nat) (p : Pat) : Prop where
  nf : NF p
  hb : Hb (k + 1) p
  k1 : k ≤ 1
  low : Sg Low p
  d : dp p ≤ 11
/-- the parts of a row that row_behind may be asked of -/
structure RbOk (k : Nat) (ps : List Pat) : Prop where
  nf : ∀ p ∈ ps, NF p
  hb : HbL (k + 1) ps
  k1 : k ≤ 1
  w : WB (k + 1) (wtP ps)
  l : LB (k + 1) (Lm.cap (lmP ps))
  low : SgL Low ps
  d : dpL ps ≤ 11
  len : ps.length ≤ 1048576
theorem RbOk.head {k : Nat} {p : Pat} {ps : List Pat} (h : RbOk k (p :: ps)) (c : Nat) : BeOk k p ∧ Rw k (behind c p :: ps) := by
  have dm : dp p ≤ 11 := Nat.le_trans (dp_mem (ps := p :: ps) List.mem_cons_self) h.d
  refine ⟨⟨h.nf p List.mem_cons_self, h.hb.1, h.k1, h.low.1, dm⟩, fun q a => ?_, h.w.sh (row_sh c p ps) h.k1, h.l.sh (row_lh c p ps) h.k1, ?_⟩
  · rcases List.mem_cons.mp a with e | a
    · rw [e]; exact ⟨behind_nf c p (h.nf p List.mem_cons_self), behind_hb h.k1 c p h.hb.1, behind_sg c p h.low.1⟩
    · exact ⟨h.nf q (List.mem_cons_of_mem _ a), hb_down q (HbL_iff.mp h.hb.2 q a), SgL_iff.mp h.low.2 q a⟩
  · refine dpL_le.mpr fun q a => ?_
    rcases List.mem_cons.mp a with e | a
    · rw [e]; have := behind_dp c p; omega
    · exact Nat.le_trans (Nat.le_trans (dp_mem (List.mem_cons_of_mem _ a)) h.d) (by decide)
theorem RbOk.tail {k : Nat} {p : Pat} {ps : List Pat} (h : RbOk k (p :: ps)) (hn : nullb p = true) : RbOk k ps :=
  ⟨fun q a => h.nf q (List.mem_cons_of_mem _ a), h.hb.2, h.k1, h.w.le (Wt.le_mulR (null_x p hn)), h.l.le (Lm.cap_le (Lm.le_catR _ _)), h.low.2, Nat.le_trans (Nat.le_max_right _ _) h.d, Nat.le_of_succ_le h.len⟩
theorem rowB_len (c : Nat) : ∀ ps : List Pat, (rowB c ps).length ≤ ps.length
  | [] => Nat.le_refl _
  | p :: ps => by
    rw [rowB, List.length_cons, List.length_cons]
    refine Nat.succ_le_succ ?_
    split
    · exact rowB_len c ps
    · exact Nat.zero_le _
theorem RbOk.out {k : Nat} {ps : List Pat} (h : RbOk k ps) (c : Nat) : (∀ q ∈ rowB c ps, Sg Low q ∧ q.dep ≤ 30) ∧ flO (rowB c ps) ≤ lineB := by
  refine ⟨fun q a => ⟨rowB_sg c ps h.low q a, ?_⟩, ?_⟩
  · have := nf_dep2 (rowB_nf c ps h.nf q a)
    have := dp_mem a
    have := rowB_dp c ps
    have := h.d
    omega
  · have h1 := spreadO_len (rowB c ps) (rowB_nf c ps h.nf)
    have h2 := rowB_len c ps
    have h3 := (rowB_wt c ps).x
    have h4 := h.w.y (by omega)
    have := h.len
    unfold flO lineB
    omega
def spBe (K : PySem.W.Frag) (T : Tz) (d : Nat) : Sp := fun vs H Q _ => ∃ (v : V) (p : Pat) (k c : Nat), vs = [v, .str ⟨#[c]⟩] ∧ PatQ K H p v ∧ p.dep ≤ d ∧ BeOk k p ∧ Tbl H T ∧ ∀ H' u, Ext H H' → PatQ K H' (behind c p) u → Q u H'
def spRb (K : PySem.W.Frag) (T : Tz) (d : Nat) : Sp := fun vs H Q _ => ∃ (a : Addr) (us : List V) (ps : List Pat) (k c : Nat), vs = [.ref a, .str ⟨#[c]⟩] ∧ H a = some (.tup us) ∧ PatsQ K H ps us ∧ depL ps ≤ d ∧ RbOk k ps ∧ Tbl H T ∧ ∀ H' u, Ext H H' → PatQ K H' (either (rowB c ps)) u → Q u H'
section
variable {P : Program} {w : World} {K : PySem.W.Frag} {mg : Str → Option Value} {base : Heap}
theorem scRb : FnScope ["parts", "sign", "found", "at", "part", "rest"] ["parts", "sign"] (defScope sRowBehind) := ⟨rfl, rfl, rfl, by decide +kernel, rfl, by decide +kernel, by decide +kernel⟩
theorem be_none {f : Addr} {fd : FuncData} {T : Tz} {k : Nat} : FnOk P w K mg base CX0 k f fd ["pattern", "sign"] (spBe K T 0) := by
  have no : ∀ vs H Q E, ¬ spBe K T 0 vs H Q E := fun vs H Q E h => by
    obtain ⟨v, p, _, _, _, _, hd, _⟩ := h
    have := dep_pos p
    omega
  exact ⟨fun vs H Q E h => absurd h (no vs H Q E), fun A outer s H args us vs Q E _ _ _ _ h => absurd h (no vs H Q E)⟩
theorem rb_ok {f g : Addr} {fd gd : FuncData} {T : Tz} {k d : Nat} (St : Std K mg "row_behind" sRowBehind ["parts", "sign"] f fd) (Sb : Std K mg "behind" sBehind ["pattern", "sign"] g gd) (G : FnOk P w K mg base CX0 k g gd ["pattern", "sign"] (spBe K T d)) (hk : 112 ≤ k) (FM : Forms P w K mg base T)
    (TE : Cal P w K mg base 60 "takes_empty" ["pattern"] [] (spTE K 30 T.te)) (me : mg "enumerate" = none) : FnOk P w K mg base CX0 (k + 1) f fd ["parts", "sign"] (spRb K T d) := by
  obtain ⟨f3, fd3, ds3, G3, b3, v3, k3, m3⟩ := FM.ro
  obtain ⟨f4, fd4, ds4, G4, b4, v4, k4, m4⟩ := FM.ei
  obtain ⟨t, td, tds, Gt, bt, vt, kt, mt⟩ := TE
  refine okD St.F scRb (fun vs H Q E h => ?_) (fun cdv A' outer s H vs Q E hr h => ?_)
  · obtain ⟨a, us, ps, k, c, rfl, _⟩ := h
    rfl
  obtain ⟨a, us, ps, kk, c, rfl, ha, hps, hdl, hR, hT, q⟩ := h
  refine ⟨_, (pss_cons (ps_set (i := 2) scRb.nd rfl (Or.inl rfl) (pe_lst pa_nil)) (pss_cons (ps_for PassesOwn.never rfl (pi_enumT rfl me (pa_cons (pv 0) pa_nil)) (pg_tup (by rfl) (pgs_cons (pg_name (i := 3) scRb.nd rfl (Or.inl rfl)) (pgs_cons (pg_name (i := 4) scRb.nd rfl (Or.inl rfl)) pgs_nil)))
      (pss_cons (ps_set (i := 5) scRb.nd rfl (Or.inl rfl) (pe_slice sl_tupA (pv 0) (po_some (pe_op op_add (pv 3) pe_int)) po_none)) (pss_cons (ps_expr (pe_bm PySem.F.plainAttrs_list PySem.F.slot_list_append PySem.F.type_list_append mt_append (pv 2) (pa_cons (pe_call G3 (hr.mono (by omega)) rfl m3 k3 b3 v3 pass0 (pa_cons (pe_lst (pa_cons (pe_call G hr rfl Sb.m Sb.F.kp Sb.b .nil pass0 (pa_cons (pv 4) (pa_cons (pv 1) pa_nil))) (pa_star (pv 5) pa_nil))) pa_nil)) pa_nil))) (pss_one (ps_if (pt_not (pt_val (pe_call Gt (hr.mono (by omega)) rfl mt kt bt vt pass0 (pa_cons (pv 4) pa_nil)))) (pss_one ps_break) pss_nil))))) (pss_one (ps_ret (pe_call G4 (hr.mono (by omega)) rfl m4 k4 b4 v4 pass0 (pa_cons (pv 2) pa_nil)))))), ?_⟩
  have sE : sizeLine = 16777216 := sizeLine_eq
  have hul := hps.len
  refine t_set ⟨Nat.zero_le _, fun D hD => ?_⟩
  have eD := Ext.new (o := .lst ([] : List V)) hD
  refine t_seq ⟨_, rfl, a, us, rfl, SqT.of (eD.tup ha), ?_⟩
  have fin : ∀ (o3 o4 o5 : Option V) (ws : List V) (H' : Hp), Ext H H' → H' D = some (.lst ws) → PatsQ K H' (rowB c ps) ws → tRet (tCall (spEi K T flO either) [] E0 (tCons (tVar 2) tNil)) { nx := fun _ H' => Q .non H', rt := Q } [some (.ref a), some (.str ⟨#[c]⟩), some (.ref D), o3, o4, o5] H' :=
    fun o3 o4 o5 ws H' e hw hs => ⟨_, rfl, D, ws, _, rfl, SqL.of hw, ⟨hs, (hR.out c).1⟩, (hR.out c).2, hT.ext e, fun H2 u e2 hu => q H2 u (e.trans e2) hu⟩
  refine for_enumT (K := K) (a := a) (xs := us) (fun i σ' H' => ∃ o3 o4 o5 ws acc, σ' = [some (.ref a), some (.str ⟨#[c]⟩), some (.ref D), o3, o4, o5] ∧ Ext H H' ∧ H' D = some (.lst ws) ∧ PatsQ K H' acc ws ∧ rowB c ps = acc ++ rowB c (ps.drop i) ∧ RbOk kk (ps.drop i) ∧ acc.length ≤ i)
    ⟨none, none, none, [], [], rfl, eD, upd_same, rfl, rfl, hR, Nat.le_refl _⟩ (fun i σ' H' ⟨_, _, _, _, _, _, e, _⟩ => SqT.of (e.tup ha)) ?_ ?_
  · rintro i v T' σ' H' hv ⟨o3, o4, o5, ws, acc, rfl, e, hw, hacc, hB, hRi, hal⟩ hT'
    have e1 := Ext.new (o := .tup [V.int (i : Nat), v]) hT'
    obtain ⟨p, hp, hpv⟩ := hps.get hv
    have ed := drop_at hp
    rw [ed] at hB hRi
    obtain ⟨hBe, hRw⟩ := hRi.head c
    have il : i < ps.length := (List.getElem?_eq_some_iff.mp hp).1
    have len := hR.len
    refine ⟨T', _, rfl, SqT.of upd_same, rfl, ?_⟩
    refine ⟨.int (i : Nat), _, rfl, v, _, rfl, rfl, ?_⟩
    generalize upd H' T' (.tup [V.int (i : Nat), v]) = H1 at e1 ⊢
    have e01 := e.trans e1
    refine t_set ⟨_, rfl, _, rfl, _, _, rfl, rfl, _, rfl, ?_⟩
    refine slice_fromI (K := K) (k := i + 1) (by omega) (e01.tup ha) (by omega) fun t2 H2 e2 ht2 => ?_
    have e02 := e01.trans e2
    have e12 := e1.trans e2
    have hrest := (PatsQ.ext e02 _ _ hps).dropQ (i + 1)
    have hrl := hrest.len
    rw [List.length_drop, List.length_drop] at hrl
    dsimp only
    refine t_seq ?_
    refine ⟨_, rfl, .inl ⟨rfl, _, SqL.of (e12.lst hw)⟩, _, rfl, _, rfl, v, p, kk, c, rfl, PatQ.ext e02 _ _ hpv, Nat.le_trans (dep_mem (List.mem_of_getElem? hp)) hdl, hBe, hT.ext e02, fun H3 u3 e3 hu3 => ?_⟩
    refine ⟨_, rfl, t2, us.drop (i + 1), rfl, .inl (SqT.of (e3.tup ht2)), ?_, fun p6 hp6 => ?_⟩
    · show (u3 :: (us.drop (i + 1) ++ [])).length ≤ sizeLine
      rw [List.append_nil, List.length_cons, List.length_drop]; omega
    have e6 := Ext.new (o := .lst (u3 :: (us.drop (i + 1) ++ []))) hp6
    have e06 := (e02.trans e3).trans e6
    refine ⟨p6, u3 :: (us.drop (i + 1) ++ []), behind c p :: ps.drop (i + 1), rfl, SqL.of upd_same, ⟨u3, us.drop (i + 1) ++ [], rfl, PatQ.ext e6 _ _ hu3, ?_⟩, hRw.gen, fun x hx => (hRw.ok x hx).1, hRw.keptLen, hT.ext e06, fun H7 u7 e7 hu7 => ?_⟩
    · have hh := PatsQ.ext (e3.trans e6) _ _ hrest
      generalize upd H3 p6 (.lst (u3 :: (us.drop (i + 1) ++ []))) = HH at hh ⊢
      rw [List.append_nil]; exact hh
    have e27 := (e3.trans e6).trans e7
    have hwl := hacc.len
    have hw7 : H7 D = some (.lst ws) := e27.lst (e12.lst hw)
    refine ⟨D, _, _, rfl, rfl, hw7, by omega, ?_⟩
    have e07 := e06.trans e7
    have t7 : Tup H7 (upd H7 D (.lst (ws ++ [u7]))) := .wr hw7
    have hacc7 : PatsQ K (upd H7 D (.lst (ws ++ [u7]))) (acc ++ [rowOf (behind c p :: ps.drop (i + 1))]) (ws ++ [u7]) := ((PatsQ.ext (e12.trans e27) _ _ hacc).tups t7).append (PatsQ.one (hu7.tups t7))
    have e08 : Ext H (upd H7 D (.lst (ws ++ [u7]))) := e07.wr hD
    have hw8 : (upd H7 D (.lst (ws ++ [u7]))) D = some (.lst (ws ++ [u7])) := upd_same
    have hpv8 := PatQ.ext e08 _ _ hpv
    generalize upd H7 D (.lst (ws ++ [u7])) = H8 at hacc7 e08 hw8 hpv8 ⊢
    dsimp only
    refine not_ifB ?_
    refine ⟨_, rfl, v, p, rfl, hpv8, ?_, (hT.ext e08).c.te, fun H9 e9 => ⟨_, rfl, ?_⟩⟩
    · have := nf_dep2 hBe.nf
      have := hBe.d
      omega
    rw [rowB] at hB
    cases hn : nullb p with
    | true =>
      rw [hn, if_pos rfl] at hB
      exact iffF rfl ⟨_, _, _, ws ++ [u7], acc ++ [rowOf (behind c p :: ps.drop (i + 1))], rfl, e08.trans e9, e9.lst hw8, PatsQ.ext e9 _ _ hacc7, by rw [hB, List.append_assoc]; rfl, hRi.tail hn, by rw [List.length_append]; exact Nat.succ_le_succ hal⟩
    | false =>
      rw [hn, if_neg (by decide)] at hB
      exact iffT rfl (fin _ _ _ _ H9 (e08.trans e9) (e9.lst hw8) (by rw [hB]; exact PatsQ.ext e9 _ _ hacc7))
  · rintro σ' H' ⟨o3, o4, o5, ws, acc, rfl, e, hw, hacc, hB, _, _⟩
    rw [hul, List.drop_length, rowB, List.append_nil] at hB
    exact fin o3 o4 o5 ws H' e hw (hB ▸ hacc)
end
end Bo
set_option Elab.async false
set_option linter.all false
set_option maxRecDepth 100000
set_option maxHeartbeats 8000000
/-! behind, left -/
namespace Bo
open PySem PySem.Spec PyProof.Rows L2 GE StX
theorem behinds_map (c : Nat) : ∀ ps : List Pat, behinds c ps = ps.map (behind c)
  | [] => rfl
  | p :: ps => by rw [behinds, behinds_map c ps]; rfl
def spLf (K : PySem.W.Frag) (T : Tz) : Sp := fun vs H Q _ => ∃ (v : V) (p : Pat) (k c : Nat), vs = [v, .str ⟨#[c]⟩] ∧ PatQ K H p v ∧ p.dep ≤ 40 ∧ NoOk p ∧ BeOk k (normal p) ∧ Tbl H T ∧ ∀ H' u, Ext H H' → PatQ K H' (left p c) u → Q u H'
section
variable {P : Program} {w : World} {K : PySem.W.Frag} {mg : Str → Option Value} {base : Heap}
theorem scBe : FnScope ["pattern", "sign", "part"] ["pattern", "sign"] (defScope sBehind) := ⟨rfl, rfl, rfl, by decide +kernel, rfl, by decide +kernel, by decide +kernel⟩
theorem scLf : FnScope ["pattern", "sign"] ["pattern", "sign"] (defScope sLeft) := ⟨rfl, rfl, rfl, by decide +kernel, rfl, by decide +kernel, by decide +kernel⟩
theorem scEm : FnScope ["pattern"] ["pattern"] (defScope sEmpty) := ⟨rfl, rfl, rfl, by decide +kernel, rfl, by decide +kernel, by decide +kernel⟩
theorem be_step {f g : Addr} {fd gd : FuncData} {aA aN aE : Addr} {T : Tz} {k d : Nat} (Sb : Std K mg "behind" sBehind ["pattern", "sign"] g gd) (St : Std K mg "row_behind" sRowBehind ["parts", "sign"] f fd) (G : FnOk P w K mg base CX0 k g gd ["pattern", "sign"] (spBe K T d)) (GR : FnOk P w K mg base CX0 (k + 1) f fd ["parts", "sign"] (spRb K T d)) (hk : 112 ≤ k) (FM : Forms P w K mg base T)
    (C : Consts K mg aA aN aE) : FnOk P w K mg base CX0 (k + 1 + 1) g gd ["pattern", "sign"] (spBe K T (d + 1)) := by
  obtain ⟨f2, fd2, ds2, G2, b2, v2, k2, m2⟩ := FM.ng
  obtain ⟨f3, fd3, ds3, G3, b3, v3, k3, m3⟩ := FM.ro
  obtain ⟨f4, fd4, ds4, G4, b4, v4, k4, m4⟩ := FM.ei
  obtain ⟨f5, fd5, ds5, G5, b5, v5, k5, m5⟩ := FM.bo
  refine okD Sb.F scBe (fun vs H Q E h => ?_) (fun cdv A' outer s H vs Q E hr h => ?_)
  · obtain ⟨v, p, _, _, rfl, _⟩ := h
    rfl
  obtain ⟨v, p, kk, c, rfl, hp, hd, hB, hT, q⟩ := h
  refine ⟨_, (pss_cons (ps_if (PW.pt (pw_and (pt_cmpR op_eq (pe_ix ix_tup (pv 0) pe_int (fun _ _ => rfl)) pe_str (nomark _)) (pw_and1 (pt_cmpR op_eq (pe_ix ix_tup (pv 0) pe_int (fun _ _ => rfl)) (pv 1) (by rfl))))) (pss_one (ps_ret (pe_glob rfl C.mE (v := .ref aE) rfl))) pss_nil) (pss_cons (ps_if (pt_cmpR op_eq (pe_ix ix_tup (pv 0) pe_int (fun _ _ => rfl)) pe_str (nomark _)) (pss_one (ps_ret (pe_call G3 (hr.mono (by omega)) rfl m3 k3 b3 v3 pass0 (pa_cons (pe_lst (pa_cons (pe_call G (hr.mono (by omega)) rfl Sb.m Sb.F.kp Sb.b .nil pass0 (pa_cons (pe_ix ix_tup (pv 0) pe_int (fun _ _ => rfl)) (pa_cons (pv 1) pa_nil))) (pa_cons (pv 0) pa_nil))) pa_nil)))) pss_nil) (pss_cons (ps_if (pt_cmpR op_eq (pe_ix ix_tup (pv 0) pe_int (fun _ _ => rfl)) pe_str (nomark _)) (pss_one (ps_ret (pe_call G2 (hr.mono (by omega)) rfl m2 k2 b2 v2 pass0 (pa_cons (pe_call G (hr.mono (by omega)) rfl Sb.m Sb.F.kp Sb.b .nil pass0 (pa_cons (pe_ix ix_tup (pv 0) pe_int (fun _ _ => rfl)) (pa_cons (pv 1) pa_nil))) pa_nil)))) pss_nil) (pss_cons (ps_if (pt_cmpR op_eq (pe_ix ix_tup (pv 0) pe_int (fun _ _ => rfl)) pe_str (nomark _)) (pss_one (ps_ret (pe_call GR hr rfl St.m St.F.kp St.b .nil pass0 (pa_cons (pe_ix ix_tup (pv 0) pe_int (fun _ _ => rfl)) (pa_cons (pv 1) pa_nil))))) pss_nil) (pss_cons (ps_if (pt_cmpR op_eq (pe_ix ix_tup (pv 0) pe_int (fun _ _ => rfl)) pe_str (nomark _)) (pss_one (ps_ret (pe_call G4 (hr.mono (by omega)) rfl m4 k4 b4 v4 pass0 (pa_cons (pe_lc (own := [("part", 2)]) (g := gName 2) (tt := tYes) (te := tCall (spBe K T d) [] E0 (tCons (tVar 2) (tCons (tVar 1) tNil))) rfl scBe.nd (pi_tup (pe_ix ix_tup (pv 0) pe_int (fun _ _ => rfl)))
        (blkOk_by (N := ["pattern", "sign", "part"]) (sc := defScope sBehind) (by decide +kernel)) (fun _ _ _ _ _ => pg_name (i := 2) scBe.nd rfl (Or.inl rfl) (Or.inr rfl)) (fun _ _ _ _ _ => pts_nil) (fun _ _ _ _ _ => pe_call G (hr.mono (by omega)) rfl Sb.m Sb.F.kp Sb.b .nil pass0 (pa_cons (pv 2) (pa_cons (pv 1) pa_nil)))) pa_nil)))) pss_nil) (pss_cons (ps_if (pt_cmpR op_eq (pe_ix ix_tup (pv 0) pe_int (fun _ _ => rfl)) pe_str (nomark _)) (pss_one (ps_ret (pe_call G5 (hr.mono (by omega)) rfl m5 k5 b5 v5 pass0 (pa_cons (pe_lc (own := [("part", 2)]) (g := gName 2) (tt := tYes) (te := tCall (spBe K T d) [] E0 (tCons (tVar 2) (tCons (tVar 1) tNil))) rfl scBe.nd (pi_tup (pe_ix ix_tup (pv 0) pe_int (fun _ _ => rfl)))
        (blkOk_by (N := ["pattern", "sign", "part"]) (sc := defScope sBehind) (by decide +kernel)) (fun _ _ _ _ _ => pg_name (i := 2) scBe.nd rfl (Or.inl rfl) (Or.inr rfl)) (fun _ _ _ _ _ => pts_nil) (fun _ _ _ _ _ => pe_call G (hr.mono (by omega)) rfl Sb.m Sb.F.kp Sb.b .nil pass0 (pa_cons (pv 2) (pa_cons (pv 1) pa_nil)))) pa_nil)))) pss_nil) (pss_one (ps_ret (pe_glob rfl C.mN (v := .ref aN) rfl))))))))), ?_⟩
  have sE : sizeLine = 16777216 := sizeLine_eq
  obtain ⟨nf, hb, k1, low, dd⟩ := hB
  have parts : ∀ (ps : List Pat) (a b : Addr) (us : List V) (z : V) (R : VK), SqT K H a [z, .ref b] → H b = some (.tup us) → PatsQ K H ps us → depL ps ≤ d → (∀ x ∈ ps, BeOk kk x) → ps.length ≤ 1048576 → (∀ r H' ws, Ext H H' → H' r = some (.lst ws) → PatsQ K H' (behinds c ps) ws → R (.ref r) H') →
      tLc (iTup K (tOp (rIxT K) (tVar 0) (tC (.int 1)))) (gName 2) tYes (tCall (spBe K T d) [] E0 (tCons (tVar 2) (tCons (tVar 1) tNil))) [2] [some (.ref a), some (.str ⟨#[c]⟩), none] H R := by
    intro ps a b us z R ha hb hps hdl hN hlen k
    refine map_pats (K := K) (ps := ps) (behind c) (by omega) (fun _ => rfl) (fun R hR => q_ix 1 rfl ha rfl (hR b us H (Ext.refl _) hb hps)) (fun x hx u H' hu e Q' k' => ⟨_, rfl, _, rfl, u, x, kk, c, rfl, hu, Nat.le_trans (dep_mem hx) hdl, hN x hx, hT.ext e, fun H'' u' e' hu' => k' H'' u' e' hu'⟩) (fun r H' ws e _ hr hs => k r H' ws e hr (by rw [behinds_map]; exact hs))
  cases p with
  | none =>
    obtain ⟨a, rfl, ha⟩ := hp
    exact t_seq (q_kind rfl ha (iffF (decide_eq_false (by decide)) (iffF rfl (t_seq (q_kF rfl ha (by decide) (t_seq (q_kF rfl ha (by decide) (t_seq (q_kF rfl ha (by decide) (t_seq (q_kF rfl ha (by decide) (t_seq (q_kF rfl ha (by decide) (q H _ (Ext.refl _) (C.hN _)))))))))))))))
  | empty =>
    obtain ⟨a, rfl, ha⟩ := hp
    exact t_seq (q_kind rfl ha (iffF (decide_eq_false (by decide)) (iffF rfl (t_seq (q_kF rfl ha (by decide) (t_seq (q_kF rfl ha (by decide) (t_seq (q_kF rfl ha (by decide) (t_seq (q_kF rfl ha (by decide) (t_seq (q_kF rfl ha (by decide) (q H _ (Ext.refl _) (C.hN _)))))))))))))))
  | sign x =>
    obtain ⟨a, rfl, ha⟩ := hp
    refine t_seq (q_kind rfl ha (iffT (decide_eq_true rfl) (q_ix 1 rfl ha rfl ⟨_, rfl, rfl, _, rfl, ?_⟩)))
    have e0 : decide (V.str ⟨#[x]⟩ = V.str ⟨#[c]⟩) = decide (x = c) := by rw [dec_str, sgn_eq]
    rw [e0]
    by_cases hx : x = c
    · refine iffT (decide_eq_true hx) (q H _ (Ext.refl _) ?_)
      rw [show behind c (.sign x) = .empty by rw [behind, if_pos hx]]
      exact C.hE _
    · refine iffF (decide_eq_false hx) ?_
      have e1 : behind c (.sign x) = .none := by rw [behind, if_neg hx]
      exact t_seq (q_kF rfl ha (by decide) (t_seq (q_kF rfl ha (by decide) (t_seq (q_kF rfl ha (by decide) (t_seq (q_kF rfl ha (by decide) (t_seq (q_kF rfl ha (by decide) (q H _ (Ext.refl _) (by rw [e1]; exact C.hN _)))))))))))
  | many x =>
    obtain ⟨a, u, rfl, ha, hu⟩ := id hp
    have dx : dp x + 1 ≤ 11 := dd
    refine t_seq (q_kind rfl ha (iffF (decide_eq_false (by decide)) (iffF rfl (t_seq (q_kT rfl ha (ret_val (call_one ?_)))))))
    refine q_ix 1 rfl ha rfl ⟨_, rfl, u, x, kk, c, rfl, hu, Nat.le_of_succ_le_succ hd, ⟨nf, hb.2.2.2, k1, low, Nat.le_of_succ_le dx⟩, hT, fun H1 u1 e1 hu1 => ?_⟩
    refine ⟨_, rfl, show 2 ≤ sizeLine by omega, fun r hr1 => ?_⟩
    have e2 := Ext.new (o := .lst [u1, V.ref a]) hr1
    have hR : Rw kk [behind c x, .many x] := by
      refine ⟨fun q' a' => ?_, hb.2.1.sh (many_sh c x) k1, hb.2.2.1.sh (many_lh c x) k1, ?_⟩
      · rcases List.mem_cons.mp a' with e | a'
        · rw [e]; exact ⟨behind_nf c x nf, behind_hb k1 c x hb.2.2.2, behind_sg c x low⟩
        · rw [List.mem_singleton.mp a']; exact ⟨nf, hb_down (.many x) hb, low⟩
      · have := behind_dp c x
        show max (dp (behind c x)) (max (dp x + 1) 0) ≤ 13
        omega
    exact ⟨r, [u1, V.ref a], [behind c x, .many x], rfl, SqL.of upd_same, ⟨u1, _, rfl, PatQ.ext e2 _ _ hu1, V.ref a, _, rfl, PatQ.ext (e1.trans e2) _ _ hp, rfl⟩, hR.gen, fun q' a' => (hR.ok q' a').1, hR.keptLen, hT.ext (e1.trans e2), fun H3 u3 e3 hu3 => q H3 u3 ((e1.trans e2).trans e3) hu3⟩
  | not x =>
    obtain ⟨a, u, rfl, ha, hu⟩ := hp
    have dx : dp x + 1 ≤ 11 := dd
    refine t_seq (q_kind rfl ha (iffF (decide_eq_false (by decide)) (iffF rfl (t_seq (q_kF rfl ha (by decide) (t_seq (q_kT rfl ha (ret_val (call_one ?_)))))))))
    exact q_ix 1 rfl ha rfl ⟨_, rfl, u, x, kk, c, rfl, hu, Nat.le_of_succ_le_succ hd, ⟨nf, hb.2.2, k1, low, Nat.le_of_succ_le dx⟩, hT, fun H1 u1 e1 hu1 => ⟨u1, behind c x, rfl, hu1, fun H2 u2 e2 hu2 => q H2 u2 (e1.trans e2) hu2⟩⟩
  | row ps =>
    obtain ⟨a, b, us, rfl, ha, hb', hps⟩ := hp
    have dx : dpL ps + 1 ≤ 11 := dd
    refine t_seq (q_kind rfl ha (iffF (decide_eq_false (by decide)) (iffF rfl (t_seq (q_kF rfl ha (by decide) (t_seq (q_kF rfl ha (by decide) (t_seq (q_kT rfl ha ?_)))))))))
    refine q_ix 1 rfl ha rfl ⟨_, rfl, b, us, ps, kk, c, rfl, hb', hps, Nat.le_of_succ_le_succ hd, ⟨fun x a' => (NFl_iff.mp nf.2.2 x a').2, hb.2.2, k1, hb.1, hb.2.1, low, Nat.le_of_succ_le dx, Nat.le_trans (row_len nf hb) (by decide)⟩, hT, q⟩
  | or ps =>
    obtain ⟨a, b, us, rfl, ha, hb', hps⟩ := hp
    have dx : dpL ps ≤ 11 := dd
    have hl : ps.length ≤ 1048576 := Nat.le_trans (nf_width nf) hb.1.x
    have hnf : ∀ x ∈ ps, NF x := fun x a' => (NFl_iff.mp nf.2 x a').2
    refine t_seq (q_kind rfl ha (iffF (decide_eq_false (by decide)) (iffF rfl (t_seq (q_kF rfl ha (by decide) (t_seq (q_kF rfl ha (by decide) (t_seq (q_kF rfl ha (by decide) (t_seq (q_kT rfl ha (ret_val (call_one ?_)))))))))))))
    refine parts ps a b us _ _ ha hb' hps (Nat.le_of_succ_le_succ hd) (fun x hx => ⟨hnf x hx, HbL_iff.mp hb.2.2 x hx, k1, SgL_iff.mp low x hx, Nat.le_trans (dp_mem hx) dx⟩) hl fun r H1 ws e1 hr1 hs1 => ⟨r, ws, behinds c ps, rfl, SqL.of hr1, ⟨hs1, fun x hx => ⟨behinds_sg c ps low x hx, ?_⟩⟩, ?_, hT.ext e1, fun H2 u2 e2 hu2 => q H2 u2 (e1.trans e2) hu2⟩
    · have := nf_dep2 (behinds_nf c ps hnf x hx)
      have := dp_mem hx
      have := behinds_dp c ps
      omega
    · have h1 := spreadO_len (behinds c ps) (behinds_nf c ps hnf)
      have h2 := (behinds_wt c ps).x
      have h3 := hb.1.y (by omega)
      rw [behinds_map, List.length_map, ← behinds_map] at h1
      unfold flO lineB
      omega
  | and ps =>
    obtain ⟨a, b, us, rfl, ha, hb', hps⟩ := hp
    have dx : dpL ps + 1 ≤ 11 := dd
    have hl : ps.length ≤ 1048576 := Nat.le_trans (nf_widthA nf) (Nat.le_trans (Nat.le_add_left _ 1) hb.1.x)
    have hnf : ∀ x ∈ ps, NF x := fun x a' => (NFl_iff.mp nf.2 x a').2
    refine t_seq (q_kind rfl ha (iffF (decide_eq_false (by decide)) (iffF rfl (t_seq (q_kF rfl ha (by decide) (t_seq (q_kF rfl ha (by decide) (t_seq (q_kF rfl ha (by decide) (t_seq (q_kF rfl ha (by decide) (t_seq (q_kT rfl ha (ret_val (call_one ?_)))))))))))))))
    refine parts ps a b us _ _ ha hb' hps (Nat.le_of_succ_le_succ hd) (fun x hx => ⟨hnf x hx, HbL_iff.mp hb.2.2 x hx, k1, SgL_iff.mp low x hx, Nat.le_trans (dp_mem hx) (Nat.le_of_succ_le dx)⟩) hl fun r H1 ws e1 hr1 hs1 => ⟨r, ws, behinds c ps, rfl, SqL.of hr1, ⟨hs1, fun x hx => ⟨behinds_sg c ps low x hx, ?_⟩⟩, ?_, hT.ext e1, fun H2 u2 e2 hu2 => q H2 u2 (e1.trans e2) hu2⟩
    · have := nf_dep2 (behinds_nf c ps hnf x hx)
      have := dp_mem hx
      have := behinds_dp c ps
      omega
    · have h1 := spreadA_len (behinds c ps) (behinds_nf c ps hnf)
      have h2 := (behinds_wt c ps).x
      have h3 : 1 + (wtS ps).y ≤ 1048576 := hb.1.y (by omega)
      rw [behinds_map, List.length_map, ← behinds_map] at h1
      unfold flA lineB
      omega
theorem no_tower {f : Addr} {fd : FuncData} {T : Tz} (St : Std K mg "normal" sNormal ["pattern"] f fd) (FM : Forms P w K mg base T) : ∀ d, FnOk P w K mg base CX0 (112 + d) f fd ["pattern"] (spNo K T d)
  | 0 => no_none
  | d + 1 => no_step St (no_tower St FM d) (Nat.le_add_right _ _) FM
theorem be_tower {f g : Addr} {fd gd : FuncData} {aA aN aE : Addr} {T : Tz} (Sb : Std K mg "behind" sBehind ["pattern", "sign"] g gd) (St : Std K mg "row_behind" sRowBehind ["parts", "sign"] f fd) (FM : Forms P w K mg base T) (TE : Cal P w K mg base 60 "takes_empty" ["pattern"] [] (spTE K 30 T.te)) (C : Consts K mg aA aN aE) (me : mg "enumerate" = none) : ∀ d, FnOk P w K mg base CX0 (112 + 2 * d) g gd ["pattern", "sign"] (spBe K T d)
  | 0 => be_none
  | d + 1 => be_step Sb St (be_tower Sb St FM TE C me d) (rb_ok St Sb (be_tower Sb St FM TE C me d) (Nat.le_add_right _ _) FM TE me) (Nat.le_add_right _ _) FM C
theorem lf_ok' {f : Addr} {fd : FuncData} {T : Tz} (St : Std K mg "left" sLeft ["pattern", "sign"] f fd) (NO : Cal P w K mg base 152 "normal" ["pattern"] [] (spNo K T 40)) (BE : Cal P w K mg base 162 "behind" ["pattern", "sign"] [] (spBe K T 25)) : FnOk P w K mg base CX0 163 f fd ["pattern", "sign"] (spLf K T) := by
  obtain ⟨f1, fd1, ds1, G1, b1, v1, k1, m1⟩ := NO
  obtain ⟨f2, fd2, ds2, G2, b2, v2, k2, m2⟩ := BE
  refine okD St.F scLf (fun vs H Q E h => ?_) (fun cdv A' outer s H vs Q E hr h => ?_)
  · obtain ⟨v, p, _, _, rfl, _⟩ := h
    rfl
  obtain ⟨v, p, k, c, rfl, hp, hd, hN, hB, hT, q⟩ := h
  refine ⟨_, (pss_one (ps_ret (pe_call G2 hr rfl m2 k2 b2 v2 pass0 (pa_cons (pe_call G1 (hr.mono (by decide)) rfl m1 k1 b1 v1 pass0 (pa_cons (pv 0) pa_nil)) (pa_cons (pv 1) pa_nil))))), ?_⟩
  refine ⟨_, rfl, v, p, rfl, hp, hd, hN, hT, fun H1 u1 e1 hu1 => ⟨_, rfl, u1, normal p, k, c, rfl, hu1, ?_, hB, hT.ext e1, fun H2 u2 e2 hu2 => q H2 u2 (e1.trans e2) hu2⟩⟩
  have := nf_dep2 hB.nf
  have := hB.d
  omega
theorem em_ok {f : Addr} {fd : FuncData} {T : Addr} (St : Std K mg "empty" sEmpty ["pattern"] f fd) (TE : Cal P w K mg base 60 "takes_empty" ["pattern"] [] (spTE K 30 T)) : FnOk P w K mg base CX0 61 f fd ["pattern"] (spTE K 30 T) := by
  obtain ⟨f1, fd1, ds1, G1, b1, v1, k1, m1⟩ := TE
  refine okD St.F scEm (fun vs H Q E h => ?_) (fun cdv A' outer s H vs Q E hr h => ?_)
  · obtain ⟨v, p, rfl, _⟩ := h
    rfl
  obtain ⟨v, p, rfl, h1, h2, h3, q⟩ := h
  refine ⟨_, (pss_one (ps_ret (pe_call G1 hr rfl m1 k1 b1 v1 pass0 (pa_cons (pv 0) pa_nil)))), ?_⟩
  exact ⟨_, rfl, v, p, rfl, h1, h2, h3, q⟩
end
end Bo
set_option Elab.async false
set_option linter.all false
set_option maxRecDepth 100000
/-! list.extend(a tuple) -/
namespace GE
open PySem PySem.Spec PyProof.Rows L2 PySem.AutoSeq1
theorem list_extend_tuple (l : Addr) (items : Array Value) (n : Nat) (b : Addr) (items2 : Array Value) (n2 : Nat) (dd : Option Addr) (sl : Array (Option Value)) (hs0 : ¬(!items.isEmpty && Builtin.List.listTooLong (items.size + items2.size)) = true) (hs1 : items.size ≤ sizeLine) (hs2 : items.size + items2.size ≤ sizeLine + 1) :
    Meets (Builtin.«list.extend» ⟨[.ref l, .ref b], []⟩) (fun _ R s => s.heap.get? l = some { cls := .type "list", dict := none, data := .seq items n, slots := #[] } ∧ s.heap.get? b = some { cls := .type "tuple", dict := dd, data := .seq items2 n2, slots := sl } ∧ R (.ok (.ret Value.none)) { s with heap := s.heap.update l (Obj.mapSeq fun x => x ++ items2), toks := s.toks }) :=
  .of_wp fun prog w A R s h => by
    obtain ⟨hp, g, d, tk, os⟩ := s; obtain ⟨hl, hb, h⟩ := h; have f1 := idx_int; have f2 := AutoSeq1.sub_tuple_tuple; have f3 := AutoSeq1.sub_list_list; have f4 := AutoSeq1.sub_tuple_list; have f5 := AutoSeq1.sub_list_tuple;
    have hz' : (items ++ items2).size ≤ sizeLine + 1 := by rw [Array.size_append]; exact hs2
    wp_walk using (wpAny_updateSeq hl rfl (hz := hs1) (_hz' := hz')), AutoSeq1.wpAny_loadPart' hl, AutoSeq1.wpAny_loadPart' hb; exact ⟨_, rfl, h⟩
variable {X : Cx}
def rExtendTu : V → List V → Hp → VK → Prop := fun x vs H Q => ∃ l b xs zs, x = .ref l ∧ vs = [.ref b] ∧ H l = some (.lst xs) ∧ SqT X.K H b zs ∧ xs.length + zs.length ≤ sizeLine ∧ Q .non (upd H l (.lst (xs ++ zs)))
theorem mt_extendT : MtM X "list.extend" (rExtendTu (X := X)) := by
  intro pins s σ H x vs v us Q I rx rv h
  obtain ⟨l, b, xs, zs, rfl, rfl, hH, hB, hz, q⟩ := h
  cases rx
  obtain ⟨u, rfl, ru⟩ := rv.one
  cases ru
  obtain ⟨z, its, n, r, hl, e⟩ := I.lstM hH
  obtain ⟨its2, r2, ⟨⟨oc, od, odat, osl⟩, e2, ec, n2, ed⟩, _⟩ := I.tuple hB
  have ec : oc = .type "tuple" := ec
  have ed : odat = .seq its2.toArray n2 := ed
  subst ec
  subst ed
  have hl2 := r2.length
  have hsz : its.toArray.size + its2.toArray.size ≤ sizeLine := by rw [List.size_toArray, List.size_toArray]; omega
  have hlong : ¬ (!its.toArray.isEmpty && Builtin.List.listTooLong (its.toArray.size + its2.toArray.size)) = true := by
    rw [notLongL hsz, Bool.and_false]
    exact Bool.false_ne_true
  refine call_meets F.slot_list_extend ⟨_, e, rfl⟩ F.entry_list_extend (F.args_list_extend_2 _ _)
    (list_extend_tuple l its.toArray n b its2.toArray n2 od osl hlong (by rw [List.size_toArray]; omega) (by omega)) ⟨e, e2, ?_⟩
  refine ⟨.non, _, I.lset (its' := its ++ its2) hH e (by simp) (r.append r2) ?_, rfl, q⟩
  rw [List.length_append]
  omega
end GE
set_option Elab.async false
set_option linter.all false
set_option maxRecDepth 100000
/-! a list beside the empty list -/
namespace GE
open PySem PySem.Spec PyProof.Rows L2
variable {X : Cx}
def rEqNil (K : PySem.W.Frag) : R2 := fun x y H Q => ∃ a b xs, x = .ref a ∧ y = .ref b ∧ SqL K H a xs ∧ SqL K H b [] ∧ Q (.bl xs.isEmpty) H
def rNeNil (K : PySem.W.Frag) : R2 := fun x y H Q => ∃ a b xs, x = .ref a ∧ y = .ref b ∧ SqL K H a xs ∧ SqL K H b [] ∧ Q (.bl (!xs.isEmpty)) H
theorem op_eqNil (hu : X.A.units + 64 < cLine) : OpR X (compareOp .Eq) (rEqNil X.K) := by
  intro pins s σ H x y v u Q I rx ry h
  obtain ⟨a, b, xs, rfl, rfl, hs, hb, q⟩ := h
  cases (show v = Value.ref a from rx)
  cases (show u = Value.ref b from ry)
  obtain ⟨us, r1, p1, _⟩ := I.list hs
  obtain ⟨ws, r2, p2, _⟩ := I.list hb
  have e2 : ws = [] := by cases r2; rfl
  subst e2
  cases xs with
  | nil =>
    have e1 : us = [] := by cases r1; rfl
    subst e1
    refine SeqAt.RcAt.lists (e := fun _ => true) p1.isList p2.isList rfl (by omega) (fun j h1 h2 => absurd h1 (by simp)) _ _ _ _ ?_
    exact ⟨.bl true, H, I, rfl, q⟩
  | cons x xs =>
    refine SeqAt.RcAt.lists_lengths p1.isList p2.isList ?_ (by omega) _ _ _ _ ⟨.bl false, H, I, rfl, q⟩
    have := r1.length
    simp only [List.size_toArray, ← this]
    simp
theorem op_neNil (hu : X.A.units + 64 < cLine) : OpR X (compareOp .NotEq) (rNeNil X.K) := by
  intro pins s σ H x y v u Q I rx ry h
  obtain ⟨a, b, xs, rfl, rfl, hs, hb, q⟩ := h
  cases (show v = Value.ref a from rx)
  cases (show u = Value.ref b from ry)
  obtain ⟨us, r1, p1, _⟩ := I.list hs
  obtain ⟨ws, r2, p2, _⟩ := I.list hb
  have e2 : ws = [] := by cases r2; rfl
  subst e2
  cases xs with
  | nil =>
    have e1 : us = [] := by cases r1; rfl
    subst e1
    refine SeqAt.RcNeAt.lists (e := fun _ => true) p1.isList p2.isList rfl (by omega) (fun j h1 h2 => absurd h1 (by simp)) _ _ _ _ ?_
    exact ⟨.bl false, H, I, rfl, q⟩
  | cons x xs =>
    refine SeqAt.RcNeAt.lists_lengths p1.isList p2.isList ?_ (by omega) _ _ _ _ ⟨.bl true, H, I, rfl, q⟩
    have := r1.length
    simp only [List.size_toArray, ← this]
    simp
end GE
set_option Elab.async false
set_option linter.all false
set_option maxRecDepth 100000
set_option maxHeartbeats 4000000
namespace Bo
open PySem PySem.Spec PyProof.Rows L2 GE
abbrev cds (z : Str) : List Nat := z.cps.toList
def tys : List String := ["NoneType", "bool", "int", "str", "list", "tuple", "dict"]
def Kn (K : PySem.W.Frag) (H : Hp) (v : V) (T : String) : Prop := TyX K H v (.type T) ∧ T ∈ tys
theorem kn_str {K : PySem.W.Frag} {T : String} (h : T ∈ tys) : PySem.W.kitOne K (.type T) (.type "str") = some (decide (T = "str")) := by
  simp only [tys, List.mem_cons, List.not_mem_nil, or_false] at h
  rcases h with rfl | rfl | rfl | rfl | rfl | rfl | rfl <;> exact kit_ty (by decide +kernel)
theorem kn_tup {K : PySem.W.Frag} {T : String} (h : T ∈ tys) : PySem.W.kitOne K (.type T) (.type "tuple") = some (decide (T = "tuple")) := by
  simp only [tys, List.mem_cons, List.not_mem_nil, or_false] at h
  rcases h with rfl | rfl | rfl | rfl | rfl | rfl | rfl <;> exact kit_ty (by decide +kernel)
def tagS : V → Value → Prop
  | .str _, t => t = .type "str"
  | _, t => t ≠ .type "str"
theorem tag_s {K : PySem.W.Frag} {H : Hp} {v : V} {t : Value} (h : TyX K H v t) : tagS v t := by
  cases h with
  | base b => cases b <;> first | exact rfl | exact fun e => (by injection e with e; exact absurd e (by decide)) | exact fun e => nomatch e
  | _ => exact fun e => (by injection e with e; exact absurd e (by decide))
theorem Kn.str {K : PySem.W.Frag} {H : Hp} {v : V} (h : Kn K H v "str") : ∃ z, v = .str z := by
  have q := tag_s h.1
  cases v <;> first | exact ⟨_, rfl⟩ | exact absurd rfl q
theorem Kn.ofStr (K : PySem.W.Frag) (H : Hp) (z : Str) : Kn K H (.str z) "str" := ⟨.base (.str z), by decide⟩
theorem Kn.notStr {K : PySem.W.Frag} {H : Hp} {v : V} {T : String} (h : Kn K H v T) (n : T ≠ "str") : ∀ z, v ≠ .str z := by
  rintro z rfl
  have q : Value.type T = .type "str" := tag_s h.1
  exact n (by injection q)
def goodS (z : Str) : Bool := decide (1 ≤ z.cps.size) && decide (z.cps.size ≤ 4) && (cds z).all (fun c => decide (97 ≤ c ∧ c ≤ 122)) && decide (unlike z z.cps.size = z.cps.size)
theorem lt_sign (a b : Nat) : (!decide ([a] < [b])) = decide (b ≤ a) := by
  rw [Bool.eq_iff_iff, Bool.not_eq_true', decide_eq_false_iff_not, decide_eq_true_eq, List.cons_lt_cons_iff]
  constructor
  · intro h; apply Nat.not_lt.mp; exact fun e => h (.inl e)
  · rintro h (e | ⟨_, e⟩)
    · omega
    · exact absurd e (List.not_lt_nil _)
theorem get_all {p : Nat → Bool} {l : List Nat} {i : Nat} {c : Nat} (h : l[i]? = some c) : (l.take (i + 1)).all p = ((l.take i).all p && p c) := by
  rw [List.take_succ, List.all_append, h]; simp
theorem all_false {p : Nat → Bool} {l : List Nat} {i : Nat} {c : Nat} (h : l[i]? = some c) (hp : p c = false) : l.all p = false := by
  rw [List.all_eq_false]
  exact ⟨c, List.mem_of_getElem? h, by rw [hp]; exact Bool.false_ne_true⟩
mutual
/-- a pattern over the letters of L -/
def Pat.ok (L : Str) : Pat → Prop
  | .none => True | .empty => True
  | .sign c => c ∈ cds L
  | .row ps => 2 ≤ ps.length ∧ okL L ps
  | .or ps => 2 ≤ ps.length ∧ okL L ps
  | .and ps => 2 ≤ ps.length ∧ okL L ps
  | .many p => p.ok L | .not p => p.ok L
def okL (L : Str) : List Pat → Prop
  | [] => True
  | p :: ps => p.ok L ∧ okL L ps
end
theorem sizeL_append : ∀ (ps qs : List Pat), sizeL (ps ++ qs) = sizeL ps + sizeL qs
  | [], qs => by simp [sizeL]
  | p :: ps, qs => by rw [List.cons_append, sizeL, sizeL, sizeL_append ps qs]; omega
theorem okL_append {L : Str} : ∀ {ps qs : List Pat}, okL L (ps ++ qs) ↔ okL L ps ∧ okL L qs
  | [], qs => by simp [okL]
  | p :: ps, qs => by rw [List.cons_append, okL, okL, okL_append (ps := ps)]; exact ⟨fun ⟨a, b, c⟩ => ⟨⟨a, b⟩, c⟩, fun ⟨⟨a, b⟩, c⟩ => ⟨a, b, c⟩⟩
theorem len_le_sizeL : ∀ ps : List Pat, ps.length ≤ sizeL ps
  | [] => Nat.le_refl _
  | p :: ps => by have := size_pos p; have := len_le_sizeL ps; rw [List.length_cons, sizeL]; omega
theorem PatsAt.append {H : Hp} : ∀ {ps qs : List Pat} {vs us : List V}, PatsAt H ps vs → PatsAt H qs us → PatsAt H (ps ++ qs) (vs ++ us)
  | [], qs, vs, us, h, g => by rw [show vs = [] from h]; exact g
  | p :: ps, qs, vs, us, ⟨v, r, e, a, b⟩, g => by rw [e]; exact ⟨v, r ++ us, rfl, a, b.append g⟩
theorem PatsAt.cut {H : Hp} : ∀ {ps qs : List Pat} {vs : List V}, PatsAt H (ps ++ qs) vs → ∃ us ws, vs = us ++ ws ∧ PatsAt H ps us ∧ PatsAt H qs ws
  | [], qs, vs, h => ⟨[], vs, rfl, rfl, h⟩
  | p :: ps, qs, vs, ⟨v, r, e, a, b⟩ => by
    obtain ⟨us, ws, e2, c, d⟩ := PatsAt.cut (ps := ps) b
    exact ⟨v :: us, ws, by rw [e, e2]; rfl, ⟨v, us, rfl, a, c⟩, d⟩
theorem r_pop {K : PySem.W.Frag} {σ : L2.St} {H : Hp} {l : Addr} {us : List V} {y : V} {i : Nat} {Q : VK} (h0 : σ[i]? = some (some (.ref l))) (hl : H l = some (.lst (us ++ [y]))) (q : Q y (upd H l (.lst us))) : tBM0 K "list" rPop (tVar i) σ H Q :=
  ⟨_, h0, .inl ⟨rfl, _, SqL.of hl⟩, l, _, y, rfl, rfl, hl, by simp, by rw [List.dropLast_concat]; exact q⟩
theorem cut_last {H : Hp} {ps : List Pat} {p : Pat} {vs : List V} (h : PatsAt H (ps ++ [p]) vs) : ∃ us y, vs = us ++ [y] ∧ PatsAt H ps us ∧ PatAt H p y := by
  obtain ⟨us, ws, rfl, a, b⟩ := PatsAt.cut h
  obtain ⟨y, r, rfl, hy, hr⟩ := b
  rw [show r = [] from hr]
  exact ⟨us, y, rfl, a, hy⟩
theorem sizeL_one (p : Pat) : sizeL [p] = p.size := by simp [sizeL]
end Bo
set_option Elab.async false
set_option linter.all false
set_option maxRecDepth 100000
set_option maxHeartbeats 4000000
namespace Bo
open PySem PySem.Spec PyProof.Rows L2 GE
def sgn (c : Nat) : Str := ⟨#[c]⟩
def txt (l : List Nat) : Str := ⟨l.toArray⟩
theorem cds_txt (l : List Nat) : cds (txt l) = l := rfl
theorem txt_cds (z : Str) : txt (cds z) = z := by cases z; rfl
theorem join_txt (l : List Nat) : Txt.join (Str.ofString "") (l.map sgn) = txt l := by
  show Builtin.Str.glued _ _ = _
  rw [StrLaws.glued_eq_join]
  have e : TL.tl (Str.join (Str.ofString "") (l.map sgn)) = l := by
    rw [TL.tl_join, List.map_map]
    show TL.joinL [] _ = l
    induction l with
    | nil => rfl
    | cons a r ih =>
      cases r with
      | nil => rfl
      | cons b r => 
        show [a] ++ ([] ++ TL.joinL [] _) = _
        rw [List.nil_append]
        show [a] ++ TL.joinL [] ((b :: r).map (TL.tl ∘ sgn)) = _
        rw [ih]; rfl
  rw [← txt_cds (Str.join _ _)]
  exact congrArg txt e
/-- the letters that a cell draws -/
def mkL (r s n : Nat) : Str := txt ((List.range n).map fun k => 97 + (r + k * s) % 26)
theorem mkL_good : ∀ r, r < 26 → ∀ s, s < 12 → ∀ n, n < 4 → goodS (mkL r (s + 1) (n + 1)) = true := by decide +kernel
def lets (z : Int) : Str := mkL ((z / 4) % 26).toNat (1 + (z / 104) % 12).toNat (1 + z % 4).toNat
theorem lets_good (z : Int) : goodS (lets z) = true := by
  have h1 : ((z / 4) % 26).toNat < 26 := by omega
  have h2 : (1 + (z / 104) % 12).toNat = ((z / 104) % 12).toNat + 1 := by omega
  have h3 : (1 + z % 4).toNat = (z % 4).toNat + 1 := by omega
  rw [lets, h2, h3]
  exact mkL_good _ h1 _ (by omega) _ (by omega)
def spCA (K : PySem.W.Frag) : Sp := fun vs H Q _ => ∃ (a : Addr) (ns : List Int) (k : Nat), vs = [.ref a, nV k] ∧ SqL K H a (ns.map V.int) ∧ Q (.int (ns.getD k 0)) H
def spLt : Sp := fun vs H Q _ => ∃ z : Int, vs = [.int z] ∧ ∀ H', Ext H H' → Q (.str (lets z)) H'
def alphabet : Str := "abcdefghijklmnopqrstuvwxyz"
theorem alpha_get : ∀ i, i < 26 → (cds alphabet)[i]? = some (97 + i) := by decide +kernel
section
variable {P : Program} {w : World} {K : PySem.W.Frag} {mg : Str → Option Value} {base : Heap}
theorem scCA : FnScope ["_law_script", "_law_k"] ["_law_script", "_law_k"] (defScope sLawCellAt) := ⟨rfl, rfl, rfl, by decide +kernel, rfl, by decide +kernel, by decide +kernel⟩
theorem scLt : FnScope ["_law_cell", "_law_some", "_law_k"] ["_law_cell"] (defScope sLawLetters) := ⟨rfl, rfl, rfl, by decide +kernel, rfl, by decide +kernel, by decide +kernel⟩
theorem ca_ok {f : Addr} {fd : FuncData} (F : FnP K "_law_cell_at" sLawCellAt f fd) (ml : mg "len" = none) : FnOk P w K mg base CX0 1 f fd ["_law_script", "_law_k"] (spCA K) := by
  refine okD F scCA (fun vs H Q E h => ?_) (fun cdv A outer s H vs Q E hr h => ?_)
  · obtain ⟨a, ns, k, rfl, _⟩ := h
    rfl
  obtain ⟨a, ns, k, rfl, hS, q⟩ := h
  refine ⟨_, pss_cons (ps_if (pt_cmpR op_lt (pv 1) (pe_callB call_len rfl ml PySem.boot_len (pa_cons (pv 0) pa_nil)) (nomark _)) (pss_one (ps_ret (pe_ix ix_list (pv 0) (pv 1) (fun _ _ => rfl)))) pss_nil)
    (pss_one (ps_ret pe_int)), ?_⟩
  refine t_seq ⟨_, rfl, _, rfl, .ref a, _, rfl, .inl ⟨_, hS, rfl⟩, _, _, rfl, rfl, _, rfl, ?_⟩
  rw [List.length_map]
  by_cases h : k < ns.length
  · refine iffT (decide_eq_true (by omega)) ⟨_, rfl, _, rfl, a, _, _, _, rfl, rfl, hS, atI_nat (v := .int (ns.getD k 0)) ?_, q⟩
    rw [List.getElem?_map, List.getElem?_eq_getElem h]
    simp [List.getD, List.getElem?_eq_getElem h]
  · refine iffF (decide_eq_false (by omega)) ?_
    have e : ns.getD k 0 = 0 := by rw [List.getD_eq_getElem?_getD, List.getElem?_eq_none (by omega)]; rfl
    rw [e] at q
    exact q
theorem lt_ok {f : Addr} {fd : FuncData} (F : FnP K "_law_letters" sLawLetters f fd) (mr : mg "range" = none) : FnOk P w K mg base CX0 1 f fd ["_law_cell"] spLt := by
  refine okD F scLt (fun vs H Q E h => ?_) (fun cdv A outer s H vs Q E hr h => ?_)
  · obtain ⟨z, rfl, _⟩ := h
    rfl
  obtain ⟨z, rfl, q⟩ := h
  refine ⟨_, pss_cons (ps_set (i := 1) scLt.nd rfl (Or.inr rfl) pe_str)
    (pss_one (ps_ret (pe_join pe_str (pe_lc (own := [("_law_k", 2)]) (g := gName 2) (tt := tYes) rfl scLt.nd (pi_range1 rfl mr (pa_cons (pe_op op_add pe_int (pe_op op_mod (pv 0) pe_int)) pa_nil))
      (blkOk_by (N := ["_law_cell", "_law_some", "_law_k"]) (sc := defScope sLawLetters) (by decide +kernel))
      (fun _ _ _ _ _ => pg_name (i := 2) scLt.nd rfl (Or.inl rfl) (Or.inr rfl)) (fun _ _ _ _ _ => pts_nil)
      (fun _ _ _ _ _ => pe_ix ix_str (pv 1) (pe_op op_mod (pe_op op_add (pe_op op_fdiv (pv 0) pe_int) (pe_op op_mul (pv 2) (pe_op op_add pe_int (pe_op op_mod (pe_op op_fdiv (pv 0) pe_int) pe_int)))) pe_int) (fun _ _ => rfl)))))), ?_⟩
  refine t_setC ⟨⟨_, rfl⟩, ?_⟩
  refine ⟨_, rfl, _, _, rfl, rfl, show (0 : Int) < 4 by decide, _, _, rfl, rfl, _, rfl, by omega, by omega, fun D hD => ?_⟩
  have hn : (1 + z % 4).toNat ≤ 4 := by omega
  refine lc_range (Built H D fun k => .str (sgn (97 + (((z / 4) % 26).toNat + k * (1 + (z / 104) % 12).toNat) % 26))) (Built.zero hD) ?_ ?_
  · intro k H' hk b
    refine ⟨rfl, ?_⟩
    refine ⟨_, rfl, _, rfl, _, _, rfl, rfl, show (0 : Int) < 4 ∧ (4 : Int) < 1073741824 by decide, _, rfl, _, rfl, _, _, rfl, rfl, show (0 : Int) < 104 ∧ (104 : Int) < 1073741824 by decide, _, _, rfl, rfl, show (0 : Int) < 12 by decide, _, _, rfl, rfl, _, _, rfl, rfl, ?_⟩
    have k4 : k < 4 := by omega
    have eS : 1 + z / 104 % 12 = (((1 + z / 104 % 12).toNat : Nat) : Int) := by omega
    have e : (z / 4 + (0 + (k : Int)) * (1 + z / 104 % 12)) % 26 = (((((z / 4) % 26).toNat + k * (1 + (z / 104) % 12).toNat) % 26 : Nat) : Int) := by
      rw [eS, Int.zero_add, ← Int.natCast_mul]
      rw [show (((1 + z / 104 % 12).toNat : Nat) : Int).toNat = (1 + z / 104 % 12).toNat from Int.toNat_natCast _]
      generalize k * (1 + z / 104 % 12).toNat = m'
      omega
    refine ⟨.inl ⟨by omega, by omega⟩, _, _, rfl, rfl, _, _, rfl, rfl, show (0 : Int) < 26 by decide, alphabet, _, 97 + (((z / 4) % 26).toNat + k * (1 + (z / 104) % 12).toNat) % 26, rfl, congrArg V.int e, by decide, atI_nat (alpha_get _ (by omega)), ?_⟩
    exact b.next hD (Ext.refl _) rfl (Nat.lt_trans k4 (by decide))
  · intro H' b
    refine ⟨_, _, (List.range (1 + z % 4).toNat).map (fun k => sgn (97 + (((z / 4) % 26).toNat + k * (1 + (z / 104) % 12).toNat) % 26)), rfl, rfl, .inl ?_, ?_, ?_⟩
    · rw [List.map_map]; exact SqL.of b.2
    · have : ((List.range (1 + z % 4).toNat).map (fun k => sgn (97 + (((z / 4) % 26).toNat + k * (1 + (z / 104) % 12).toNat) % 26))).map (·.length) = List.replicate (1 + z % 4).toNat 1 := by
        rw [List.map_map]
        exact List.eq_replicate_iff.mpr ⟨by simp, fun b hb => by obtain ⟨k, _, rfl⟩ := List.mem_map.mp hb; rfl⟩
      rw [this, List.sum_replicate_nat]
      rw [show (Str.ofString "").length = 0 by decide]
      simp
      omega
    · have e : (List.range (1 + z % 4).toNat).map (fun k => sgn (97 + (((z / 4) % 26).toNat + k * (1 + (z / 104) % 12).toNat) % 26)) = ((List.range (1 + z % 4).toNat).map (fun k => 97 + (((z / 4) % 26).toNat + k * (1 + (z / 104) % 12).toNat) % 26)).map sgn := by
        rw [List.map_map]; rfl
      rw [e, join_txt]
      exact q _ b.1
end
end Bo
set_option Elab.async false
set_option linter.all false
set_option maxRecDepth 100000
set_option maxHeartbeats 4000000
namespace Bo
open PySem PySem.Spec PyProof.Rows L2 GE
def spLS (d : Nat) : Sp := fun vs H Q _ => ∃ (v : V) (p : Pat), vs = [v] ∧ PatAt H p v ∧ p.dep ≤ d ∧ p.size ≤ 500 ∧ ∀ H', Ext H H' → Q (nV p.size) H'
theorem sizeL_sum : ∀ ps : List Pat, sizeL ps = (ps.map Pat.size).sum
  | [] => rfl
  | p :: ps => by rw [sizeL, List.map_cons, List.sum_cons, sizeL_sum ps]
theorem size_mem {p : Pat} : ∀ {ps : List Pat}, p ∈ ps → p.size ≤ sizeL ps
  | q :: ps, h => by
    rcases List.mem_cons.mp h with e | h
    · rw [e, sizeL]; omega
    · have := size_mem h; rw [sizeL]; omega
theorem sum_nV : ∀ ns : List Nat, (ns.map (fun (n : Nat) => (n : Int))).sum = ((ns.sum : Nat) : Int)
  | [] => rfl
  | n :: ns => by rw [List.map_cons, List.sum_cons, List.sum_cons, sum_nV ns]; omega
section
variable {P : Program} {w : World} {K : PySem.W.Frag} {mg : Str → Option Value} {base : Heap}
theorem scLS : FnScope ["_law_pattern", "_law_part"] ["_law_pattern"] (defScope sLawSize) := ⟨rfl, rfl, rfl, by decide +kernel, rfl, by decide +kernel, by decide +kernel⟩
theorem ls_none {f : Addr} {fd : FuncData} {k : Nat} : FnOk P w K mg base CX0 k f fd ["_law_pattern"] (spLS 0) := by
  have no : ∀ vs H Q E, ¬ spLS 0 vs H Q E := fun vs H Q E h => by
    obtain ⟨v, p, _, _, hd, _⟩ := h
    have := dep_pos p
    omega
  exact ⟨fun vs H Q E h => absurd h (no vs H Q E), fun A outer s H args us vs Q E _ _ _ _ h => absurd h (no vs H Q E)⟩
theorem ls_step {f : Addr} {fd : FuncData} {k d : Nat} (F : FnP K "_law_size" sLawSize f fd) (G : FnOk P w K mg base CX0 k f fd ["_law_pattern"] (spLS d)) (b : Binds K fd ["_law_pattern"] [])
    (mG : mg "_law_size" = some (.ref f)) (ms : mg "sum" = none) : FnOk P w K mg base CX0 (k + 1) f fd ["_law_pattern"] (spLS (d + 1)) := by
  refine okD F scLS (fun vs H Q E h => ?_) (fun cdv A outer s H vs Q E hr h => ?_)
  · obtain ⟨v, p, rfl, _⟩ := h
    rfl
  obtain ⟨v, p, rfl, hp, hd, hs, q⟩ := h
  refine ⟨_, pss_cons (ps_if (pt_cmpR op_in_seq (pe_ix ix_tup (pv 0) pe_int (fun _ _ => rfl)) (pe_tup (pa_cons pe_str (pa_cons pe_str (pa_cons pe_str pa_nil)))) (by rfl))
      (pss_one (ps_ret (pe_op op_add pe_int (pe_callB (cr_sum rfl) rfl ms boot_sum (pa_cons (pe_lc (own := [("_law_part", 1)]) (g := gName 1) (tt := tYes) rfl scLS.nd (pi_tup (pe_ix ix_tup (pv 0) pe_int (fun _ _ => rfl)))
        (blkOk_by (N := ["_law_pattern", "_law_part"]) (sc := defScope sLawSize) (by decide +kernel))
        (fun _ _ _ _ _ => pg_name (i := 1) scLS.nd rfl (Or.inl rfl) (Or.inr rfl)) (fun _ _ _ _ _ => pts_nil)
        (fun _ _ _ _ _ => pe_call G hr rfl mG F.kp b .nil pass0 (pa_cons (pv 1) pa_nil))) pa_nil))))) pss_nil)
    (pss_cons (ps_if (pt_cmpR op_in_seq (pe_ix ix_tup (pv 0) pe_int (fun _ _ => rfl)) (pe_tup (pa_cons pe_str (pa_cons pe_str pa_nil))) (by rfl))
      (pss_one (ps_ret (pe_op op_add pe_int (pe_call G hr rfl mG F.kp b .nil pass0 (pa_cons (pe_ix ix_tup (pv 0) pe_int (fun _ _ => rfl)) pa_nil))))) pss_nil)
    (pss_one (ps_ret pe_int))), ?_⟩
  refine Classical.byContradiction fun hno => ?_
  have nul : ∀ (k : Str) (a : Addr) (xs : List V), H a = some (.tup (.str k :: xs)) → k ∉ (["row", "or", "and"] : List Str) → k ∉ (["many", "not"] : List Str) → p.size = 1 → v = .ref a → False := by
    intro k a xs ha n1 n2 e ev
    subst ev
    apply hno
    refine t_seq (if_inF ["row", "or", "and"] rfl ha n1 fun p1 np => t_seq (if_inF ["many", "not"] rfl ((Ext.new np).tup ha) n2 fun p2 np2 => ?_))
    have q' : ∀ H', Ext H H' → Q (nV 1) H' := fun H' e' => e ▸ q H' e'
    exact q' _ ((Ext.new np).trans (Ext.new np2))
  have seq : ∀ (k : Str) (a b : Addr) (ps : List Pat) (us : List V), H a = some (.tup [.str k, .ref b]) → H b = some (.tup us) → PatsAt H ps us → k ∈ (["row", "or", "and"] : List Str) → p.size = sizeL ps + 1 → depL ps ≤ d → v = .ref a → False := by
    intro k a b ps us ha hb hps n1 e hdp ev
    subst ev
    apply hno
    refine t_seq (if_inT ["row", "or", "and"] rfl ha n1 fun p1 np => ?_)
    refine r_ix 1 rfl ((Ext.new np).tup ha) rfl ⟨b, rfl, ⟨us, SqT.of ((Ext.new np).tup hb)⟩, fun D hD => ?_⟩
    have hD0 : H D = none := (Ext.new np).free hD
    refine lc_tup (Built H D fun i => nV ((ps.map Pat.size).getD i 0)) ⟨(Ext.new np).wr hD0, upd_same⟩ (fun i H' _ b => SqT.of (b.1.tup hb)) ?_ ?_
    · intro i x H' hx bu
      refine ⟨rfl, ?_⟩
      obtain ⟨r, hr, hrx⟩ := hps.get hx
      have hm := List.mem_of_getElem? hr
      refine ⟨_, rfl, x, r, rfl, PatAt.ext bu.1 _ _ hrx, Nat.le_trans (dep_mem hm) hdp, Nat.le_trans (size_mem hm) (by omega), fun H2 e2 => ?_⟩
      have hlt : i < ps.length := (List.getElem?_eq_some_iff.mp hr).1
      have := len_le_sizeL ps
      refine bu.next hD0 e2 ?_ (Nat.lt_trans (show i < 501 by omega) (by decide))
      rw [List.getD_eq_getElem?_getD, List.getElem?_map, hr]
      rfl
    · intro H' bu
      have e3 : (List.range us.length).map (fun i => nV ((ps.map Pat.size).getD i 0)) = ((ps.map Pat.size).map (fun (n : Nat) => (n : Int))).map V.int := by
        rw [hps.len, List.map_map]
        refine List.ext_getElem? fun i => ?_
        rw [List.getElem?_map, List.getElem?_map]
        by_cases hi : i < ps.length
        · rw [List.getElem?_range hi, List.getElem?_eq_getElem (by simpa using hi)]
          simp [List.getD, hi]
        · rw [List.getElem?_eq_none (by simpa using hi), List.getElem?_eq_none (by simpa using hi)]
          rfl
      have hbu := bu.2
      rw [e3] at hbu
      refine ⟨D, _, rfl, SqL.of hbu, _, _, rfl, rfl, ?_⟩
      have := q _ bu.1
      rw [sum_nV, ← sizeL_sum]
      rw [e] at this
      have e5 : (1 : Int) + ((sizeL ps : Nat) : Int) = ((sizeL ps + 1 : Nat) : Int) := by omega
      show Q (.int (1 + ((sizeL ps : Nat) : Int))) H'
      rw [e5]
      exact this
  have one : ∀ (k : Str) (a : Addr) (u : V) (p' : Pat), H a = some (.tup [.str k, u]) → PatAt H p' u → k ∉ (["row", "or", "and"] : List Str) → k ∈ (["many", "not"] : List Str) → p.size = p'.size + 1 → p'.dep ≤ d → v = .ref a → False := by
    intro k a u p' ha hu n1 n2 e hdp ev
    subst ev
    apply hno
    refine t_seq (if_inF ["row", "or", "and"] rfl ha n1 fun p1 np => t_seq (if_inT ["many", "not"] rfl ((Ext.new np).tup ha) n2 fun p2 np2 => ?_))
    have e2 := (Ext.new (o := .tup ((["row", "or", "and"] : List Str).map V.str)) np).trans (Ext.new (o := .tup ((["many", "not"] : List Str).map V.str)) np2)
    refine r_ix 1 rfl (e2.tup ha) rfl ⟨u, p', rfl, PatAt.ext e2 _ _ hu, hdp, by omega, fun H3 e3 => ⟨_, _, rfl, rfl, ?_⟩⟩
    have := q _ (e2.trans e3)
    rw [e] at this
    have e5 : (1 : Int) + ((p'.size : Nat) : Int) = ((p'.size + 1 : Nat) : Int) := by omega
    show Q (.int (1 + ((p'.size : Nat) : Int))) H3
    rw [e5]
    exact this
  cases p with
  | none => obtain ⟨a, rfl, ha⟩ := hp; exact nul _ a _ ha (by decide) (by decide) rfl rfl
  | empty => obtain ⟨a, rfl, ha⟩ := hp; exact nul _ a _ ha (by decide) (by decide) rfl rfl
  | sign c => obtain ⟨a, rfl, ha⟩ := hp; exact nul _ a _ ha (by decide) (by decide) rfl rfl
  | row ps => obtain ⟨a, b, vs, rfl, ha, hb, hps⟩ := hp; exact seq _ a b ps vs ha hb hps (by decide) rfl (by simp [Pat.dep] at hd; omega) rfl
  | or ps => obtain ⟨a, b, vs, rfl, ha, hb, hps⟩ := hp; exact seq _ a b ps vs ha hb hps (by decide) rfl (by simp [Pat.dep] at hd; omega) rfl
  | and ps => obtain ⟨a, b, vs, rfl, ha, hb, hps⟩ := hp; exact seq _ a b ps vs ha hb hps (by decide) rfl (by simp [Pat.dep] at hd; omega) rfl
  | many p => obtain ⟨a, u, rfl, ha, hu⟩ := hp; exact one _ a u p ha hu (by decide) (by decide) rfl (by simp [Pat.dep] at hd; omega) rfl
  | not p => obtain ⟨a, u, rfl, ha, hu⟩ := hp; exact one _ a u p ha hu (by decide) (by decide) rfl (by simp [Pat.dep] at hd; omega) rfl
end
end Bo
set_option Elab.async false
set_option linter.all false
set_option maxRecDepth 100000
set_option maxHeartbeats 4000000
namespace Bo
open PySem PySem.Spec PyProof.Rows L2 GE
theorem cut_last1 {vs : List V} {v : V} : cutV (vs ++ [v]) none (Option.some (-1)) = vs := by
  unfold cutV
  rw [HT.sIx_none, List.drop_zero]
  have e : HT.sIx (vs ++ [v]).length (vs ++ [v]).length (Option.some (-1)) = vs.length := by
    show (if (-1 : Int) < 0 then ((-1 : Int) + ((vs ++ [v]).length : Int)).toNat else min (-1 : Int).toNat (vs ++ [v]).length) = vs.length
    rw [if_pos (by decide), List.length_append, List.length_singleton]
    omega
  rw [e, Nat.sub_zero, List.take_left]
theorem PatsAt.take {H : Hp} : ∀ {ps : List Pat} {vs : List V} (k : Nat), PatsAt H ps vs → PatsAt H (ps.take k) (vs.take k)
  | [], vs, k, h => by rw [show vs = [] from h]; simp; rfl
  | p :: ps, vs, 0, h => rfl
  | p :: ps, vs, k + 1, ⟨v, r, e, a, b⟩ => by rw [e]; exact ⟨v, r.take k, rfl, a, b.take k⟩
theorem PatsAt.drop {H : Hp} : ∀ {ps : List Pat} {vs : List V} (k : Nat), PatsAt H ps vs → PatsAt H (ps.drop k) (vs.drop k)
  | [], vs, k, h => by rw [show vs = [] from h]; simp; rfl
  | p :: ps, vs, 0, h => h
  | p :: ps, vs, k + 1, ⟨v, r, e, a, b⟩ => by rw [e]; exact b.drop k
theorem PatsAt.cast {H : Hp} {ps : List Pat} {vs us : List V} (e : vs = us) (h : PatsAt H ps us) : PatsAt H ps vs := e ▸ h
theorem PatsAt.one {H : Hp} {p : Pat} {v : V} (h : PatAt H p v) : PatsAt H [p] [v] := ⟨v, [], rfl, h, rfl⟩
def spSt : Sp := fun vs H Q _ => ∃ (L : Str) (a : Addr) (us : List V) (ps : List Pat) (z : Int), vs = [.str L, .ref a, .int z] ∧ goodS L = true ∧ H a = some (.lst us) ∧ PatsAt H ps us ∧ okL L ps ∧ sizeL ps ≤ 50 ∧
  ∀ b ws qs H', Ext H H' → H' b = some (.lst ws) → PatsAt H' qs ws → okL L qs → sizeL qs = sizeL ps + 1 → Q (.ref b) H'
theorem good_len {L : Str} (h : goodS L = true) : 1 ≤ L.cps.size ∧ L.cps.size ≤ 4 := by
  unfold goodS at h
  simp only [Bool.and_eq_true, decide_eq_true_eq] at h
  exact ⟨h.1.1.1, h.1.1.2⟩
/-- if c: t, and what comes behind, where c is known -/
theorem seq_fall {c : TT} {t rest : TS} {D : Ends} {σ : L2.St} {H : Hp} {cond : Prop} (hc : ∀ Q : Bool → Hp → Prop, (cond → ∀ H1, Ext H H1 → Q true H1) → (¬ cond → ∀ H1, Ext H H1 → Q false H1) → c σ H Q)
    (ht : cond → ∀ H1, Ext H H1 → t { D with nx := rest D } σ H1) (hr : ¬ cond → ∀ H1, Ext H H1 → rest D σ H1) : tSeq (tIfS c t tNext) rest D σ H :=
  hc _ (fun k H1 e => iffT rfl (ht k H1 e)) (fun k H1 e => iffF rfl (hr k H1 e))
theorem call_min2m {X : Cx} (hc : X.calm = true) : CallR X (.builtin "min") (fun xs H Q => ∃ i j m, xs = [.int i, .int j] ∧ (if j < i then j else i) = m ∧ Q (.int m) H) := by
  intro pins s σ H xs us Q I r h
  obtain ⟨i, j, m, e, hm, q⟩ := h
  exact call_min2 hc pins s σ H xs us Q I r ⟨i, j, e, hm.symm ▸ q⟩
theorem kind3 (L : Str) {kd : Int} (h : 4 < kd ∧ kd < 8) : ∃ (k : Str) (mk : List Pat → Pat), atI [V.str "row", V.str "or", V.str "and"] (kd - 5) = Option.some (.str k) ∧
    (∀ (H : Hp) (ps : List Pat) (a b : Addr) (vs : List V), H a = Option.some (.tup [.str k, .ref b]) → H b = Option.some (.tup vs) → PatsAt H ps vs → PatAt H (mk ps) (.ref a)) ∧
    (∀ ps, 2 ≤ ps.length → okL L ps → (mk ps).ok L) ∧ ∀ ps, (mk ps).size = sizeL ps + 1 := by
  have : kd = 5 ∨ kd = 6 ∨ kd = 7 := by omega
  rcases this with rfl | rfl | rfl
  · exact ⟨"row", Pat.row, rfl, fun H ps a b vs h1 h2 h3 => ⟨a, b, vs, rfl, h1, h2, h3⟩, fun ps h1 h2 => ⟨h1, h2⟩, fun ps => rfl⟩
  · exact ⟨"or", Pat.or, rfl, fun H ps a b vs h1 h2 h3 => ⟨a, b, vs, rfl, h1, h2, h3⟩, fun ps h1 h2 => ⟨h1, h2⟩, fun ps => rfl⟩
  · exact ⟨"and", Pat.and, rfl, fun H ps a b vs h1 h2 h3 => ⟨a, b, vs, rfl, h1, h2, h3⟩, fun ps h1 h2 => ⟨h1, h2⟩, fun ps => rfl⟩
theorem kind1 (L : Str) {kd : Int} (h : 7 < kd ∧ kd < 11) : ∃ (k : Str) (mk : Pat → Pat), atI [V.str "many", V.str "not", V.str "many"] (kd - 8) = Option.some (.str k) ∧
    (∀ (H : Hp) (p : Pat) (a : Addr) (u : V), H a = Option.some (.tup [.str k, u]) → PatAt H p u → PatAt H (mk p) (.ref a)) ∧
    (∀ p : Pat, p.ok L → (mk p).ok L) ∧ ∀ p, (mk p).size = p.size + 1 := by
  have : kd = 8 ∨ kd = 9 ∨ kd = 10 := by omega
  rcases this with rfl | rfl | rfl
  · exact ⟨"many", Pat.many, rfl, fun H p a u h1 h2 => ⟨a, u, rfl, h1, h2⟩, fun p h => h, fun p => rfl⟩
  · exact ⟨"not", Pat.not, rfl, fun H p a u h1 h2 => ⟨a, u, rfl, h1, h2⟩, fun p h => h, fun p => rfl⟩
  · exact ⟨"many", Pat.many, rfl, fun H p a u h1 h2 => ⟨a, u, rfl, h1, h2⟩, fun p h => h, fun p => rfl⟩
section
variable {P : Program} {w : World} {K : PySem.W.Frag} {mg : Str → Option Value} {base : Heap}
theorem scSt : FnScope ["_law_letters_here", "_law_stack", "_law_cell", "_law_rest", "_law_kind", "_law_many"] ["_law_letters_here", "_law_stack", "_law_cell"] (defScope sLawStep) := ⟨rfl, rfl, rfl, by decide +kernel, rfl, by decide +kernel, by decide +kernel⟩
theorem st_ok {f : Addr} {fd : FuncData} (F : FnP K "_law_step" sLawStep f fd) (ml : mg "len" = none) (mm : mg "min" = none) (mt : mg "tuple" = none) : FnOk P w K mg base CX0 1 f fd ["_law_letters_here", "_law_stack", "_law_cell"] spSt := by
  refine okD F scSt (fun vs H Q E h => ?_) (fun cdv A outer s H vs Q E hr h => ?_)
  · obtain ⟨L, a, us, ps, z, rfl, _⟩ := h
    rfl
  obtain ⟨L, a, us, ps, z, rfl, hL, ha, hps, hok, hsz, q⟩ := h
  refine ⟨_, pss_cons (ps_set (i := 3) scSt.nd rfl (Or.inl rfl) (pe_op op_fdiv (pv 2) pe_int))
    (pss_cons (ps_set (i := 4) scSt.nd rfl (Or.inl rfl) (pe_op op_mod (pv 2) pe_int))
    (pss_cons (ps_if (PW.pt (pw_and (pt_cmpR op_gt (pv 4) pe_int (nomark _)) (pw_and (pt_cmpR op_lt (pv 4) pe_int (nomark _)) (pw_and1 (pt_cmpR op_gt (pe_callB call_len rfl ml PySem.boot_len (pa_cons (pv 1) pa_nil)) pe_int (nomark _))))))
      (pss_cons (ps_set (i := 5) scSt.nd rfl (Or.inl rfl) (pe_callB (call_min2m rfl) rfl mm boot_min (pa_cons (pe_callB call_len rfl ml PySem.boot_len (pa_cons (pv 1) pa_nil)) (pa_cons (pe_op op_add pe_int (pe_op op_mod (pv 3) pe_int)) pa_nil))))
      (pss_one (ps_ret (pe_op op_cat (pe_slice sl_list (pv 1) po_none (po_some (pe_op op_sub (pe_callB call_len rfl ml PySem.boot_len (pa_cons (pv 1) pa_nil)) (pv 5))))
        (pe_lst (pa_cons (pe_tup (pa_cons (pe_ix ix_list (pe_lst (pa_cons pe_str (pa_cons pe_str (pa_cons pe_str pa_nil)))) (pe_op op_sub (pv 4) pe_int) (fun _ _ => rfl))
          (pa_cons (pe_tupleOf rfl mt (pe_slice sl_list (pv 1) (po_some (pe_op op_sub (pe_callB call_len rfl ml PySem.boot_len (pa_cons (pv 1) pa_nil)) (pv 5))) po_none)) pa_nil))) pa_nil)))))) pss_nil)
    (pss_cons (ps_if (PW.pt (pw_and (pt_cmpR op_gt (pv 4) pe_int (nomark _)) (pw_and1 (pt_cmpR (op_neNil hr.units) (pv 1) (pe_lst pa_nil) (by rfl)))))
      (pss_one (ps_ret (pe_op op_cat (pe_slice sl_list (pv 1) po_none (po_some (pe_un un_neg pe_int)))
        (pe_lst (pa_cons (pe_tup (pa_cons (pe_ix ix_list (pe_lst (pa_cons pe_str (pa_cons pe_str (pa_cons pe_str pa_nil)))) (pe_op op_sub (pv 4) pe_int) (fun _ _ => rfl))
          (pa_cons (pe_ix ix_list (pv 1) (pe_un un_neg pe_int) (fun _ _ => rfl)) pa_nil))) pa_nil))))) pss_nil)
    (pss_cons (ps_if (pt_cmpR op_eq (pv 4) pe_int (nomark _))
      (pss_one (ps_ret (pe_op op_cat (pv 1) (pe_lst (pa_cons (pe_ix ix_list (pe_lst (pa_cons (pe_tup (pa_cons pe_str pa_nil)) (pa_cons (pe_tup (pa_cons pe_str pa_nil)) (pa_cons (pe_tup (pa_cons pe_str pa_nil)) pa_nil)))) (pe_op op_mod (pv 3) pe_int) (fun _ _ => rfl)) pa_nil))))) pss_nil)
    (pss_one (ps_ret (pe_op op_cat (pv 1) (pe_lst (pa_cons (pe_tup (pa_cons pe_str (pa_cons (pe_ix ix_str (pv 0) (pe_op op_mod (pv 3) (pe_callB call_len rfl ml PySem.boot_len (pa_cons (pv 0) pa_nil))) (fun _ _ => rfl)) pa_nil))) pa_nil))))))))), ?_⟩
  have hlen := hps.len
  have hle := len_le_sizeL ps
  have sq : ∀ H', Ext H H' → SqL K H' a us := fun H' e => SqL.of (e.lst ha)
  -- the rest of the cell and its kind
  refine t_set ⟨_, rfl, _, _, rfl, rfl, show (0 : Int) < 11 ∧ (11 : Int) < 1073741824 by decide, ?_⟩
  refine t_set ⟨_, rfl, _, _, rfl, rfl, show (0 : Int) < 11 by decide, ?_⟩
  have hkd : 0 ≤ z % 11 ∧ z % 11 < 11 := by omega
  have l9 : ∀ n : Nat, n ≤ 500 → n ≤ sizeLine := fun n h => Nat.le_trans h (by decide)
  refine seq_fall (cond := 4 < z % 11 ∧ z % 11 < 8 ∧ 1 < us.length) (fun R qT qF => ?_) (fun ⟨k1, k2, k3⟩ H1 e1 => ?_) (fun n1 H1 e1 => seq_fall (cond := 7 < z % 11 ∧ us ≠ []) (fun R qT qF => ?_) (fun ⟨k1, k2⟩ H2 e2 => ?_) (fun n2 H2 e2 => seq_fall (cond := z % 11 = 4) (fun R qT qF => ?_) (fun k1 H3 e3 => ?_) (fun n3 H3 e3 => ?_)))
  · refine ⟨_, rfl, _, _, rfl, rfl, _, rfl, ?_⟩
    by_cases a1 : 4 < z % 11
    · refine iffT (decide_eq_true a1) ⟨_, rfl, _, _, rfl, rfl, _, rfl, ?_⟩
      by_cases a2 : z % 11 < 8
      · refine iffT (decide_eq_true a2) ⟨_, rfl, .ref a, _, rfl, .inl ⟨_, sq H (Ext.refl _), rfl⟩, _, _, rfl, rfl, _, rfl, ?_⟩
        by_cases a3 : 1 < us.length
        · rw [decide_eq_true (by omega)]; exact qT ⟨a1, a2, a3⟩ _ (Ext.refl _)
        · rw [decide_eq_false (by omega)]; exact qF (fun h => a3 h.2.2) _ (Ext.refl _)
      · exact iffF (decide_eq_false a2) (qF (fun h => a2 h.2.1) _ (Ext.refl _))
    · exact iffF (decide_eq_false a1) (qF (fun h => a1 h.1) _ (Ext.refl _))
  · obtain ⟨m, hm, m2, ml9⟩ : ∃ m : Nat, (if 2 + z / 11 % 2 < ((us.length : Nat) : Int) then 2 + z / 11 % 2 else ((us.length : Nat) : Int)) = (m : Int) ∧ 2 ≤ m ∧ m ≤ us.length := by
      refine ⟨(if 2 + z / 11 % 2 < ((us.length : Nat) : Int) then 2 + z / 11 % 2 else ((us.length : Nat) : Int)).toNat, ?_, ?_, ?_⟩ <;> split <;> omega
    refine t_set ⟨_, rfl, .ref a, _, rfl, .inl ⟨_, sq H1 e1, rfl⟩, _, rfl, _, _, rfl, rfl, show (0 : Int) < 2 by decide, _, _, rfl, rfl, _, _, _, rfl, hm, ?_⟩
    obtain ⟨k, mk, hk, hp9, ho9, hs9⟩ := kind3 L ⟨k1, k2⟩
    have em : ((us.length : Nat) : Int) - (m : Int) = ((us.length - m : Nat) : Int) := by omega
    refine ⟨_, rfl, _, rfl, .ref a, _, rfl, .inl ⟨_, sq H1 e1, rfl⟩, _, rfl, _, _, rfl, rfl, _, rfl, a, us, rfl, sq H1 e1, fun p1 x1 => ?_⟩
    have f1 := e1.trans (Ext.new (o := .lst (cutV us none (Option.some (((us.length : Nat) : Int) - (m : Int))))) x1)
    refine ⟨by show 3 ≤ sizeLine; decide, fun p2 x2 => ⟨_, rfl, _, _, rfl, rfl, p2, _, _, _, rfl, rfl, SqL.of upd_same, hk, ?_⟩⟩
    have f2 := f1.trans (Ext.new (o := .lst [V.str "row", V.str "or", V.str "and"]) x2)
    refine ⟨_, rfl, _, rfl, .ref a, _, rfl, .inl ⟨_, sq _ f2, rfl⟩, _, rfl, _, _, rfl, rfl, _, rfl, a, us, rfl, sq _ f2, fun p3 x3 => .inl ⟨p3, _, rfl, SqL.of upd_same, fun p4 x4 => ?_⟩⟩
    have f3 := f2.trans (Ext.new (o := .lst (cutV us (Option.some (((us.length : Nat) : Int) - (m : Int))) none)) x3)
    have f4 := f3.trans (Ext.new (o := .tup (cutV us (Option.some (((us.length : Nat) : Int) - (m : Int))) none)) x4)
    refine ⟨by show 2 ≤ sizeLine; decide, fun p5 x5 => ⟨by show 1 ≤ sizeLine; decide, fun p6 x6 => ?_⟩⟩
    have f5 := f4.trans (Ext.new (o := .tup [V.str k, .ref p4]) x5)
    have f6 := f5.trans (Ext.new (o := .lst [.ref p5]) x6)
    have c1 : cutV us none (Option.some (((us.length : Nat) : Int) - (m : Int))) = us.take (us.length - m) := by rw [em]; exact cut_to (by omega)
    have c2 : cutV us (Option.some (((us.length : Nat) : Int) - (m : Int))) none = us.drop (us.length - m) := by rw [em]; exact cut_from (by omega)
    have g1 := (((((Ext.new (o := .lst [V.str "row", V.str "or", V.str "and"]) x2).trans (Ext.new (o := .lst (cutV us (Option.some (((us.length : Nat) : Int) - (m : Int))) none)) x3)).trans (Ext.new (o := .tup (cutV us (Option.some (((us.length : Nat) : Int) - (m : Int))) none)) x4)).trans (Ext.new (o := .tup [V.str k, .ref p4]) x5)).trans (Ext.new (o := .lst [.ref p5]) x6)).lst upd_same
    refine ⟨p1, p6, _, _, rfl, rfl, g1, upd_same, ?_, fun p7 x7 => ?_⟩
    · rw [c1, List.length_take]; exact l9 _ (by rw [List.length_singleton]; omega)
    have f7 := f6.trans (Ext.new (o := .lst (cutV us none (Option.some (((us.length : Nat) : Int) - (m : Int))) ++ [.ref p5])) x7)
    refine q p7 _ (ps.take (us.length - m) ++ [mk (ps.drop (us.length - m))]) _ f7 upd_same ?_ ?_ ?_
    · refine PatsAt.cast (congrArg (· ++ [V.ref p5]) c1) (((PatsAt.ext f7 _ _ hps).take _).append (PatsAt.one ?_))
      have e56 := (Ext.new (o := .lst [.ref p5]) x6).trans (Ext.new (o := .lst (cutV us none (Option.some (((us.length : Nat) : Int) - (m : Int))) ++ [.ref p5])) x7)
      have e4 := (Ext.new (o := .tup [V.str k, .ref p4]) x5).trans e56
      refine hp9 _ _ p5 p4 (us.drop (us.length - m)) (e56.tup upd_same) ?_ ((PatsAt.ext f7 _ _ hps).drop _)
      rw [← c2]
      exact e4.tup upd_same
    · have hok2 : okL L (ps.take (us.length - m) ++ ps.drop (us.length - m)) := by rw [List.take_append_drop]; exact hok
      obtain ⟨o1, o2⟩ := okL_append.mp hok2
      exact okL_append.mpr ⟨o1, ho9 _ (by rw [List.length_drop]; omega) o2, trivial⟩
    · have hz2 : sizeL (ps.take (us.length - m) ++ ps.drop (us.length - m)) = sizeL ps := by rw [List.take_append_drop]
      rw [sizeL_append] at hz2
      rw [sizeL_append, sizeL_one, hs9]
      omega
  · refine ⟨_, rfl, _, _, rfl, rfl, _, rfl, ?_⟩
    by_cases a1 : 7 < z % 11
    · refine iffT (decide_eq_true a1) ⟨_, rfl, Nat.zero_le _, fun p x => ⟨a, p, us, rfl, rfl, sq _ (e1.trans (Ext.new x)), SqL.of upd_same, _, rfl, ?_⟩⟩
      by_cases a2 : us = []
      · subst a2; exact qF (fun h => h.2 rfl) _ (Ext.new x)
      · have : us.isEmpty = false := by cases us with | nil => exact absurd rfl a2 | cons => rfl
        rw [this]; exact qT ⟨a1, a2⟩ _ (Ext.new x)
    · exact iffF (decide_eq_false a1) (qF (fun h => a1 h.1) _ (Ext.refl _))
  · obtain ⟨k, mk, hk, hp9, ho9, hs9⟩ := kind1 L ⟨k1, hkd.2⟩
    have e12 := e1.trans e2
    rcases List.eq_nil_or_concat ps with rfl | ⟨ps, r, rfl⟩
    · exact absurd hps k2
    rw [List.concat_eq_append] at hps hok q hsz hlen hle
    obtain ⟨vs, y, rfl, hvs, hy⟩ := cut_last hps
    obtain ⟨o1, o2, _⟩ := okL_append.mp hok
    have hs0 : sizeL (ps ++ [r]) = sizeL ps + r.size := by rw [sizeL_append, sizeL_one]
    have hlv := hvs.len
    have hlp := len_le_sizeL ps
    refine ⟨_, rfl, _, rfl, _, rfl, a, _, rfl, sq _ e12, fun p1 x1 => ⟨by show 3 ≤ sizeLine; decide, fun p2 x2 => ⟨_, rfl, _, _, rfl, rfl, p2, _, _, _, rfl, rfl, SqL.of upd_same, hk, ?_⟩⟩⟩
    have f1 := e12.trans (Ext.new (o := .lst (cutV (vs ++ [y]) none (Option.some (-1)))) x1)
    have f2 := f1.trans (Ext.new (o := .lst [V.str "many", V.str "not", V.str "many"]) x2)
    refine ⟨_, rfl, _, rfl, a, _, _, y, rfl, rfl, sq _ f2, atI_last _ _, ⟨by show 2 ≤ sizeLine; decide, fun p3 x3 => ⟨by show 1 ≤ sizeLine; decide, fun p4 x4 => ?_⟩⟩⟩
    have f3 := f2.trans (Ext.new (o := .tup [V.str k, y]) x3)
    have f4 := f3.trans (Ext.new (o := .lst [.ref p3]) x4)
    have g1 := (((Ext.new (o := .lst [V.str "many", V.str "not", V.str "many"]) x2).trans (Ext.new (o := .tup [V.str k, y]) x3)).trans (Ext.new (o := .lst [.ref p3]) x4)).lst upd_same
    refine ⟨p1, p4, _, _, rfl, rfl, g1, upd_same, ?_, fun p5 x5 => ?_⟩
    · rw [cut_last1]; exact l9 _ (by rw [List.length_singleton]; omega)
    have f5 := f4.trans (Ext.new (o := .lst (cutV (vs ++ [y]) none (Option.some (-1)) ++ [.ref p3])) x5)
    refine q p5 _ (ps ++ [mk r]) _ f5 upd_same ?_ (okL_append.mpr ⟨o1, ho9 _ o2, trivial⟩) ?_
    · refine PatsAt.cast (congrArg (· ++ [V.ref p3]) cut_last1) ((PatsAt.ext f5 _ _ hvs).append (PatsAt.one (hp9 _ r p3 y ?_ (PatAt.ext f5 _ _ hy))))
      exact ((Ext.new (o := .lst [.ref p3]) x4).trans (Ext.new (o := .lst (cutV (vs ++ [y]) none (Option.some (-1)) ++ [.ref p3])) x5)).tup upd_same
    · rw [sizeL_append, sizeL_one, hs9, hs0]; omega
  · refine ⟨_, rfl, rfl, _, rfl, ?_⟩
    rw [dec_int]
    by_cases a1 : z % 11 = 4
    · rw [show (z % 11 == 4) = true from beq_iff_eq.mpr a1]; exact qT a1 _ (Ext.refl _)
    · rw [show (z % 11 == 4) = false from beq_eq_false_iff_ne.mpr a1]; exact qF a1 _ (Ext.refl _)
  · have f0 := (e1.trans e2).trans e3
    refine ⟨_, rfl, ⟨by show 1 ≤ sizeLine; decide, fun p1 x1 => ⟨by show 1 ≤ sizeLine; decide, fun p2 x2 => ⟨by show 1 ≤ sizeLine; decide, fun p3 x3 => ⟨by show 3 ≤ sizeLine; decide, fun p4 x4 => ?_⟩⟩⟩⟩⟩
    have t1 := Ext.new (o := .tup [V.str "empty"]) x1
    have t2 := Ext.new (o := .tup [V.str "none"]) x2
    have t3 := Ext.new (o := .tup [V.str "empty"]) x3
    have t4 := Ext.new (o := .lst [.ref p1, .ref p2, .ref p3]) x4
    obtain ⟨y, r, hy, hr, hs1, ho1⟩ : ∃ (y : V) (r : Pat), atI [V.ref p1, V.ref p2, V.ref p3] (z / 11 % 3) = Option.some y ∧ PatAt _ r y ∧ r.size = 1 ∧ r.ok L := by
      have : z / 11 % 3 = 0 ∨ z / 11 % 3 = 1 ∨ z / 11 % 3 = 2 := by omega
      rcases this with h | h | h <;> rw [h]
      · exact ⟨.ref p1, .empty, rfl, ⟨p1, rfl, ((t2.trans t3).trans t4).tup upd_same⟩, rfl, trivial⟩
      · exact ⟨.ref p2, .none, rfl, ⟨p2, rfl, (t3.trans t4).tup upd_same⟩, rfl, trivial⟩
      · exact ⟨.ref p3, .empty, rfl, ⟨p3, rfl, t4.tup upd_same⟩, rfl, trivial⟩
    refine ⟨_, rfl, _, _, rfl, rfl, show (0 : Int) < 3 by decide, p4, _, _, y, rfl, rfl, SqL.of upd_same, hy, ?_⟩
    refine ⟨by show 1 ≤ sizeLine; decide, fun p5 x5 => ?_⟩
    have f4 := (((f0.trans t1).trans t2).trans t3).trans t4
    have f5 := f4.trans (Ext.new (o := .lst [y]) x5)
    refine ⟨a, p5, _, _, rfl, rfl, f5.lst ha, upd_same, l9 _ (by rw [List.length_singleton]; omega), fun p6 x6 => ?_⟩
    have t6 := Ext.new (o := .lst (us ++ [y])) x6
    refine q p6 _ (ps ++ [r]) _ (f5.trans t6) upd_same ((PatsAt.ext (f5.trans t6) _ _ hps).append (PatsAt.one (PatAt.ext ((Ext.new (o := .lst [y]) x5).trans t6) _ _ hr))) (okL_append.mpr ⟨hok, ho1, trivial⟩) ?_
    rw [sizeL_append, sizeL_one, hs1]
  · have f0 := (e1.trans e2).trans e3
    obtain ⟨hL1, hL4⟩ := good_len hL
    have hcl : (cds L).length = L.cps.size := Array.length_toList
    have hm : 0 ≤ z / 11 % ((L.length : Nat) : Int) ∧ z / 11 % ((L.length : Nat) : Int) < ((L.length : Nat) : Int) := by
      have h0 : (0 : Int) < ((L.length : Nat) : Int) := by show (0 : Int) < ((L.cps.size : Nat) : Int); omega
      exact ⟨Int.emod_nonneg _ (by omega), Int.emod_lt_of_pos _ h0⟩
    obtain ⟨j, hj⟩ : ∃ j : Nat, z / 11 % ((L.length : Nat) : Int) = (j : Int) := ⟨_, (Int.toNat_of_nonneg hm.1).symm⟩
    have hjl : j < (cds L).length := by
      have := hm.2
      rw [hj] at this
      rw [hcl]
      show j < L.length
      omega
    have hlL : L.length ≤ sizeLine := Nat.le_trans hL4 (by decide)
    refine ⟨_, rfl, _, rfl, _, rfl, _, rfl, .str L, _, rfl, ⟨hlL, rfl⟩, _, _, rfl, rfl, ?_, L, _, (cds L)[j], rfl, rfl, hlL, ?_, ?_⟩
    · show (0 : Int) < ((L.length : Nat) : Int)
      show (0 : Int) < ((L.cps.size : Nat) : Int)
      omega
    · rw [hj]; exact atI_nat (List.getElem?_eq_getElem hjl)
    refine ⟨by show 2 ≤ sizeLine; decide, fun p1 x1 => ⟨by show 1 ≤ sizeLine; decide, fun p2 x2 => ?_⟩⟩
    have t1 := Ext.new (o := .tup [V.str "sign", .str ⟨#[(cds L)[j]]⟩]) x1
    have t2 := Ext.new (o := .lst [.ref p1]) x2
    have f2 := (f0.trans t1).trans t2
    refine ⟨a, p2, _, _, rfl, rfl, f2.lst ha, upd_same, l9 _ (by rw [List.length_singleton]; omega), fun p3 x3 => ?_⟩
    have t3 := Ext.new (o := .lst (us ++ [.ref p1])) x3
    refine q p3 _ (ps ++ [.sign (cds L)[j]]) _ (f2.trans t3) upd_same ((PatsAt.ext (f2.trans t3) _ _ hps).append (PatsAt.one (p := Pat.sign (cds L)[j]) (by exact ⟨p1, rfl, (t2.trans t3).tup upd_same⟩))) (okL_append.mpr ⟨hok, (show Pat.ok L (.sign (cds L)[j]) from List.getElem_mem hjl), trivial⟩) ?_
    rw [sizeL_append, sizeL_one]
    rfl
end
end Bo
set_option Elab.async false
set_option linter.all false
set_option maxRecDepth 100000
set_option maxHeartbeats 4000000
namespace Bo
open PySem PySem.Spec PyProof.Rows L2 GE
def spDr (K : PySem.W.Frag) : Sp := fun vs H Q _ => ∃ (L : Str) (a : Addr) (ns : List Int) (N : Nat), vs = [.str L, .ref a, nV N] ∧ 1 ≤ N ∧ N ≤ 16 ∧ goodS L = true ∧ SqL K H a (ns.map V.int) ∧ ns.length ≤ 100 ∧
  ∀ v p H', Ext H H' → PatAt H' p v → p.ok L → p.size ≤ N → Q v H'
theorem sizes_eq (ps : List Pat) (n : Nat) (hn : n = ps.length) : (List.range n).map (fun i => nV ((ps.map Pat.size).getD i 0)) = ((ps.map Pat.size).map (fun (n : Nat) => (n : Int))).map V.int := by
  subst hn
  rw [List.map_map]
  refine List.ext_getElem? fun i => ?_
  rw [List.getElem?_map, List.getElem?_map]
  by_cases hi : i < ps.length
  · rw [List.getElem?_range hi, List.getElem?_eq_getElem (by simpa using hi)]
    simp [List.getD, hi]
  · rw [List.getElem?_eq_none (by simpa using hi), List.getElem?_eq_none (by simpa using hi)]
    rfl
theorem depL_le {ps : List Pat} {p : Pat} (h : p ∈ ps) : p.dep ≤ sizeL ps := Nat.le_trans (dep_le_size p) (size_mem h)
theorem kindm (L : Str) (n : Nat) : ∃ (k : Str) (mk : List Pat → Pat), atI [V.str "row", V.str "or", V.str "and"] ((n : Int) % 3) = Option.some (.str k) ∧
    (∀ (H : Hp) (ps : List Pat) (a b : Addr) (vs : List V), H a = Option.some (.tup [.str k, .ref b]) → H b = Option.some (.tup vs) → PatsAt H ps vs → PatAt H (mk ps) (.ref a)) ∧
    (∀ ps, 2 ≤ ps.length → okL L ps → (mk ps).ok L) ∧ ∀ ps, (mk ps).size = sizeL ps + 1 := by
  obtain ⟨k, mk, h1, h2⟩ := kind3 L (kd := (n : Int) % 3 + 5) (by omega)
  rw [show (n : Int) % 3 + 5 - 5 = (n : Int) % 3 by omega] at h1
  exact ⟨k, mk, h1, h2⟩
section
variable {P : Program} {w : World} {K : PySem.W.Frag} {mg : Str → Option Value} {base : Heap}
theorem scDr : FnScope ["_law_letters_here", "_law_cells", "_law_most", "_law_stack", "_law_cell", "_law_later", "_law_one"] ["_law_letters_here", "_law_cells", "_law_most"] (defScope sLawDrawn) := ⟨rfl, rfl, rfl, by decide +kernel, rfl, by decide +kernel, by decide +kernel⟩
theorem dr_ok {f g k : Addr} {fd gd kd : FuncData} (F : FnP K "_law_drawn" sLawDrawn f fd) (G : FnOk P w K mg base CX0 1 g gd ["_law_letters_here", "_law_stack", "_law_cell"] spSt) (bG : Binds K gd ["_law_letters_here", "_law_stack", "_law_cell"] []) (kG : PySem.W.keepIn K (.ref g) = true) (mG : mg "_law_step" = some (.ref g))
    (J : FnOk P w K mg base CX0 60 k kd ["_law_pattern"] (spLS 60)) (bJ : Binds K kd ["_law_pattern"] []) (kJ : PySem.W.keepIn K (.ref k) = true) (mJ : mg "_law_size" = some (.ref k)) (ml : mg "len" = none) (ms : mg "sum" = none) (mt : mg "tuple" = none) : FnOk P w K mg base CX0 61 f fd ["_law_letters_here", "_law_cells", "_law_most"] (spDr K) := by
  refine okD F scDr (fun vs H Q E h => ?_) (fun cdv A outer s H vs Q E hr h => ?_)
  · obtain ⟨L, a, ns, N, rfl, _⟩ := h
    rfl
  obtain ⟨L, a, ns, N, rfl, hN1, hN2, hL, hS, hns, q⟩ := h
  refine ⟨_, pss_cons (ps_set (i := 3) scDr.nd rfl (Or.inl rfl) (pe_lst pa_nil))
    (pss_cons (ps_for PassesOwn.never rfl (pi_list (pv 1)) (pg_name (i := 4) scDr.nd rfl (Or.inl rfl))
      (pss_cons (ps_set (i := 5) scDr.nd rfl (Or.inl rfl) (pe_call G (hr.mono (by omega)) rfl mG kG bG .nil pass0 (pa_cons (pv 0) (pa_cons (pv 3) (pa_cons (pv 4) pa_nil)))))
      (pss_one (ps_if (pt_cmpR op_lt (pe_callB (cr_sum rfl) rfl ms boot_sum (pa_cons (pe_lc (own := [("_law_one", 6)]) (g := gName 6) (tt := tYes) rfl scDr.nd (pi_list (pv 5))
        (blkOk_by (N := ["_law_letters_here", "_law_cells", "_law_most", "_law_stack", "_law_cell", "_law_later", "_law_one"]) (sc := defScope sLawDrawn) (by decide +kernel))
        (fun _ _ _ _ _ => pg_name (i := 6) scDr.nd rfl (Or.inl rfl) (Or.inr rfl)) (fun _ _ _ _ _ => pts_nil)
        (fun _ _ _ _ _ => pe_call J hr rfl mJ kJ bJ .nil pass0 (pa_cons (pv 6) pa_nil))) pa_nil)) (pv 2) (nomark _)) (pss_one (ps_set (i := 3) scDr.nd rfl (Or.inl rfl) (pv 5))) pss_nil))))
    (pss_cons (ps_if (pt_cmpR (op_eqNil hr.units) (pv 3) (pe_lst pa_nil) (by rfl)) (pss_one (ps_ret (pe_tup (pa_cons pe_str pa_nil)))) pss_nil)
    (pss_cons (ps_if (pt_cmpR op_eq (pe_callB call_len rfl ml PySem.boot_len (pa_cons (pv 3) pa_nil)) pe_int (nomark _)) (pss_one (ps_ret (pe_ix ix_list (pv 3) pe_int (fun _ _ => rfl)))) pss_nil)
    (pss_one (ps_ret (pe_tup (pa_cons (pe_ix ix_list (pe_lst (pa_cons pe_str (pa_cons pe_str (pa_cons pe_str pa_nil)))) (pe_op op_mod (pe_callB call_len rfl ml PySem.boot_len (pa_cons (pv 1) pa_nil)) pe_int) (fun _ _ => rfl))
      (pa_cons (pe_tupleOf rfl mt (pv 3)) pa_nil)))))))), ?_⟩
  have sq : ∀ H', Ext H H' → SqL K H' a (ns.map V.int) := fun H' e => e.sqL hS
  have l9 : ∀ n : Nat, n ≤ 500 → n ≤ sizeLine := fun n h => Nat.le_trans h (by decide)
  refine t_set ⟨Nat.zero_le _, fun p0 x0 => ?_⟩
  refine t_seq ⟨_, rfl, a, rfl, ⟨_, sq _ (Ext.new x0)⟩, ?_⟩
  refine for_list (K := K) (a := a) (xs := ns.map V.int) (fun i σ' H' => ∃ b ws qs c1 c2, σ' = [Option.some (.str L), Option.some (.ref a), Option.some (nV N), Option.some (.ref b), c1, c2, none] ∧ Ext H H' ∧ H' b = Option.some (.lst ws) ∧ PatsAt H' qs ws ∧ okL L qs ∧ sizeL qs < N) ?_ ?_ ?_ ?_
  · exact ⟨p0, [], [], none, none, rfl, Ext.new x0, upd_same, rfl, trivial, hN1⟩
  · rintro i σ' H' hi ⟨b, ws, qs, c1, c2, rfl, e, _⟩
    exact sq _ e
  · rintro i x σ' H' hx ⟨b, ws, qs, c1, c2, rfl, e, hb, hq, hk, hz⟩
    obtain ⟨z, rfl⟩ : ∃ z : Int, x = .int z := by
      rw [List.getElem?_map] at hx
      cases h9 : ns[i]? with
      | none => rw [h9] at hx; cases hx
      | some z => rw [h9] at hx; exact ⟨z, (Option.some.inj hx).symm⟩
    refine t_set ⟨_, rfl, _, rfl, _, rfl, L, b, ws, qs, z, rfl, hL, hb, hq, hk, by omega, fun b2 ws2 qs2 H2 e2 hb2 hq2 hk2 hz2 => ?_⟩
    have e02 := e.trans e2
    refine ⟨_, rfl, b2, rfl, ⟨_, SqL.of hb2⟩, fun D hD => ?_⟩
    refine lc_list (K := K) (a := b2) (xs := ws2) (Built H2 D fun i => nV ((qs2.map Pat.size).getD i 0)) (Built.zero hD) (fun i H' _ bu => SqL.of (bu.1.lst hb2)) ?_ ?_
    · intro j y H3 hy bu
      refine ⟨rfl, ?_⟩
      obtain ⟨r, hr9, hrx⟩ := hq2.get hy
      have hm := List.mem_of_getElem? hr9
      refine ⟨_, rfl, y, r, rfl, PatAt.ext bu.1 _ _ hrx, Nat.le_trans (depL_le hm) (by omega), Nat.le_trans (size_mem hm) (by omega), fun H4 e4 => ?_⟩
      have hlt : j < qs2.length := (List.getElem?_eq_some_iff.mp hr9).1
      have := len_le_sizeL qs2
      refine bu.next hD e4 ?_ (Nat.lt_of_lt_of_le (show j < 500 by omega) (by decide))
      rw [List.getD_eq_getElem?_getD, List.getElem?_map, hr9]
      rfl
    · intro H3 bu
      have hbu := bu.2
      rw [sizes_eq qs2 _ hq2.len] at hbu
      have e23 := bu.1
      refine ⟨D, _, rfl, SqL.of hbu, _, rfl, _, _, rfl, rfl, _, rfl, ?_⟩
      rw [sum_nV, ← sizeL_sum]
      by_cases hlt : sizeL qs2 < N
      · refine iffT (decide_eq_true (by omega)) ⟨_, rfl, ?_⟩
        exact ⟨b2, ws2, qs2, _, _, rfl, e02.trans e23, e23.lst hb2, PatsAt.ext e23 _ _ hq2, hk2, by omega⟩
      · refine iffF (decide_eq_false (by omega)) ?_
        have e13 := e2.trans e23
        exact ⟨b, ws, qs, _, _, rfl, e02.trans e23, e13.lst hb, PatsAt.ext e13 _ _ hq, hk, hz⟩
  · rintro σ' H' ⟨b, ws, qs, c1, c2, rfl, e, hb, hq, hk, hz⟩
    have hlen := hq.len
    have hle := len_le_sizeL qs
    dsimp only
    refine seq_fall (cond := ws = []) (fun R qT qF => ?_) (fun k1 H1 e1 => ?_) (fun n1 H1 e1 => seq_fall (cond := ws.length = 1) (fun R qT qF => ?_) (fun k1 H2 e2 => ?_) (fun n2 H2 e2 => ?_))
    · refine ⟨_, rfl, Nat.zero_le _, fun p x => ⟨b, p, ws, rfl, rfl, SqL.of ((Ext.new x).lst hb), SqL.of upd_same, _, rfl, ?_⟩⟩
      cases ws with
      | nil => exact qT rfl _ (Ext.new x)
      | cons y ys => exact qF (by simp) _ (Ext.new x)
    · exact ⟨by show 1 ≤ sizeLine; decide, fun p x => q _ .empty _ ((e.trans e1).trans (Ext.new x)) ⟨p, rfl, upd_same⟩ trivial (by show 1 ≤ N; omega)⟩
    · refine ⟨_, rfl, .ref b, _, rfl, .inl ⟨_, SqL.of (e1.lst hb), rfl⟩, rfl, _, rfl, ?_⟩
      rw [dec_int]
      by_cases a1 : ws.length = 1
      · rw [show (((ws.length : Nat) : Int) == 1) = true by rw [a1]; rfl]; exact qT a1 _ (Ext.refl _)
      · rw [show (((ws.length : Nat) : Int) == 1) = false from beq_eq_false_iff_ne.mpr (by omega)]; exact qF a1 _ (Ext.refl _)
    · have e12 := e1.trans e2
      obtain ⟨y, rfl⟩ : ∃ y, ws = [y] := List.length_eq_one_iff.mp k1
      obtain ⟨p, hp9⟩ : ∃ p, qs = [p] := List.length_eq_one_iff.mp (by rw [← hlen]; exact k1)
      subst hp9
      obtain ⟨y', r', e9, hy, _⟩ := hq
      have : y = y' := (List.cons.inj e9).1
      subst this
      refine ⟨_, rfl, b, _, 0, y, rfl, rfl, SqL.of (e12.lst hb), atI_nat (j := 0) rfl, ?_⟩
      exact q _ p _ (e.trans e12) (PatAt.ext e12 _ _ hy) hk.1 (by rw [sizeL_one] at hz; omega)
    · have e12 := e1.trans e2
      have f0 := e.trans e12
      obtain ⟨k, mk, hk9, hp9, ho9, hs9⟩ := kindm L ns.length
      refine ⟨by show 3 ≤ sizeLine; decide, fun p1 x1 => ?_⟩
      have t1 := Ext.new (o := .lst [V.str "row", V.str "or", V.str "and"]) x1
      refine ⟨_, rfl, .ref a, _, rfl, .inl ⟨_, sq _ (f0.trans t1), rfl⟩, _, _, rfl, rfl, show (0 : Int) < 3 by decide, p1, _, _, _, rfl, rfl, SqL.of upd_same, by rw [List.length_map]; exact hk9, ?_⟩
      refine ⟨_, rfl, .inl ⟨b, ws, rfl, SqL.of ((e12.trans t1).lst hb), fun p2 x2 => ⟨by show 2 ≤ sizeLine; decide, fun p3 x3 => ?_⟩⟩⟩
      have t2 := Ext.new (o := .tup ws) x2
      have t3 := Ext.new (o := .tup [V.str k, .ref p2]) x3
      have hw2 : 2 ≤ qs.length := by
        rw [← hlen]
        cases ws with
        | nil => exact absurd rfl n1
        | cons y ys => 
          cases ys with
          | nil => exact absurd rfl n2
          | cons y2 ys => simp
      refine q _ (mk qs) _ ((f0.trans t1).trans (t2.trans t3)) (hp9 _ qs p3 p2 ws upd_same (t3.tup upd_same) (PatsAt.ext ((e12.trans t1).trans (t2.trans t3)) _ _ hq)) (ho9 _ hw2 hk) (by rw [hs9]; omega)
end
end Bo
set_option Elab.async false
set_option linter.all false
set_option maxRecDepth 100000
set_option maxHeartbeats 4000000
namespace Bo
open PySem PySem.Spec PyProof.Rows L2 GE
theorem nd_one (j : Nat) : [j].Nodup := List.nodup_cons.mpr ⟨List.not_mem_nil, List.nodup_nil⟩
/-- a row of unlike places, each at most n -/
theorem nd_len {js : List Nat} {n : Nat} (h : js.Nodup) (b : ∀ j ∈ js, j ≤ n) : js.length ≤ n + 1 := by
  have := nat_nodup_len js (List.range (n + 1)) h (fun x hx => List.mem_range.mpr (by have := b x hx; omega))
  rwa [List.length_range] at this
theorem eqV_int (x y : Int) : eqV (.int x) (.int y) = decide (x = y) := by
  show (x == y) = _
  rw [Bool.eq_iff_iff, beq_iff_eq, decide_eq_true_eq]
theorem inV_nat (x : Nat) (js : List Nat) : inV (nV x) (js.map nV) = decide (x ∈ js) := by
  unfold inV
  induction js with
  | nil => rfl
  | cons j js ih =>
    rw [List.map_cons, List.any_cons, ih, eqV_int, Bool.eq_iff_iff, Bool.or_eq_true, decide_eq_true_eq, decide_eq_true_eq, decide_eq_true_eq, List.mem_cons]
    exact ⟨fun h => h.elim (fun e => .inl (Int.ofNat.inj e).symm) .inr, fun h => h.elim (fun e => .inl (by rw [e])) .inr⟩
/-- the keys of a dict of places -/
def ik (j : Nat) : Key := Sum.inl (j : Int)
theorem ik_inj {a b : Nat} (h : ik a = ik b) : a = b := Int.ofNat.inj (Sum.inl.inj h)
theorem put_keys {kvs : List (Key × V)} {ks : List Nat} (h : kvs.map (·.1) = ks.map ik) (j : Nat) (v : V) : (putK kvs (ik j) v).map (·.1) = (if j ∈ ks then ks else ks ++ [j]).map ik := by
  have e : (kvs.any fun kv => decide (kv.1 = ik j)) = decide (j ∈ ks) := by
    rw [show (kvs.any fun kv => decide (kv.1 = ik j)) = (kvs.map (·.1)).any (fun k => decide (k = ik j)) by rw [List.any_map]; rfl, h, List.any_map]
    rw [Bool.eq_iff_iff, List.any_eq_true, decide_eq_true_eq]
    constructor
    · rintro ⟨x, hx, he⟩
      have he : decide (ik x = ik j) = true := he
      rw [decide_eq_true_eq] at he
      rw [← ik_inj he]; exact hx
    · intro hx
      exact ⟨j, hx, decide_eq_true (rfl : ik j = ik j)⟩
  unfold putK
  rw [e]
  by_cases hj : j ∈ ks
  · rw [if_pos (decide_eq_true hj), if_pos hj, List.map_map, ← h]
    refine List.map_congr_left fun kv _ => ?_
    show (if kv.1 = ik j then (kv.1, v) else kv).1 = kv.1
    split <;> rfl
  · rw [if_neg (by rw [decide_eq_true_eq]; exact hj), if_neg hj, List.map_append, List.map_append, h]
    rfl
theorem put_nd {ks : List Nat} (h : ks.Nodup) (j : Nat) : (if j ∈ ks then ks else ks ++ [j]).Nodup := by
  split
  · exact h
  · rename_i hj
    rw [List.nodup_append]
    exact ⟨h, nd_one j, fun a ha b hb => by rw [List.mem_singleton.mp hb]; exact fun e => hj (e ▸ ha)⟩
theorem put_mem {ks : List Nat} (j x : Nat) : x ∈ (if j ∈ ks then ks else ks ++ [j]) ↔ x ∈ ks ∨ x = j := by
  split
  · rename_i hj
    exact ⟨.inl, fun h => h.elim id (fun e => e ▸ hj)⟩
  · rw [List.mem_append, List.mem_singleton]
/-- a sorted row of the keys -/
theorem sorted_nat {ys : List Int} {ks : List Nat} (h : ys.Perm (ks.map fun (j : Nat) => (j : Int))) : ∃ js : List Nat, ys = js.map (fun (j : Nat) => (j : Int)) ∧ js.Perm ks := by
  refine ⟨ys.map Int.toNat, ?_, ?_⟩
  · rw [List.map_map]
    have : ∀ y ∈ ys, ((fun (j : Nat) => (j : Int)) ∘ Int.toNat) y = y := fun y hy => by
      obtain ⟨k, _, rfl⟩ := List.mem_map.mp (h.mem_iff.mp hy)
      show (((k : Int).toNat : Nat) : Int) = k
      rw [Int.toNat_natCast]
    exact (List.map_congr_left this).trans (List.map_id _) |>.symm
  · have := h.map Int.toNat
    rw [List.map_map] at this
    rwa [show (ks.map (Int.toNat ∘ fun (j : Nat) => (j : Int))) = ks from (List.map_congr_left fun x _ => Int.toNat_natCast x).trans (List.map_id _)] at this
/-- the law's own cutting: the places where a fit from i ends -/
def spLE (K : PySem.W.Frag) (d : Nat) : Sp := fun vs H Q _ => ∃ (v : V) (p : Pat) (z : Str) (i : Nat), vs = [v, .str z, nV i] ∧ PatQ K H p v ∧ p.dep ≤ d ∧ Wd p ∧ (cds z).length ≤ 20 ∧ i ≤ (cds z).length ∧
  ∀ r H' (js : List Nat), H r = Option.none → Ext H H' → H' r = Option.some (.lst (js.map nV)) → js.Nodup → (∀ j, j ∈ js ↔ M (cds z) p i j) → Q (.ref r) H'
def spRE (K : PySem.W.Frag) (d : Nat) : Sp := fun vs H Q _ => ∃ (b : Addr) (us : List V) (ps : List Pat) (z : Str) (i : Nat), vs = [.ref b, .str z, nV i] ∧ H b = Option.some (.tup us) ∧ PatsQ K H ps us ∧ depL ps ≤ d ∧ WdL ps ∧ (cds z).length ≤ 20 ∧ i ≤ (cds z).length ∧
  ∀ r H' (js : List Nat), H r = Option.none → Ext H H' → H' r = Option.some (.lst (js.map nV)) → js.Nodup → (∀ j, j ∈ js ↔ MRow (cds z) ps i j) → Q (.ref r) H'
theorem row_snoc (t : List Nat) : ∀ (ps : List Pat) (p : Pat) (i j : Nat), MRow t (ps ++ [p]) i j ↔ ∃ k, MRow t ps i k ∧ M t p k j
  | [], p, i, j => by
    constructor
    · rintro ⟨k, h, e⟩
      have e : k = j := e
      subst e
      exact ⟨i, rfl, h⟩
    · rintro ⟨k, e, h⟩
      have e : i = k := e
      subst e
      exact ⟨j, h, rfl⟩
  | q :: ps, p, i, j => by
    constructor
    · rintro ⟨k, h, r⟩
      obtain ⟨m, r1, r2⟩ := (row_snoc t ps p k j).mp r
      exact ⟨m, ⟨k, h, r1⟩, r2⟩
    · rintro ⟨m, ⟨k, h, r1⟩, r2⟩
      exact ⟨k, h, (row_snoc t ps p k j).mpr ⟨m, r1, r2⟩⟩
section
variable {P : Program} {w : World} {K : PySem.W.Frag} {mg : Str → Option Value} {base : Heap}
theorem scRE : FnScope ["_law_parts", "_law_text", "_law_at", "_law_here", "_law_part", "_law_found", "_law_place", "_law_end"] ["_law_parts", "_law_text", "_law_at"] (defScope sLawRowEnds) := ⟨rfl, rfl, rfl, by decide +kernel, rfl, by decide +kernel, by decide +kernel⟩
theorem re_ok {f g : Addr} {fd gd : FuncData} {k d : Nat} (F : FnP K "_law_row_ends" sLawRowEnds f fd) (G : FnOk P w K mg base CX0 k g gd ["_law_pattern", "_law_text", "_law_at"] (spLE K d)) (bG : Binds K gd ["_law_pattern", "_law_text", "_law_at"] []) (kG : PySem.W.keepIn K (.ref g) = true) (mG : mg "_law_ends" = Option.some (.ref g)) (ms : mg "sorted" = none) :
    FnOk P w K mg base CX0 (k + 1) f fd ["_law_parts", "_law_text", "_law_at"] (spRE K d) := by
  refine okD F scRE (fun vs H Q E h => ?_) (fun cdv A outer s H vs Q E hr h => ?_)
  · obtain ⟨b, us, ps, z, i, rfl, _⟩ := h
    rfl
  obtain ⟨b, us, ps, z, i, rfl, hb, hps, hd, h5, hz, hi, q⟩ := h
  refine ⟨_, pss_cons (ps_set (i := 3) scRE.nd rfl (Or.inl rfl) (pe_lst (pa_cons (pv 2) pa_nil)))
    (pss_cons (ps_for PassesOwn.never rfl (pi_tup (pv 0)) (pg_name (i := 4) scRE.nd rfl (Or.inl rfl))
      (pss_cons (ps_set (i := 5) scRE.nd rfl (Or.inl rfl) pe_dnewK)
      (pss_cons (ps_for PassesOwn.never rfl (pi_list (pv 3)) (pg_name (i := 6) scRE.nd rfl (Or.inl rfl))
        (pss_one (ps_for PassesOwn.never rfl (pi_list (pe_call G hr rfl mG kG bG .nil pass0 (pa_cons (pv 4) (pa_cons (pv 1) (pa_cons (pv 6) pa_nil))))) (pg_name (i := 7) scRE.nd rfl (Or.inl rfl))
          (pss_one (ps_asg pe_bl (pg_sub (pv 5) (pv 7) (set_dict (Nat.lt_of_le_of_lt (Nat.add_le_add_left (show 1 ≤ 64 by decide) _) hr.units))))))))
      (pss_one (ps_set (i := 3) scRE.nd rfl (Or.inl rfl) (pe_callB (call_sortedDI rfl) rfl ms boot_sorted (pa_cons (pv 5) pa_nil)))))))
    (pss_one (ps_ret (pv 3)))), ?_⟩
  refine t_set ⟨_, rfl, by show 1 ≤ sizeLine; decide, fun l0 x0 => ?_⟩
  refine t_seq ⟨_, rfl, b, rfl, ⟨_, SqT.of ((Ext.new x0).tup hb)⟩, ?_⟩
  refine for_tup (K := K) (a := b) (xs := us) (fun m σ' H' => ∃ (r : Addr) (js : List Nat) (c4 c5 c6 c7 : Option V), σ' = [Option.some (.ref b), Option.some (.str z), Option.some (nV i), Option.some (.ref r), c4, c5, c6, c7] ∧ H r = Option.none ∧ Ext H H' ∧ H' r = Option.some (.lst (js.map nV)) ∧ js.Nodup ∧ ∀ j, j ∈ js ↔ MRow (cds z) (ps.take m) i j) ?_ ?_ ?_ ?_
  · refine ⟨l0, [i], none, none, none, none, rfl, x0, Ext.new x0, upd_same, nd_one i, fun j => ?_⟩
    rw [List.mem_singleton]
    exact ⟨fun e => e.symm, fun (e : i = j) => e.symm⟩
  · rintro m σ' H' hm ⟨r, js, c4, c5, c6, c7, rfl, _, e, _⟩
    exact SqT.of (e.tup hb)
  · rintro m x σ' H1 hx ⟨r, js, c4, c5, c6, c7, rfl, _, e, hr1, hnd, hjs⟩
    obtain ⟨p, hp, hpx⟩ := hps.get hx
    have hdp : p.dep ≤ d := Nat.le_trans (dep_mem (List.mem_of_getElem? hp)) hd
    have hle : ∀ j ∈ js, j ≤ (cds z).length := fun j hj => (MRow_bound (cds z) _ i j hi ((hjs j).mp hj)).2
    refine t_set (fun D xD => ?_)
    have hD : H1 D = none := xD
    refine t_seq ⟨_, rfl, r, rfl, ⟨_, SqL.of ((Ext.new xD).lst hr1)⟩, ?_⟩
    refine for_list (K := K) (a := r) (xs := js.map nV) (fun m2 σ' H' => ∃ (kvs : List (Key × V)) (ks : List Nat) (c6 c7 : Option V), σ' = [Option.some (.ref b), Option.some (.str z), Option.some (nV i), Option.some (.ref r), Option.some x, Option.some (.ref D), c6, c7] ∧ Ext H1 H' ∧ H' D = Option.some (.dK kvs) ∧ kvs.map (·.1) = ks.map ik ∧ ks.Nodup ∧ ∀ j, j ∈ ks ↔ ∃ a ∈ js.take m2, M (cds z) p a j) ?_ ?_ ?_ ?_
    · exact ⟨[], [], c6, c7, rfl, Ext.new xD, upd_same, rfl, List.nodup_nil, fun j => ⟨fun h => (by cases h), fun ⟨a, h, _⟩ => (by simp at h)⟩⟩
    · rintro m2 σ' H' hm2 ⟨kvs, ks, c6, c7, rfl, e2, _⟩
      exact SqL.of (e2.lst hr1)
    · rintro m2 y σ' H2 hy ⟨kvs, ks, c6, c7, rfl, e2, hD2, hkv, hkn, hks⟩
      obtain ⟨a, ha, rfl⟩ : ∃ a, js[m2]? = Option.some a ∧ y = nV a := by
        rw [List.getElem?_map] at hy
        cases h9 : js[m2]? with
        | none => rw [h9] at hy; cases hy
        | some a => rw [h9] at hy; exact ⟨a, rfl, (Option.some.inj hy).symm⟩
      have hle2 := hle a (List.mem_of_getElem? ha)
      have htk : js.take (m2 + 1) = js.take m2 ++ [a] := by rw [List.take_succ, ha]; rfl
      refine ⟨_, rfl, _, rfl, _, rfl, x, p, z, a, rfl, PatQ.ext (e.trans e2) _ _ hpx, hdp, WdL_iff.mp h5 p (List.mem_of_getElem? hp), hz, hle2, fun r2 H3 es n3 e3 hr3 hes hM => ?_⟩
      refine ⟨r2, rfl, ⟨_, SqL.of hr3⟩, ?_⟩
      refine for_list (K := K) (a := r2) (xs := es.map nV) (fun m3 σ' H' => ∃ (kvs : List (Key × V)) (ks : List Nat) (c7 : Option V), σ' = [Option.some (.ref b), Option.some (.str z), Option.some (nV i), Option.some (.ref r), Option.some x, Option.some (.ref D), Option.some (nV a), c7] ∧ Ext H1 H' ∧ H' r2 = Option.some (.lst (es.map nV)) ∧ H' D = Option.some (.dK kvs) ∧ kvs.map (·.1) = ks.map ik ∧ ks.Nodup ∧ ∀ j, j ∈ ks ↔ (∃ a ∈ js.take m2, M (cds z) p a j) ∨ j ∈ es.take m3) ?_ ?_ ?_ ?_
      · exact ⟨kvs, ks, c7, rfl, e2.trans e3, hr3, e3.keep _ _ hD2 (fun _ z => by cases z), hkv, hkn, fun j => by rw [hks j]; simp⟩
      · rintro m3 σ' H' hm3 ⟨kvs, ks, c7, rfl, e4, h4, _⟩
        exact SqL.of h4
      · rintro m3 y σ' H4 hy4 ⟨kvs, ks, c7, rfl, e4, h4, hD4, hkv4, hkn4, hks4⟩
        obtain ⟨c, hc, rfl⟩ : ∃ c, es[m3]? = Option.some c ∧ y = nV c := by
          rw [List.getElem?_map] at hy4
          cases h9 : es[m3]? with
          | none => rw [h9] at hy4; cases hy4
          | some a => rw [h9] at hy4; exact ⟨a, rfl, (Option.some.inj hy4).symm⟩
        have hkle : ∀ j ∈ ks, j ≤ (cds z).length := fun j hj => by
          rcases (hks4 j).mp hj with ⟨a', ha', hm'⟩ | he'
          · exact (M_bound (cds z) p a' j (hle a' (List.mem_of_mem_take ha')) hm').2
          · exact (M_bound (cds z) p a j hle2 ((hM j).mp (List.mem_of_mem_take he'))).2
        have hkl : kvs.length < sizeLine := by
          have h1 := congrArg List.length hkv4
          rw [List.length_map, List.length_map] at h1
          have h2 := nd_len hkn4 hkle
          exact Nat.lt_of_lt_of_le (show kvs.length < 30 by omega) (by decide)
        refine ⟨_, rfl, _, rfl, D, _, rfl, DPut.k (k := ik c) hD4 hkl, ?_⟩
        have ne : r2 ≠ D := ne_of h4 hD4 (fun z => by cases z)
        refine ⟨_, _, _, rfl, e4.wr hD, by rw [upd_ne ne]; exact h4, upd_same, put_keys hkv4 c _, put_nd hkn4 c, fun j => ?_⟩
        rw [put_mem, hks4 j, List.take_succ, hc]
        simp [or_assoc]
      · rintro σ' H4 ⟨kvs, ks, c7, rfl, e4, h4, hD4, hkv4, hkn4, hks4⟩
        refine ⟨kvs, ks, _, _, rfl, e4, hD4, hkv4, hkn4, fun j => ?_⟩
        rw [hks4 j, List.length_map, List.take_length, hM j, htk]
        constructor
        · rintro (⟨a', h1, h2⟩ | h2)
          · exact ⟨a', List.mem_append_left _ h1, h2⟩
          · exact ⟨a, List.mem_append_right _ (List.mem_singleton.mpr rfl), h2⟩
        · rintro ⟨a', h1, h2⟩
          rcases List.mem_append.mp h1 with h1 | h1
          · exact .inl ⟨a', h1, h2⟩
          · rw [List.mem_singleton.mp h1] at h2; exact .inr h2
    · rintro σ' H2 ⟨kvs, ks, c6, c7, rfl, e2, hD2, hkv, hkn, hks⟩
      rw [List.length_map, List.take_length] at hks
      have hkle : ∀ j ∈ ks, j ≤ (cds z).length := fun j hj => by
        obtain ⟨a', ha', hm'⟩ := (hks j).mp hj
        exact (M_bound (cds z) p a' j (hle a' ha') hm').2
      have h2 := nd_len hkn hkle
      refine ⟨_, rfl, D, kvs, ks.map (fun (j : Nat) => (j : Int)), rfl, .inl hD2, ?_, by rw [List.length_map]; omega, fun ys l2 hpm hso x2 => ?_⟩
      · rw [hkv, List.map_map]; rfl
      obtain ⟨js2, rfl, hpj⟩ := sorted_nat hpm
      refine ⟨l2, js2, _, _, _, _, rfl, (e.trans e2).free x2, (e.trans e2).trans (Ext.new x2), by rw [upd_same, List.map_map]; rfl, hpj.nodup_iff.mpr hkn, fun j => ?_⟩
      rw [hpj.mem_iff, hks j, List.take_succ, hp]
      show _ ↔ MRow (cds z) (ps.take m ++ [p]) i j
      rw [row_snoc]
      constructor
      · rintro ⟨a', h1, h2⟩; exact ⟨a', (hjs a').mp h1, h2⟩
      · rintro ⟨a', h1, h2⟩; exact ⟨a', (hjs a').mpr h1, h2⟩
  · rintro σ' H' ⟨r, js, c4, c5, c6, c7, rfl, n0, e, hr, hnd, hjs⟩
    rw [hps.len, List.take_length] at hjs
    dsimp only
    exact ⟨_, rfl, q r H' js n0 e hr hnd hjs⟩
end
end Bo
set_option Elab.async false
set_option linter.all false
set_option maxRecDepth 100000
set_option maxHeartbeats 4000000
namespace Bo
open PySem PySem.Spec PyProof.Rows L2 GE
def spMn (K : PySem.W.Frag) (d : Nat) : Sp := fun vs H Q _ => ∃ (v : V) (p : Pat) (z : Str) (i : Nat), vs = [v, .str z, nV i] ∧ PatQ K H p v ∧ p.dep ≤ d ∧ Wd p ∧ (cds z).length ≤ 20 ∧ i ≤ (cds z).length ∧
  ∀ r H' (js : List Nat), H r = Option.none → Ext H H' → H' r = Option.some (.lst (js.map nV)) → js.Nodup → (∀ j, j ∈ js ↔ Star (fun a b => M (cds z) p a b) i j) → Q (.ref r) H'
theorem star_in {R : Nat → Nat → Prop} {js : List Nat} (h : ∀ a ∈ js, ∀ j, R a j → j ∈ js) {i j : Nat} (s : Star R i j) : i ∈ js → j ∈ js := by
  induction s with
  | refl => exact id
  | step r _ ih => exact fun hi => ih (h _ hi _ r)
section
variable {P : Program} {w : World} {K : PySem.W.Frag} {mg : Str → Option Value} {base : Heap}
theorem scMn : FnScope ["_law_pattern", "_law_text", "_law_at", "_law_found", "_law_turn", "_law_end"] ["_law_pattern", "_law_text", "_law_at"] (defScope sLawManyEnds) := ⟨rfl, rfl, rfl, by decide +kernel, rfl, by decide +kernel, by decide +kernel⟩
theorem mn_ok {f g : Addr} {fd gd : FuncData} {k d : Nat} (F : FnP K "_law_many_ends" sLawManyEnds f fd) (G : FnOk P w K mg base CX0 k g gd ["_law_pattern", "_law_text", "_law_at"] (spLE K d)) (bG : Binds K gd ["_law_pattern", "_law_text", "_law_at"] []) (kG : PySem.W.keepIn K (.ref g) = true) (mG : mg "_law_ends" = Option.some (.ref g)) (ml : mg "len" = none) :
    FnOk P w K mg base CX0 (k + 1) f fd ["_law_pattern", "_law_text", "_law_at"] (spMn K d) := by
  refine okD F scMn (fun vs H Q E h => ?_) (fun cdv A outer s H vs Q E hr h => ?_)
  · obtain ⟨v, p, z, i, rfl, _⟩ := h
    rfl
  obtain ⟨v, p, z, i, rfl, hp, hd, h5, hz, hi, q⟩ := h
  refine ⟨_, pss_cons (ps_set (i := 3) scMn.nd rfl (Or.inl rfl) (pe_lst (pa_cons (pv 2) pa_nil)))
    (pss_cons (ps_set (i := 4) scMn.nd rfl (Or.inl rfl) pe_int)
    (pss_cons (ps_while PassesOwn.never (pt_cmpR op_lt (pv 4) (pe_callB call_len rfl ml PySem.boot_len (pa_cons (pv 3) pa_nil)) (nomark _))
      (pss_cons (ps_for PassesOwn.never rfl (pi_list (pe_call G hr rfl mG kG bG .nil pass0 (pa_cons (pv 0) (pa_cons (pv 1) (pa_cons (pe_ix ix_list (pv 3) (pv 4) (fun _ _ => rfl)) pa_nil))))) (pg_name (i := 5) scMn.nd rfl (Or.inl rfl))
        (pss_one (ps_if (pt_cmpR op_notIn_seq (pv 5) (pv 3) (by rfl)) (pss_one (ps_expr (pe_bm PySem.F.plainAttrs_list PySem.F.slot_list_append PySem.F.type_list_append mt_append (pv 3) (pa_cons (pv 5) pa_nil)))) pss_nil)))
      (pss_one (ps_set (i := 4) scMn.nd rfl (Or.inl rfl) (pe_op op_add (pv 4) pe_int)))))
    (pss_one (ps_ret (pv 3))))), ?_⟩
  refine t_set ⟨_, rfl, by show 1 ≤ sizeLine; decide, fun l x0 => ?_⟩
  have hl0 : H l = none := x0
  refine t_setC (t_seq ?_)
  refine ⟨fun m σ H' => ∃ (js : List Nat) (t : Nat) (c5 : Option V), σ = [Option.some v, Option.some (.str z), Option.some (nV i), Option.some (.ref l), Option.some (nV t), c5] ∧ Ext H H' ∧ H' l = Option.some (.lst (js.map nV)) ∧ js.Nodup ∧ i ∈ js ∧
    (∀ j ∈ js, Star (fun a b => M (cds z) p a b) i j) ∧ (∀ a ∈ js.take t, ∀ j, M (cds z) p a j → j ∈ js) ∧ t ≤ js.length ∧ m + t = 30, ⟨30, [i], 0, none, rfl, Ext.new x0, upd_same, nd_one i, List.mem_singleton.mpr rfl, fun j hj => by rw [List.mem_singleton.mp hj]; exact .refl i, fun a ha => by simp at ha, Nat.zero_le _, rfl⟩, ?_⟩
  rintro m σ H1 ⟨js, t, c5, rfl, e, hl, hnd, hi9, hst, hcl, ht, hm⟩
  have hle : ∀ j ∈ js, j ≤ (cds z).length := fun j hj => (star_bound (fun a b ha hab => M_bound (cds z) p a b ha hab) (hst j hj) hi).2
  refine ⟨_, rfl, _, rfl, .ref l, _, rfl, .inl ⟨_, SqL.of hl, rfl⟩, _, _, rfl, rfl, _, rfl, ?_⟩
  rw [List.length_map]
  by_cases hlt : t < js.length
  · have hjl := nd_len hnd hle
    refine iffT (decide_eq_true (by omega)) ⟨fun σ' H2 => ∃ m' < m, ∃ (js : List Nat) (t : Nat) (c5 : Option V), σ' = [Option.some v, Option.some (.str z), Option.some (nV i), Option.some (.ref l), Option.some (nV t), c5] ∧ Ext H H2 ∧ H2 l = Option.some (.lst (js.map nV)) ∧ js.Nodup ∧ i ∈ js ∧
      (∀ j ∈ js, Star (fun a b => M (cds z) p a b) i j) ∧ (∀ a ∈ js.take t, ∀ j, M (cds z) p a j → j ∈ js) ∧ t ≤ js.length ∧ m' + t = 30, fun σ' H2 ⟨m', h1, h2⟩ => ⟨m', h1, h2⟩, ?_⟩
    obtain ⟨a, ha⟩ : ∃ a, js[t]? = Option.some a := ⟨_, List.getElem?_eq_getElem hlt⟩
    have ham := List.mem_of_getElem? ha
    refine t_seq ⟨_, rfl, _, rfl, _, rfl, _, rfl, l, _, _, _, rfl, rfl, SqL.of hl, atI_nat (v := nV a) (by rw [List.getElem?_map, ha]; rfl), v, p, z, a, rfl, PatQ.ext e _ _ hp, hd, h5, hz, hle a ham, fun r2 H3 es n3 e3 hr3 hes hM => ?_⟩
    refine ⟨r2, rfl, ⟨_, SqL.of hr3⟩, ?_⟩
    have hl3 := e3.lst hl
    refine for_list (K := K) (a := r2) (xs := es.map nV) (fun m3 σ' H' => ∃ (ks : List Nat) (c5 : Option V), σ' = [Option.some v, Option.some (.str z), Option.some (nV i), Option.some (.ref l), Option.some (nV t), c5] ∧ Ext H H' ∧ H' r2 = Option.some (.lst (es.map nV)) ∧ H' l = Option.some (.lst (ks.map nV)) ∧ ks.Nodup ∧ (∀ j, j ∈ ks ↔ j ∈ js ∨ j ∈ es.take m3) ∧ ∃ more, ks = js ++ more) ?_ ?_ ?_ ?_
    · exact ⟨js, c5, rfl, e.trans e3, hr3, hl3, hnd, fun j => by simp, [], by simp⟩
    · rintro m3 σ' H' hm3 ⟨ks, c5, rfl, e4, h4, _⟩
      exact SqL.of h4
    · rintro m3 y σ' H4 hy4 ⟨ks, c5, rfl, e4, h4, hl4, hkn, hks, more, hmore⟩
      obtain ⟨c, hc, rfl⟩ : ∃ c, es[m3]? = Option.some c ∧ y = nV c := by
        rw [List.getElem?_map] at hy4
        cases h9 : es[m3]? with
        | none => rw [h9] at hy4; cases hy4
        | some a => rw [h9] at hy4; exact ⟨a, rfl, (Option.some.inj hy4).symm⟩
      have htk : es.take (m3 + 1) = es.take m3 ++ [c] := by rw [List.take_succ, hc]; rfl
      have hkle : ∀ j ∈ ks, j ≤ (cds z).length := fun j hj => by
        rcases (hks j).mp hj with h1 | h1
        · exact hle j h1
        · exact (M_bound (cds z) p a j (hle a ham) ((hM j).mp (List.mem_of_mem_take h1))).2
      have hkl := nd_len hkn hkle
      refine ⟨_, rfl, _, rfl, l, _, rfl, .inl (SqL.of hl4), rfl, ?_, _, rfl, ?_⟩
      · rw [List.all_map, List.all_eq_true]; intro x _; rfl
      show if (!inV (nV c) (ks.map nV)) = true then _ else _
      rw [inV_nat]
      by_cases hm9 : c ∈ ks
      · refine iffF (by rw [decide_eq_true hm9]; rfl) ?_
        refine ⟨ks, _, rfl, e4, h4, hl4, hkn, fun j => ?_, more, hmore⟩
        rw [hks j, htk, List.mem_append, List.mem_singleton]
        constructor
        · exact fun h => h.elim .inl (fun h => .inr (.inl h))
        · rintro (h | h | rfl)
          · exact .inl h
          · exact .inr h
          · exact (hks j).mp hm9
      · refine iffT (by rw [decide_eq_false hm9]; rfl) ?_
        have ne : r2 ≠ l := fun h => by
          have h1 := e.there l
          rw [h] at n3
          rw [n3] at hl
          cases hl
        refine ⟨_, rfl, .inl ⟨rfl, _, SqL.of hl4⟩, _, rfl, l, _, nV c, rfl, rfl, hl4, ?_, ?_⟩
        · rw [List.length_map]; exact Nat.lt_of_lt_of_le (show ks.length < 30 by omega) (by decide)
        refine ⟨ks ++ [c], _, rfl, e4.wr hl0, by rw [upd_ne ne]; exact h4, by rw [upd_same, List.map_append]; rfl, ?_, fun j => ?_, more ++ [c], by rw [hmore, List.append_assoc]⟩
        · rw [List.nodup_append]
          exact ⟨hkn, nd_one c, fun a ha b hb => by rw [List.mem_singleton.mp hb]; exact fun e => hm9 (e ▸ ha)⟩
        · rw [List.mem_append, List.mem_singleton, hks j, htk, List.mem_append, List.mem_singleton, or_assoc]
    · rintro σ' H4 ⟨ks, c5, rfl, e4, h4, hl4, hkn, hks, more, hmore⟩
      rw [List.length_map, List.take_length] at hks
      refine ⟨_, rfl, _, _, rfl, rfl, ?_⟩
      refine ⟨m - 1, by omega, ks, t + 1, _, rfl, e4, hl4, hkn, (hks i).mpr (.inl hi9), fun j hj => ?_, fun a' ha' j hm' => ?_, ?_, by omega⟩
      · rcases (hks j).mp hj with h1 | h1
        · exact hst j h1
        · exact (hst a ham).snoc ((hM j).mp h1)
      · rw [hmore, List.take_append_of_le_length (by omega), List.take_succ, ha] at ha'
        rcases List.mem_append.mp ha' with h1 | h1
        · exact (hks j).mpr (.inl (hcl a' h1 j hm'))
        · have : a' = a := by simpa using h1
          rw [this] at hm'
          exact (hks j).mpr (.inr ((hM j).mpr hm'))
      · rw [hmore, List.length_append]; omega
  · refine iffF (decide_eq_false (by omega)) ⟨_, rfl, q l H1 js hl0 e hl hnd fun j => ⟨hst j, fun s => star_in (fun a ha => hcl a (by rw [List.take_of_length_le (by omega)]; exact ha)) s hi9⟩⟩
end
end Bo
set_option Elab.async false
set_option linter.all false
set_option maxRecDepth 100000
set_option maxHeartbeats 4000000
namespace Bo
open PySem PySem.Spec PyProof.Rows L2 GE
theorem cut_sign (z : Str) (i c : Nat) : decide (V.str (cutS z (Option.some (i : Int)) (Option.some ((i : Int) + 1))) = V.str ⟨#[c]⟩) = decide ((cds z)[i]? = Option.some c) := by
  have hn : (cds z).length = z.length := Array.length_toList
  have e1 : HT.sIx z.length 0 (Option.some (i : Int)) = min i z.length := HT.sIx_nat _ _ _
  have e2 : HT.sIx z.length z.length (Option.some ((i : Int) + 1)) = min (i + 1) z.length := by
    rw [show ((i : Int) + 1) = ((i + 1 : Nat) : Int) by omega]; exact HT.sIx_nat _ _ _
  rw [Bool.eq_iff_iff, decide_eq_true_eq, decide_eq_true_eq]
  unfold cutS
  rw [e1, e2]
  show V.str ⟨(((cds z).drop _).take _).toArray⟩ = _ ↔ _
  by_cases hi : i < z.length
  · rw [Nat.min_eq_left (by omega), Nat.min_eq_left (by omega), Nat.add_sub_cancel_left, List.drop_eq_getElem_cons (by omega), List.getElem?_eq_getElem (by omega)]
    show V.str ⟨[(cds z)[i]].toArray⟩ = V.str ⟨#[c]⟩ ↔ _
    constructor
    · intro h
      have h := Str.mk.inj (V.str.inj h)
      have h := congrArg Array.toList h
      exact congrArg Option.some (List.cons.inj h).1
    · intro h; exact congrArg (fun c => V.str ⟨#[c]⟩) (Option.some.inj h)
  · rw [Nat.min_eq_right (by omega), Nat.min_eq_right (by omega), Nat.sub_self, List.getElem?_eq_none (by omega)]
    constructor
    · intro h
      have h := Str.mk.inj (V.str.inj h)
      have h := congrArg Array.size h
      simp at h
    · intro h; cases h
theorem MOr_iff (t : List Nat) : ∀ (ps : List Pat) (i j : Nat), MOr t ps i j ↔ ∃ p ∈ ps, M t p i j
  | [], i, j => by simp [MOr]
  | p :: ps, i, j => by
    show M t p i j ∨ MOr t ps i j ↔ _
    rw [MOr_iff t ps i j]; simp
theorem MAnd_iff (t : List Nat) : ∀ (ps : List Pat) (i j : Nat), MAnd t ps i j ↔ ∀ p ∈ ps, M t p i j
  | [], i, j => by simp [MAnd]
  | p :: ps, i, j => by
    show M t p i j ∧ MAnd t ps i j ↔ _
    rw [MAnd_iff t ps i j]; simp
/-- rows of places, one for each part -/
structure RowsAt (t : List Nat) (i : Nat) (ps : List Pat) (rows : List (Addr × List Nat)) (H : Hp) : Prop where
  len : rows.length = ps.length
  at_ : ∀ x ∈ rows, H x.1 = Option.some (.lst (x.2.map nV))
  val : ∀ (k : Nat) (x : Addr × List Nat) (p : Pat), rows[k]? = Option.some x → ps[k]? = Option.some p → ∀ j, j ∈ x.2 ↔ M t p i j
def cnt (rows : List (Addr × List Nat)) (e : Nat) : Nat := (rows.filter fun x => decide (e ∈ x.2)).length
theorem cnt_or {t : List Nat} {i : Nat} {ps : List Pat} {rows : List (Addr × List Nat)} {H : Hp} (h : RowsAt t i ps rows H) (e : Nat) : 1 ≤ cnt rows e ↔ MOr t ps i e := by
  rw [MOr_iff]
  unfold cnt
  constructor
  · intro h1
    obtain ⟨x, hx⟩ := List.exists_mem_of_length_pos h1
    obtain ⟨hx1, hx2⟩ := List.mem_filter.mp hx
    rw [decide_eq_true_eq] at hx2
    obtain ⟨k, hk⟩ := List.mem_iff_getElem?.mp hx1
    have hkl : k < ps.length := by rw [← h.len]; exact (List.getElem?_eq_some_iff.mp hk).1
    exact ⟨ps[k], List.getElem_mem hkl, (h.val k x _ hk (List.getElem?_eq_getElem hkl) e).mp hx2⟩
  · rintro ⟨p, hp, hm⟩
    obtain ⟨k, hk⟩ := List.mem_iff_getElem?.mp hp
    have hkl : k < rows.length := by rw [h.len]; exact (List.getElem?_eq_some_iff.mp hk).1
    exact List.length_pos_of_mem (List.mem_filter.mpr ⟨List.getElem_mem hkl, decide_eq_true ((h.val k _ p (List.getElem?_eq_getElem hkl) hk e).mpr hm)⟩)
theorem cnt_and {t : List Nat} {i : Nat} {ps : List Pat} {rows : List (Addr × List Nat)} {H : Hp} (h : RowsAt t i ps rows H) (e : Nat) : rows.length ≤ cnt rows e ↔ MAnd t ps i e := by
  rw [MAnd_iff]
  have hle : cnt rows e ≤ rows.length := List.length_filter_le _ _
  have key : rows.length ≤ cnt rows e ↔ ∀ x ∈ rows, e ∈ x.2 := by
    constructor
    · intro h1
      have h2 : (rows.filter fun x => decide (e ∈ x.2)).length = rows.length := Nat.le_antisymm hle h1
      intro x hx
      have := List.length_filter_eq_length_iff.mp h2 x hx
      exact of_decide_eq_true this
    · intro h1
      exact Nat.le_of_eq (List.length_filter_eq_length_iff.mpr fun x hx => decide_eq_true (h1 x hx)).symm
  rw [key]
  constructor
  · intro h1 p hp
    obtain ⟨k, hk⟩ := List.mem_iff_getElem?.mp hp
    have hkl : k < rows.length := by rw [h.len]; exact (List.getElem?_eq_some_iff.mp hk).1
    exact (h.val k _ p (List.getElem?_eq_getElem hkl) hk e).mp (h1 _ (List.getElem_mem hkl))
  · intro h1 x hx
    obtain ⟨k, hk⟩ := List.mem_iff_getElem?.mp hx
    have hkl : k < ps.length := by rw [← h.len]; exact (List.getElem?_eq_some_iff.mp hk).1
    exact (h.val k x _ hk (List.getElem?_eq_getElem hkl) e).mpr (h1 _ (List.getElem_mem hkl))
/-- the places from i on that a test lets through -/
def sel (i : Nat) (f : Nat → Bool) (m : Nat) : List Nat := ((List.range m).filter fun t => f (i + t)).map (i + ·)
theorem sel_succ (i : Nat) (f : Nat → Bool) (m : Nat) : sel i f (m + 1) = if f (i + m) = true then sel i f m ++ [i + m] else sel i f m := by
  unfold sel
  rw [List.range_succ, List.filter_append, List.map_append]
  by_cases h : f (i + m) = true
  · rw [if_pos h]; simp [List.filter, h]
  · rw [if_neg h]; simp [List.filter, h]
theorem sel_nd (i : Nat) (f : Nat → Bool) (m : Nat) : (sel i f m).Nodup := by
  unfold sel
  have h : ((List.range m).filter fun t => f (i + t)).Nodup := List.Pairwise.filter _ List.nodup_range
  exact List.pairwise_map.mpr (List.Pairwise.imp (fun h e => h (Nat.add_left_cancel e)) h)
theorem sel_mem (i : Nat) (f : Nat → Bool) (m j : Nat) : j ∈ sel i f m ↔ i ≤ j ∧ j < i + m ∧ f j = true := by
  unfold sel
  rw [List.mem_map]
  constructor
  · rintro ⟨t, ht, rfl⟩
    obtain ⟨h1, h2⟩ := List.mem_filter.mp ht
    exact ⟨by omega, by have := List.mem_range.mp h1; omega, h2⟩
  · rintro ⟨h1, h2, h3⟩
    refine ⟨j - i, List.mem_filter.mpr ⟨List.mem_range.mpr (by omega), ?_⟩, by omega⟩
    rw [show i + (j - i) = j by omega]; exact h3
theorem sel_len (i : Nat) (f : Nat → Bool) (m : Nat) : (sel i f m).length ≤ m := by
  unfold sel
  rw [List.length_map]
  exact Nat.le_trans (List.length_filter_le _ _) (by rw [List.length_range]; exact Nat.le_refl _)
/-- the list holds the places that the test has let through so far -/
def Sel (H1 : Hp) (D : Addr) (i : Nat) (f : Nat → Bool) (t : Nat) (H : Hp) : Prop := Ext H1 H ∧ H D = Option.some (.lst ((sel i f t).map nV))
theorem sel_step {H1 H3 : Hp} {D : Addr} {i t : Nat} {f : Nat → Bool} {b : Bool} {σ2 : L2.St} (hD : H1 D = none) (s : Sel H1 D i f t H3) (hb : b = f (i + t)) (ht : t < 100) (h5 : σ2[5]? = Option.some (Option.some (nV (i + t)))) :
    if b = true then tVar 5 σ2 H3 fun y H4 => ∃ acc, H4 D = Option.some (.lst acc) ∧ acc.length < sizeLine ∧ Sel H1 D i f (t + 1) (upd H4 D (.lst (acc ++ [y]))) else Sel H1 D i f (t + 1) H3 := by
  subst hb
  by_cases h : f (i + t) = true
  · refine iffT h ⟨_, h5, _, s.2, ?_, s.1.wr hD, ?_⟩
    · rw [List.length_map]
      exact Nat.lt_of_lt_of_le (Nat.lt_of_le_of_lt (sel_len i f t) ht) (by decide)
    · rw [upd_same, sel_succ, if_pos h, List.map_append]; rfl
  · refine iffF (by simpa using h) ⟨s.1, ?_⟩
    rw [sel_succ, if_neg h]; exact s.2
def tRows (K : PySem.W.Frag) : TT := tTest (tOp (rI0 fun i j => .bl (decide (j ≤ i))) (tCB (fun xs H Q => ∃ x n, xs = [x] ∧ LenV K x H n ∧ Q (.int n) H) (tCons (tLc (iList K (tVar 3)) (gName 7) (tTest (tOp (rIn K false) (tVar 5) (tVar 7))) (tVar 7) [7]) tNil)) (tVar 4))
section
variable {P : Program} {w : World} {K : PySem.W.Frag} {mg : Str → Option Value} {base : Heap}
theorem scLE : FnScope ["_law_pattern", "_law_text", "_law_at", "_law_inner", "_law_wanted", "_law_end", "_law_part", "_law_row"] ["_law_pattern", "_law_text", "_law_at"] (defScope sLawEnds) := ⟨rfl, rfl, rfl, by decide +kernel, rfl, by decide +kernel, by decide +kernel⟩
theorem le_none {f : Addr} {fd : FuncData} {k : Nat} : FnOk P w K mg base CX0 k f fd ["_law_pattern", "_law_text", "_law_at"] (spLE K 0) := by
  have no : ∀ vs H Q E, ¬ spLE K 0 vs H Q E := fun vs H Q E h => by
    obtain ⟨v, p, z, i, _, _, hd, _⟩ := h
    have := dep_pos p
    omega
  exact ⟨fun vs H Q E h => absurd h (no vs H Q E), fun A outer s H args us vs Q E _ _ _ _ h => absurd h (no vs H Q E)⟩
theorem le_step {f g1 g2 : Addr} {fd d1 d2 : FuncData} {k d : Nat} (F : FnP K "_law_ends" sLawEnds f fd) (b : Binds K fd ["_law_pattern", "_law_text", "_law_at"] []) (mF : mg "_law_ends" = Option.some (.ref f)) (G : FnOk P w K mg base CX0 k f fd ["_law_pattern", "_law_text", "_law_at"] (spLE K d))
    (G1 : FnOk P w K mg base CX0 (k + 1) g1 d1 ["_law_parts", "_law_text", "_law_at"] (spRE K d)) (b1 : Binds K d1 ["_law_parts", "_law_text", "_law_at"] []) (k1 : PySem.W.keepIn K (.ref g1) = true) (m1 : mg "_law_row_ends" = Option.some (.ref g1))
    (G2 : FnOk P w K mg base CX0 (k + 1) g2 d2 ["_law_pattern", "_law_text", "_law_at"] (spMn K d)) (b2 : Binds K d2 ["_law_pattern", "_law_text", "_law_at"] []) (k2 : PySem.W.keepIn K (.ref g2) = true) (m2 : mg "_law_many_ends" = Option.some (.ref g2))
    (ml : mg "len" = none) (mi : mg "int" = none) (mr : mg "range" = none) :
    FnOk P w K mg base CX0 (k + 1 + 1) f fd ["_law_pattern", "_law_text", "_law_at"] (spLE K (d + 1)) := by
  refine okD F scLE (fun vs H Q E h => ?_) (fun cdv A outer s H vs Q E hr h => ?_)
  · obtain ⟨v, p, z, i, rfl, _⟩ := h
    rfl
  obtain ⟨v, p, z, i, rfl, hp, hd, h5, hz, hi, q⟩ := h
  have hr0 : Room k _ := hr.mono (by omega)
  refine ⟨_, pss_cons (ps_if (pt_cmpR op_eq (pe_ix ix_tup (pv 0) pe_int (fun _ _ => rfl)) pe_str (nomark _)) (pss_one (ps_ret (pe_lst (pa_cons (pv 2) pa_nil)))) pss_nil)
    (pss_cons (ps_if (pt_cmpR op_eq (pe_ix ix_tup (pv 0) pe_int (fun _ _ => rfl)) pe_str (nomark _))
      (pss_one (ps_ret (pe_op op_rep (pe_lst (pa_cons (pe_op op_add (pv 2) pe_int) pa_nil)) (pe_callTy call_int1 rfl mi boot_int (pa_cons (pe_cmpR op_eq (pe_slice sl_str (pv 1) (po_some (pv 2)) (po_some (pe_op op_add (pv 2) pe_int))) (pe_ix ix_tup (pv 0) pe_int (fun _ _ => rfl)) (nomark _)) pa_nil))))) pss_nil)
    (pss_cons (ps_if (pt_cmpR op_eq (pe_ix ix_tup (pv 0) pe_int (fun _ _ => rfl)) pe_str (nomark _))
      (pss_one (ps_ret (pe_call G1 hr rfl m1 k1 b1 .nil pass0 (pa_cons (pe_ix ix_tup (pv 0) pe_int (fun _ _ => rfl)) (pa_cons (pv 1) (pa_cons (pv 2) pa_nil)))))) pss_nil)
    (pss_cons (ps_if (pt_cmpR op_eq (pe_ix ix_tup (pv 0) pe_int (fun _ _ => rfl)) pe_str (nomark _))
      (pss_one (ps_ret (pe_call G2 hr rfl m2 k2 b2 .nil pass0 (pa_cons (pe_ix ix_tup (pv 0) pe_int (fun _ _ => rfl)) (pa_cons (pv 1) (pa_cons (pv 2) pa_nil)))))) pss_nil)
    (pss_cons (ps_if (pt_cmpR op_eq (pe_ix ix_tup (pv 0) pe_int (fun _ _ => rfl)) pe_str (nomark _)) (pss_one (ps_ret (pe_lst pa_nil))) pss_nil)
    (pss_cons (ps_if (pt_cmpR op_eq (pe_ix ix_tup (pv 0) pe_int (fun _ _ => rfl)) pe_str (nomark _))
      (pss_cons (ps_set (i := 3) scLE.nd rfl (Or.inr rfl) (pe_lst (pa_cons (pe_call G hr0 rfl mF F.kp b .nil pass0 (pa_cons (pe_ix ix_tup (pv 0) pe_int (fun _ _ => rfl)) (pa_cons (pv 1) (pa_cons (pv 2) pa_nil)))) pa_nil)))
      (pss_one (ps_ret (pe_lc (own := [("_law_end", 5)]) (g := gName 5) (tt := tTest (tOp (rIn K true) (tVar 5) (tOp (rIxL K) (tVar 3) (tC (.int 0))))) (te := tVar 5) rfl scLE.nd (pi_range2 rfl mr (pa_cons (pv 2) (pa_cons (pe_op op_add (pe_callB call_len rfl ml PySem.boot_len (pa_cons (pv 1) pa_nil)) pe_int) pa_nil)))
        (blkOk_by (N := ["_law_pattern", "_law_text", "_law_at", "_law_inner", "_law_wanted", "_law_end", "_law_part", "_law_row"]) (sc := defScope sLawEnds) (by decide +kernel))
        (fun _ _ _ _ _ => pg_name (i := 5) scLE.nd rfl (Or.inl rfl) (Or.inr rfl)) (fun _ _ _ _ _ => pts_one (pt_cmpR op_notIn_seq (pv 5) (pe_ix ix_list (pv 3) pe_int (fun _ _ => rfl)) (by rfl)))
        (fun _ _ _ _ _ => pv 5))))) pss_nil)
    (pss_cons (ps_set (i := 3) scLE.nd rfl (Or.inr rfl) (pe_lc (own := [("_law_part", 6)]) (g := gName 6) (tt := tYes) rfl scLE.nd (pi_tup (pe_ix ix_tup (pv 0) pe_int (fun _ _ => rfl)))
        (blkOk_by (N := ["_law_pattern", "_law_text", "_law_at", "_law_inner", "_law_wanted", "_law_end", "_law_part", "_law_row"]) (sc := defScope sLawEnds) (by decide +kernel))
        (fun _ _ _ _ _ => pg_name (i := 6) scLE.nd rfl (Or.inl rfl) (Or.inr rfl)) (fun _ _ _ _ _ => pts_nil)
        (fun _ _ _ _ _ => pe_call G hr0 rfl mF F.kp b .nil pass0 (pa_cons (pv 6) (pa_cons (pv 1) (pa_cons (pv 2) pa_nil))))))
    (pss_cons (ps_set (i := 4) scLE.nd rfl (Or.inr rfl) (pe_ix ix_list (pe_lst (pa_cons pe_int (pa_cons (pe_callB call_len rfl ml PySem.boot_len (pa_cons (pv 3) pa_nil)) pa_nil))) (pe_callTy call_int1 rfl mi boot_int (pa_cons (pe_cmpR op_eq (pe_ix ix_tup (pv 0) pe_int (fun _ _ => rfl)) pe_str (nomark _)) pa_nil)) (fun _ _ => rfl)))
    (pss_one (ps_ret (pe_lc (own := [("_law_end", 5)]) (g := gName 5) (tt := tRows K) (te := tVar 5) rfl scLE.nd (pi_range2 rfl mr (pa_cons (pv 2) (pa_cons (pe_op op_add (pe_callB call_len rfl ml PySem.boot_len (pa_cons (pv 1) pa_nil)) pe_int) pa_nil)))
        (blkOk_by (N := ["_law_pattern", "_law_text", "_law_at", "_law_inner", "_law_wanted", "_law_end", "_law_part", "_law_row"]) (sc := defScope sLawEnds) (by decide +kernel))
        (fun _ _ _ _ _ => pg_name (i := 5) scLE.nd rfl (Or.inr rfl) (Or.inl rfl))
        (fun _ _ _ _ _ => pts_one (pt_cmpR op_ge (pe_callB call_len rfl ml PySem.boot_len (pa_cons (pe_lc (own := [("_law_row", 7)]) (wi := iList K (tVar 3)) (g := gName 7) (tt := tTest (tOp (rIn K false) (tVar 5) (tVar 7))) (te := tVar 7) rfl scLE.nd (pi_list (pv 3))
          (blkOk_by (N := ["_law_pattern", "_law_text", "_law_at", "_law_inner", "_law_wanted", "_law_end", "_law_part", "_law_row"]) (by rfl))
          (fun _ _ _ _ _ => pg_name (i := 7) scLE.nd rfl (Or.inl rfl) (Or.inr rfl)) (fun _ _ _ _ _ => pts_one (pt_cmpR op_in_seq (pv 5) (pv 7) (by rfl))) (fun _ _ _ _ _ => pv 7)) pa_nil)) (pv 4) (nomark _)))
        (fun _ _ _ _ _ => pv 5))))))))))), ?_⟩
  have hzn : z.length = (cds z).length := by show z.cps.size = _; exact Array.length_toList.symm
  have hzl : z.length ≤ sizeLine := by rw [hzn]; exact Nat.le_trans hz (by decide)
  -- a choice among the places from i on
  have fin : ∀ (f : Nat → Bool) (H1 : Hp) (D : Addr) (H2 : Hp), H D = none → Ext H H1 → Sel H1 D i f (((z.length : Nat) : Int) + 1 - (i : Int)).toNat H2 → (∀ j, M (cds z) p i j ↔ i ≤ j ∧ j ≤ (cds z).length ∧ f j = true) → Q (.ref D) H2 := by
    intro f H1 D H2 hD e s hM
    refine q D H2 _ hD (e.trans s.1) s.2 (sel_nd _ _ _) fun j => ?_
    rw [sel_mem, hM j, hzn]
    constructor
    · rintro ⟨h1, h2, h3⟩; exact ⟨h1, by omega, h3⟩
    · rintro ⟨h1, h2, h3⟩; exact ⟨h1, by omega, h3⟩
  have tail : ∀ (kd : Str) (a b' : Addr) (us : List V) (ps : List Pat) (wa : Bool), SqT K H a [.str kd, .ref b'] → H b' = Option.some (.tup us) → PatsQ K H ps us → decide (V.str kd = V.str "and") = wa → depL ps ≤ d → ps.length ≤ 1048576 → WdL ps →
      (∀ rows H9, RowsAt (cds z) i ps rows H9 → ∀ e, i ≤ e ∧ e ≤ (cds z).length → ((if wa = true then rows.length else 1) ≤ cnt rows e ↔ M (cds z) p i e)) →
      tSeq (tAsg (tLc (iTup K (tOp (rIxT K) (tVar 0) (tC (.int 1)))) (gName 6) tYes (tCall (spLE K d) [] E0 (tCons (tVar 6) (tCons (tVar 1) (tCons (tVar 2) tNil)))) [6]) (gName 3))
        (tSeq (tAsg (tOp (rIxL K) (tLst (tCons (tC (.int 1)) (tCons (tCB (fun xs H Q => ∃ x n, xs = [x] ∧ LenV K x H n ∧ Q (.int n) H) (tCons (tVar 3) tNil)) tNil)))
          (tCB (fun xs H Q => (∃ i, xs = [.int i] ∧ Q (.int i) H) ∨ ∃ k, xs = [.bl k] ∧ Q (.int (if k then 1 else 0)) H) (tCons (tOp rEq (tOp (rIxT K) (tVar 0) (tC (.int 0))) (tC (.str "and"))) tNil))) (gName 4))
        (tRet (tLc (iRng2 (tCons (tVar 2) (tCons (tOp (rI0 fun i j => .int (i + j)) (tCB (fun xs H Q => ∃ x n, xs = [x] ∧ LenV K x H n ∧ Q (.int n) H) (tCons (tVar 1) tNil)) (tC (.int 1))) tNil))) (gName 5) (tRows K) (tVar 5) [5])))
        { nx := fun _ H' => Q .non H', rt := Q } [Option.some (.ref a), Option.some (.str z), Option.some (nV i), none, none, none, none, none] H := by
    intro kd a b' us ps wa ha hb hps hwa hdp hls hs5 hM
    refine t_set (q_ix 1 rfl ha rfl ⟨b', rfl, ⟨us, SqT.of hb⟩, fun D hD => ?_⟩)
    refine lc_tup (K := K) (a := b') (xs := us) (fun m H' => Ext H H' ∧ ∃ rows : List (Addr × List Nat), H' D = Option.some (.lst (rows.map fun x => V.ref x.1)) ∧ rows.length = m ∧ (∀ x ∈ rows, x.1 ≠ D ∧ H' x.1 = Option.some (.lst (x.2.map nV))) ∧
      ∀ (k : Nat) (x : Addr × List Nat) (p : Pat), rows[k]? = Option.some x → ps[k]? = Option.some p → ∀ j, j ∈ x.2 ↔ M (cds z) p i j) ?_ ?_ ?_ ?_
    · exact ⟨(Ext.refl _).wr hD, [], upd_same, rfl, fun x hx => (by cases hx), fun k x p h => (by simp at h)⟩
    · exact fun m H' _ s => SqT.of (s.1.tup hb)
    · rintro m u H' hu ⟨e, rows, hDl, hrl, hra, hrv⟩
      obtain ⟨p', hp', hpu⟩ := hps.get hu
      have hm := List.mem_of_getElem? hp'
      have hml : m < ps.length := (List.getElem?_eq_some_iff.mp hp').1
      refine ⟨rfl, _, rfl, _, rfl, _, rfl, u, p', z, i, rfl, PatQ.ext e _ _ hpu, Nat.le_trans (dep_mem hm) hdp, WdL_iff.mp hs5 _ hm, hz, hi, fun r H3 js n3 e3 hr3 hnd hjs => ?_⟩
      have ner : r ≠ D := fun h9 => by rw [h9] at n3; rw [n3] at hDl; cases hDl
      refine ⟨_, e3.lst hDl, ?_, (e.trans e3).wr hD, rows ++ [(r, js)], ?_, ?_, ?_, ?_⟩
      · rw [List.length_map, hrl]; exact Nat.lt_of_lt_of_le (show m < 1048577 by omega) (by decide)
      · rw [upd_same, List.map_append]; rfl
      · rw [List.length_append, hrl]; rfl
      · intro x hx
        rcases List.mem_append.mp hx with h9 | h9
        · exact ⟨(hra x h9).1, by rw [upd_ne (hra x h9).1]; exact e3.lst (hra x h9).2⟩
        · rw [List.mem_singleton.mp h9]; exact ⟨ner, by rw [upd_ne ner]; exact hr3⟩
      · intro k x p9 hx hp9
        by_cases hk : k < rows.length
        · rw [List.getElem?_append_left hk] at hx
          exact hrv k x p9 hx hp9
        · rw [List.getElem?_append_right (by omega)] at hx
          have hk0 : k - rows.length = 0 := by
            have := (List.getElem?_eq_some_iff.mp hx).1
            simp at this
            omega
          have hkm : k = m := by omega
          rw [hk0] at hx
          have hx : (r, js) = x := Option.some.inj hx
          rw [hkm, hp'] at hp9
          rw [← hx, ← Option.some.inj hp9]
          exact hjs
    · rintro H1 ⟨e1, rows, hDl, hrl, hra, hrv⟩
      rw [hps.len] at hrl
      have hR : RowsAt (cds z) i ps rows H1 := ⟨hrl, fun x hx => (hra x hx).2, hrv⟩
      refine t_set ⟨_, rfl, .ref D, _, rfl, .inl ⟨_, SqL.of hDl, rfl⟩, by show 2 ≤ sizeLine; decide, fun p1 x1 => q_ix 0 rfl ((e1.trans (Ext.new x1)).sqT _ _ ha) rfl ⟨rfl, .inr ⟨_, rfl, p1, _, _, nV (if wa = true then rows.length else 1), rfl, rfl, SqL.of upd_same, ?_, ?_⟩⟩⟩
      · rw [hwa, List.length_map]; cases wa <;> rfl
      have e2 := e1.trans (Ext.new (o := .lst [V.int 1, V.int ((rows.map fun x => V.ref x.1).length : Nat)]) x1)
      refine ⟨_, rfl, _, rfl, .str z, _, rfl, ⟨hzl, rfl⟩, _, _, rfl, rfl, _, _, rfl, ⟨by omega, by omega, by omega, by omega⟩, fun D3 hD3 => ?_⟩
      refine lc_range (Sel (upd H1 p1 (.lst [V.int 1, V.int ((rows.map fun x => V.ref x.1).length : Nat)])) D3 i fun e => decide ((if wa = true then rows.length else 1) ≤ cnt rows e)) ⟨(Ext.refl _).wr hD3, upd_same⟩ ?_ ?_
      · intro t H' ht s
        refine ⟨rfl, ?_⟩
        have e12 := (Ext.new (o := .lst [V.int 1, V.int ((rows.map fun x => V.ref x.1).length : Nat)]) x1).trans s.1
        refine ⟨_, rfl, D, rfl, ⟨_, SqL.of (e12.lst hDl)⟩, fun D2 hD2 => ?_⟩
        refine lc_list (K := K) (a := D) (xs := rows.map fun x => V.ref x.1) (fun m H'' => Ext H' H'' ∧ H'' D2 = Option.some (.lst (((rows.take m).filter fun x => decide ((i + t) ∈ x.2)).map fun x => V.ref x.1))) ⟨(Ext.refl _).wr hD2, upd_same⟩ (fun m H'' _ s2 => SqL.of (s2.1.lst (e12.lst hDl))) ?_ ?_
        · rintro m y H'' hy ⟨e3, hD2l⟩
          obtain ⟨x, hx, rfl⟩ : ∃ x, rows[m]? = Option.some x ∧ y = V.ref x.1 := by
            rw [List.getElem?_map] at hy
            cases h9 : rows[m]? with
            | none => rw [h9] at hy; cases hy
            | some x => rw [h9] at hy; exact ⟨x, rfl, (Option.some.inj hy).symm⟩
          have hxm := List.mem_of_getElem? hx
          have hml : m < rows.length := (List.getElem?_eq_some_iff.mp hx).1
          have hxl := e3.lst (e12.lst (hra x hxm).2)
          have htk : rows.take (m + 1) = rows.take m ++ [x] := by rw [List.take_succ, hx]; rfl
          refine ⟨rfl, _, rfl, _, rfl, x.1, _, rfl, .inl (SqL.of hxl), rfl, ?_, _, rfl, ?_⟩
          · rw [List.all_map, List.all_eq_true]; intro x _; rfl
          show if inV (nV (i + t)) (x.2.map nV) = true then _ else _
          rw [inV_nat]
          by_cases h9 : (i + t) ∈ x.2
          · refine iffT (decide_eq_true h9) ⟨_, rfl, _, hD2l, ?_, e3.wr hD2, ?_⟩
            · rw [List.length_map]
              have h8 := List.length_filter_le (fun x : Addr × List Nat => decide ((i + t) ∈ x.2)) (rows.take m)
              rw [List.length_take] at h8
              exact Nat.lt_of_le_of_lt h8 (Nat.lt_of_lt_of_le (show min m rows.length < 1048578 by omega) (by decide))
            · rw [upd_same, htk, List.filter_append, List.map_append]
              simp [List.filter, h9]
          · refine iffF (decide_eq_false h9) ⟨e3, ?_⟩
            rw [htk, List.filter_append, List.map_append]
            simpa [List.filter, h9] using hD2l
        · rintro H'' ⟨e3, hD2l⟩
          rw [List.length_map, List.take_length] at hD2l
          refine ⟨.ref D2, _, rfl, .inl ⟨_, SqL.of hD2l, rfl⟩, _, rfl, _, _, rfl, rfl, _, rfl, ?_⟩
          refine sel_step hD3 ⟨s.1.trans e3, e3.lst s.2⟩ ?_ (by omega) rfl
          rw [List.length_map]
          show decide (_ ≤ _) = decide (_ ≤ _)
          rw [Bool.eq_iff_iff, decide_eq_true_eq, decide_eq_true_eq]
          exact Int.ofNat_le
      · intro H' s
        refine fin _ _ D3 H' (e2.free hD3) e2 s fun j => ?_
        constructor
        · intro h9
          have hb9 := M_bound (cds z) p i j hi h9
          exact ⟨hb9.1, hb9.2, decide_eq_true ((hM rows H1 hR j hb9).mpr h9)⟩
        · rintro ⟨h7, h8, h9⟩
          exact (hM rows H1 hR j ⟨h7, h8⟩).mp (of_decide_eq_true h9)
  cases p with
  | none =>
    obtain ⟨a, rfl, ha⟩ := hp
    refine t_seq (q_kF rfl ha (by decide) (t_seq (q_kF rfl ha (by decide) (t_seq (q_kF rfl ha (by decide) (t_seq (q_kF rfl ha (by decide) (t_seq (q_kT rfl ha ?_)))))))))
    exact ⟨Nat.zero_le _, fun l x => q l _ [] x (Ext.new x) upd_same List.nodup_nil fun j => ⟨fun h => (by cases h), fun h => (show False from h).elim⟩⟩
  | empty =>
    obtain ⟨a, rfl, ha⟩ := hp
    refine t_seq (q_kT rfl ha ?_)
    refine ⟨_, rfl, by show 1 ≤ sizeLine; decide, fun l x => q l _ [i] x (Ext.new x) upd_same (nd_one i) fun j => ?_⟩
    rw [List.mem_singleton]
    exact ⟨fun e => e.symm, fun (e : i = j) => e.symm⟩
  | sign c =>
    obtain ⟨a, rfl, ha⟩ := hp
    refine t_seq (q_kF rfl ha (by decide) (t_seq (q_kT rfl ha ?_)))
    refine ⟨_, rfl, _, _, rfl, rfl, by show 1 ≤ sizeLine; decide, fun l x => ?_⟩
    refine ⟨_, rfl, _, rfl, _, rfl, _, rfl, _, _, rfl, rfl, _, rfl, z, rfl, hzl, ?_⟩
    refine q_ix 1 rfl ((Ext.new x).sqT _ _ ha) rfl ⟨rfl, .inr ⟨_, rfl, l, _, _, rfl, rfl, upd_same, ?_, ?_, ?_, fun l2 x2 => ?_⟩⟩
    · split <;> decide
    · split <;> decide
    · split
      · show 1 * 1 ≤ sizeLine; decide
      · show 1 * 0 ≤ sizeLine; decide
    · have e := cut_sign z i c
      have e2 := (Ext.new x).trans (Ext.new (o := .lst (List.replicate ((if decide (V.str (cutS z (Option.some (i : Int)) (Option.some ((i : Int) + 1))) = V.str ⟨#[c]⟩) = true then (1 : Int) else 0)).toNat [V.int ((i : Int) + 1)]).flatten) x2)
      refine q l2 _ (if (cds z)[i]? = Option.some c then [i + 1] else []) ((Ext.new x).free x2) e2 ?_ ?_ fun j => ?_
      · rw [upd_same, e]
        by_cases h : (cds z)[i]? = Option.some c
        · rw [if_pos h, if_pos (decide_eq_true h)]; rfl
        · rw [if_neg h, if_neg (by rw [decide_eq_true_eq]; exact h)]; rfl
      · split
        · exact nd_one _
        · exact List.nodup_nil
      · show _ ↔ (cds z)[i]? = Option.some c ∧ j = i + 1
        by_cases h : (cds z)[i]? = Option.some c
        · rw [if_pos h, List.mem_singleton]; exact ⟨fun e => ⟨h, e⟩, fun e => e.2⟩
        · rw [if_neg h]; exact ⟨fun e => (by cases e), fun e => absurd e.1 h⟩
  | row ps =>
    obtain ⟨a, b', us, rfl, ha, hb, hps⟩ := hp
    refine t_seq (q_kF rfl ha (by decide) (t_seq (q_kF rfl ha (by decide) (t_seq (q_kT rfl ha ?_)))))
    exact q_ix 1 rfl ha rfl ⟨_, rfl, _, rfl, b', us, ps, z, i, rfl, hb, hps, by simp [Pat.dep] at hd; omega, h5.2, hz, hi, q⟩
  | many p =>
    obtain ⟨a, u, rfl, ha, hu⟩ := hp
    refine t_seq (q_kF rfl ha (by decide) (t_seq (q_kF rfl ha (by decide) (t_seq (q_kF rfl ha (by decide) (t_seq (q_kT rfl ha ?_)))))))
    exact q_ix 1 rfl ha rfl ⟨_, rfl, _, rfl, u, p, z, i, rfl, hu, by simp [Pat.dep] at hd; omega, h5, hz, hi, q⟩
  | not p =>
    obtain ⟨a, u, rfl, ha, hu⟩ := hp
    refine t_seq (q_kF rfl ha (by decide) (t_seq (q_kF rfl ha (by decide) (t_seq (q_kF rfl ha (by decide) (t_seq (q_kF rfl ha (by decide) (t_seq (q_kF rfl ha (by decide) (t_seq (q_kT rfl ha ?_)))))))))))
    refine t_set (q_ix 1 rfl ha rfl ⟨_, rfl, _, rfl, u, p, z, i, rfl, hu, by simp [Pat.dep] at hd; omega, h5, hz, hi, fun r H1 js n1 e1 hr1 hnd hjs => ?_⟩)
    refine ⟨by show 1 ≤ sizeLine; decide, fun l x => ?_⟩
    have e2 := e1.trans (Ext.new (o := .lst [.ref r]) x)
    refine ⟨_, rfl, _, rfl, .str z, _, rfl, ⟨hzl, rfl⟩, _, _, rfl, rfl, _, _, rfl, ⟨by omega, by omega, by omega, by omega⟩, fun D hD => ?_⟩
    refine lc_range (Sel (upd H1 l (.lst [.ref r])) D i fun e => !decide (e ∈ js)) ⟨(Ext.refl _).wr hD, upd_same⟩ ?_ ?_
    · intro t H' ht s
      refine ⟨rfl, ?_⟩
      have hl' := s.1.lst (show upd H1 l (.lst [.ref r]) l = _ from upd_same)
      have hr' := s.1.lst ((Ext.new (o := .lst [.ref r]) x).lst hr1)
      refine ⟨_, rfl, _, rfl, l, _, _, .ref r, rfl, rfl, SqL.of hl', atI_nat (j := 0) rfl, r, _, rfl, .inl (SqL.of hr'), rfl, ?_, _, rfl, ?_⟩
      · rw [List.all_map, List.all_eq_true]; intro x _; rfl
      · exact sel_step hD s (congrArg (fun b => !b) (inV_nat (i + t) js)) (by omega) rfl
    · intro H' s
      refine fin _ _ D H' (e2.free hD) e2 s fun j => ?_
      show i ≤ j ∧ j ≤ (cds z).length ∧ ¬ M (cds z) p i j ↔ _
      rw [← hjs j, Bool.not_eq_true', decide_eq_false_iff_not]
  | or ps =>
    obtain ⟨a, b', us, rfl, ha, hb, hps⟩ := hp
    refine t_seq (q_kF rfl ha (by decide) (t_seq (q_kF rfl ha (by decide) (t_seq (q_kF rfl ha (by decide) (t_seq (q_kF rfl ha (by decide) (t_seq (q_kF rfl ha (by decide) (t_seq (q_kF rfl ha (by decide) ?_)))))))))))
    exact tail "or" a b' us ps false ha hb hps (by decide) (by simp [Pat.dep] at hd; omega) h5.1 h5.2 (fun rows H9 hR e he => cnt_or hR e)
  | and ps =>
    obtain ⟨a, b', us, rfl, ha, hb, hps⟩ := hp
    refine t_seq (q_kF rfl ha (by decide) (t_seq (q_kF rfl ha (by decide) (t_seq (q_kF rfl ha (by decide) (t_seq (q_kF rfl ha (by decide) (t_seq (q_kF rfl ha (by decide) (t_seq (q_kF rfl ha (by decide) ?_)))))))))))
    exact tail "and" a b' us ps true ha hb hps (by decide) (by simp [Pat.dep] at hd; omega) h5.1 h5.2 (fun rows H9 hR e he => (cnt_and hR e).trans ⟨fun h => ⟨he.1, he.2, h⟩, fun h => h.2.2⟩)
end
end Bo
set_option Elab.async false
set_option linter.all false
set_option maxRecDepth 100000
set_option maxHeartbeats 4000000
namespace Bo
open PySem PySem.Spec PyProof.Rows L2 GE
def ovr (L : Str) (n : Nat) (z : Str) : Prop := z.cps.size ≤ n ∧ ∀ c ∈ cds z, c ∈ cds L
theorem cds_app (a b : Str) : cds (a ++ b) = cds a ++ cds b := Array.toList_append
theorem cds_len (z : Str) : (cds z).length = z.cps.size := Array.length_toList
theorem ovr_app {L : Str} {n m : Nat} {a b : Str} (h : ovr L n a) (g : ovr L m b) : ovr L (n + m) (a ++ b) := by
  refine ⟨?_, fun c hc => ?_⟩
  · rw [← cds_len, cds_app, List.length_append, cds_len, cds_len]; exact Nat.add_le_add h.1 g.1
  · rw [cds_app] at hc
    rcases List.mem_append.mp hc with hc | hc
    · exact h.2 c hc
    · exact g.2 c hc
theorem ovr_nil (L : Str) (n : Nat) : ovr L n (Str.ofString "") := by
  refine ⟨Nat.zero_le _, fun c hc => ?_⟩
  rw [show cds (Str.ofString "") = [] from rfl] at hc
  cases hc
theorem ovr_one {L : Str} {c : Nat} (h : c ∈ cds L) : ovr L 1 ⟨#[c]⟩ := by
  refine ⟨Nat.le_refl _, fun d hd => ?_⟩
  rw [show cds ⟨#[c]⟩ = [c] from rfl] at hd
  rw [List.mem_singleton.mp hd]
  exact h
theorem idx_mod {L : Str} (h : goodS L = true) (x : Int) : ∃ (j : Nat) (hj : j < (cds L).length), x % ((L.length : Nat) : Int) = (j : Int) := by
  obtain ⟨h1, _⟩ := good_len h
  have h0 : (0 : Int) < ((L.length : Nat) : Int) := by show (0 : Int) < ((L.cps.size : Nat) : Int); omega
  have h2 := Int.emod_nonneg x (show ((L.length : Nat) : Int) ≠ 0 by omega)
  have h3 := Int.emod_lt_of_pos x h0
  refine ⟨(x % ((L.length : Nat) : Int)).toNat, ?_, (Int.toNat_of_nonneg h2).symm⟩
  rw [cds_len]
  show (x % ((L.length : Nat) : Int)).toNat < L.length
  omega
theorem ovr_le {L : Str} {n m : Nat} {z : Str} (h : ovr L n z) (k : n ≤ m) : ovr L m z := ⟨Nat.le_trans h.1 k, h.2⟩
def spLF (K : PySem.W.Frag) (d : Nat) : Sp := fun vs H Q _ => ∃ (v : V) (p : Pat) (z : Str), vs = [v, .str z] ∧ PatQ K H p v ∧ p.dep ≤ d ∧ Wd p ∧ (cds z).length ≤ 20 ∧ ∀ H' b, Ext H H' → (b = true ↔ M (cds z) p 0 (cds z).length) → Q (.bl b) H'
def spTs : Sp := fun vs H Q _ => ∃ (L : Str) (m : Nat), vs = [.str L, nV m] ∧ goodS L = true ∧ m ≤ 4 ∧ ∀ r H' (zs : List Str), H r = Option.none → Ext H H' → H' r = Option.some (.lst (zs.map V.str)) → zs.length ≤ 1100 → (∀ z ∈ zs, ovr L 4 z) → zs ≠ [] → Q (.ref r) H'
section
variable {P : Program} {w : World} {K : PySem.W.Frag} {mg : Str → Option Value} {base : Heap}
theorem scLF : FnScope ["_law_pattern", "_law_text"] ["_law_pattern", "_law_text"] (defScope sLawFit) := ⟨rfl, rfl, rfl, by decide +kernel, rfl, by decide +kernel, by decide +kernel⟩
theorem scTs : FnScope ["_law_letters_here", "_law_most", "_law_found", "_law_row", "_law_turn", "_law_later", "_law_text", "_law_sign"] ["_law_letters_here", "_law_most"] (defScope sLawTexts) := ⟨rfl, rfl, rfl, by decide +kernel, rfl, by decide +kernel, by decide +kernel⟩
theorem lf_ok {f g : Addr} {fd gd : FuncData} {k d : Nat} (F : FnP K "_law_fit" sLawFit f fd) (G : FnOk P w K mg base CX0 k g gd ["_law_pattern", "_law_text", "_law_at"] (spLE K d)) (bG : Binds K gd ["_law_pattern", "_law_text", "_law_at"] []) (kG : PySem.W.keepIn K (.ref g) = true) (mG : mg "_law_ends" = Option.some (.ref g)) (ml : mg "len" = none) :
    FnOk P w K mg base CX0 (k + 1) f fd ["_law_pattern", "_law_text"] (spLF K d) := by
  refine okD F scLF (fun vs H Q E h => ?_) (fun cdv A outer s H vs Q E hr h => ?_)
  · obtain ⟨v, p, z, rfl, _⟩ := h
    rfl
  obtain ⟨v, p, z, rfl, hp, hd, h5, hz, q⟩ := h
  refine ⟨_, pss_one (ps_ret (pe_cmpR op_in_seq (pe_callB call_len rfl ml PySem.boot_len (pa_cons (pv 1) pa_nil)) (pe_call G hr rfl mG kG bG .nil pass0 (pa_cons (pv 0) (pa_cons (pv 1) (pa_cons pe_int pa_nil)))) (by rfl))), ?_⟩
  refine ⟨_, rfl, .str z, _, rfl, ⟨by show z.cps.size ≤ sizeLine; rw [← cds_len]; exact Nat.le_trans hz (by decide), rfl⟩, _, rfl, _, rfl, v, p, z, 0, rfl, hp, hd, h5, hz, Nat.zero_le _, fun r H1 js n1 e1 hr1 hnd hjs => ?_⟩
  refine ⟨r, _, rfl, .inl (SqL.of hr1), rfl, ?_, ?_⟩
  · rw [List.all_map, List.all_eq_true]; intro x _; rfl
  · refine q H1 _ e1 ?_
    show inV (nV z.length) (js.map nV) = true ↔ _
    rw [inV_nat, decide_eq_true_eq, hjs, show z.length = (cds z).length from (cds_len z).symm]
end
end Bo
set_option Elab.async false
set_option linter.all false
set_option maxRecDepth 100000
set_option maxHeartbeats 4000000
namespace Bo
open PySem PySem.Spec PyProof.Rows L2 GE
/-- a comprehension over the signs of a text -/
theorem lc_signs {g : TG} {tt : TT} {te : TE} {vs : List Nat} {σ : L2.St} {H1 : Hp} {D : Addr} {Qd : Hp → Prop} {x : Str} (Pv : Nat → Hp → Prop) (h0 : Pv 0 (upd H1 D (.lst [])))
    (hs : ∀ i c H, x.cps[i]? = Option.some c → Pv i H → g (.str ⟨#[c]⟩) (wipe σ vs) H fun σ2 H2 => wipe σ2 vs = wipe σ vs ∧ tt σ2 H2 fun b H3 =>
      if b = true then te σ2 H3 fun y H4 => ∃ acc, H4 D = Option.some (.lst acc) ∧ acc.length < sizeLine ∧ Pv (i + 1) (upd H4 D (.lst (acc ++ [y]))) else Pv (i + 1) H3) (hd : ∀ H, Pv x.cps.size H → Qd H) :
    ∃ W : Nat → Nat → Hp → Prop, (∃ m, W 0 m (upd H1 D (.lst []))) ∧ ∀ i m H, W i m H →
      ((Its x).stop i H ∧ Qd H) ∨ ((Its x).go i H ∧ ∃ Nx : Hp → Prop, (∀ H', Nx H' → ∃ m', m' < m ∧ W (i + 1) m' H') ∧ ∀ v H', (Its x).yld i H v H' → g v (wipe σ vs) H' fun σ2 H2 => wipe σ2 vs = wipe σ vs ∧ tt σ2 H2 fun b H3 =>
        if b = true then te σ2 H3 fun y H4 => ∃ acc, H4 D = Option.some (.lst acc) ∧ acc.length < sizeLine ∧ Nx (upd H4 D (.lst (acc ++ [y]))) else Nx H3) := by
  refine ⟨fun i m H => m = x.cps.size - i ∧ i ≤ x.cps.size ∧ Pv i H, ⟨x.cps.size, by simp, Nat.zero_le _, h0⟩, ?_⟩
  rintro i m H ⟨rfl, hi, p⟩
  by_cases hlt : i < x.cps.size
  · refine .inr ⟨hlt, Pv (i + 1), fun H' p' => ⟨x.cps.size - (i + 1), by omega, rfl, hlt, p'⟩, fun v H' y => ?_⟩
    obtain ⟨e, c, hc, rfl⟩ := y
    subst e
    exact hs i c H' hc p
  · have e : i = x.cps.size := by omega
    subst e
    exact .inl ⟨Nat.le_refl _, hd H p⟩
section
variable {P : Program} {w : World} {K : PySem.W.Frag} {mg : Str → Option Value} {base : Heap}
theorem ts_ok {f : Addr} {fd : FuncData} (F : FnP K "_law_texts" sLawTexts f fd) (mr : mg "range" = none) : FnOk P w K mg base CX0 1 f fd ["_law_letters_here", "_law_most"] spTs := by
  refine okD F scTs (fun vs H Q E h => ?_) (fun cdv A outer s H vs Q E hr h => ?_)
  · obtain ⟨L, m, rfl, _⟩ := h
    rfl
  obtain ⟨L, m, rfl, hL, hm, q⟩ := h
  refine ⟨_, pss_cons (ps_set (i := 2) scTs.nd rfl (Or.inl rfl) (pe_lst (pa_cons pe_str pa_nil)))
    (pss_cons (ps_set (i := 3) scTs.nd rfl (Or.inl rfl) (pe_lst (pa_cons pe_str pa_nil)))
    (pss_cons (ps_for PassesOwn.never rfl (pi_range1 rfl mr (pa_cons (pv 1) pa_nil)) (pg_name (i := 4) scTs.nd rfl (Or.inl rfl))
      (pss_cons (ps_set (i := 5) scTs.nd rfl (Or.inl rfl) (pe_lst pa_nil))
      (pss_cons (ps_for PassesOwn.never rfl (pi_list (pv 3)) (pg_name (i := 6) scTs.nd rfl (Or.inr rfl))
        (pss_one (ps_expr (pe_bm PySem.F.plainAttrs_list PySem.F.slot_list_extend PySem.F.type_list_extend mt_extend (pv 5) (pa_cons (pe_lc (own := [("_law_sign", 7)]) (g := gName 7) (tt := tYes) rfl scTs.nd (pi_str (pv 0))
          (blkOk_by (N := ["_law_letters_here", "_law_most", "_law_found", "_law_row", "_law_turn", "_law_later", "_law_text", "_law_sign"]) (sc := defScope sLawTexts) (by decide +kernel))
          (fun _ _ _ _ _ => pg_name (i := 7) scTs.nd rfl (Or.inl rfl) (Or.inr rfl)) (fun _ _ _ _ _ => pts_nil)
          (fun _ _ _ _ _ => pe_op op_add_str (pv 6) (pv 7))) pa_nil)))))
      (pss_cons (ps_set (i := 3) scTs.nd rfl (Or.inl rfl) (pv 5))
      (pss_one (ps_set (i := 2) scTs.nd rfl (Or.inl rfl) (pe_op op_cat (pv 2) (pv 3))))))))
    (pss_one (ps_ret (pv 2))))), ?_⟩
  obtain ⟨hL1, hL4⟩ := good_len hL
  have one : ∀ (z : Str), [V.str z] = [z].map V.str := fun z => rfl
  refine t_set ⟨by show 1 ≤ sizeLine; decide, fun l1 x1 => t_set ⟨by show 1 ≤ sizeLine; decide, fun l2 x2 => ?_⟩⟩
  refine t_seq ⟨_, rfl, _, rfl, by omega, by omega, ?_⟩
  refine for_range (fun t σ' H' => ∃ (a b : Addr) (fs rs : List Str) (c4 c5 c6 : Option V), σ' = [Option.some (.str L), Option.some (nV m), Option.some (.ref a), Option.some (.ref b), c4, c5, c6, none] ∧ H a = none ∧ Ext H H' ∧ H' a = Option.some (.lst (fs.map V.str)) ∧ H' b = Option.some (.lst (rs.map V.str)) ∧
    fs ≠ [] ∧ fs.length ≤ 1 + 256 * t ∧ rs.length ≤ 4 ^ t ∧ (∀ z ∈ fs, ovr L t z) ∧ (∀ z ∈ rs, ovr L t z)) ?_ ?_ ?_
  · refine ⟨l1, l2, [Str.ofString ""], [Str.ofString ""], none, none, none, rfl, x1, (Ext.new x1).trans (Ext.new x2), (Ext.new x2).lst upd_same, upd_same, by simp, Nat.le_refl _, Nat.le_refl _, ?_, ?_⟩
    · intro z hz; rw [List.mem_singleton.mp hz]; exact ovr_nil L 0
    · intro z hz; rw [List.mem_singleton.mp hz]; exact ovr_nil L 0
  · rintro t σ' H1 ht ⟨a, b, fs, rs, c4, c5, c6, rfl, n1, e1, ha, hb, hf0, hf, hr4, hfo, hro⟩
    have ht3 : t < 4 := by omega
    have h4t : 4 ^ t ≤ 64 := Nat.le_trans (Nat.pow_le_pow_right (by omega) (show t ≤ 3 by omega)) (by decide)
    refine t_set ⟨Nat.zero_le _, fun l3 x3 => ?_⟩
    refine t_seq ⟨_, rfl, b, rfl, ⟨_, SqL.of ((Ext.new x3).lst hb)⟩, ?_⟩
    refine for_list (K := K) (a := b) (xs := rs.map V.str) (fun k σ' H' => ∃ (ls : List Str) (c6 : Option V), σ' = [Option.some (.str L), Option.some (nV m), Option.some (.ref a), Option.some (.ref b), Option.some (.int (0 + (t : Int))), Option.some (.ref l3), c6, none] ∧ Ext H1 H' ∧ H' l3 = Option.some (.lst (ls.map V.str)) ∧ ls.length = L.cps.size * k ∧ (∀ z ∈ ls, ovr L (t + 1) z)) ?_ ?_ ?_ ?_
    · exact ⟨[], c6, rfl, Ext.new x3, upd_same, by simp, fun z hz => (by cases hz)⟩
    · rintro k σ' H' hk ⟨ls, c6, rfl, e2, _⟩
      exact SqL.of (e2.lst hb)
    · rintro k y σ' H2 hy ⟨ls, c6, rfl, e2, hl3, hll, hlo⟩
      obtain ⟨z, hz, rfl⟩ : ∃ z, rs[k]? = Option.some z ∧ y = V.str z := by
        rw [List.getElem?_map] at hy
        cases h9 : rs[k]? with
        | none => rw [h9] at hy; cases hy
        | some z => rw [h9] at hy; exact ⟨z, rfl, (Option.some.inj hy).symm⟩
      have hzo := hro z (List.mem_of_getElem? hz)
      have hkl : k < 64 := Nat.lt_of_lt_of_le (List.getElem?_eq_some_iff.mp hz).1 (Nat.le_trans hr4 h4t)
      have hmul : L.cps.size * k ≤ 256 := Nat.le_trans (Nat.mul_le_mul hL4 (Nat.le_of_lt hkl)) (by decide)
      refine ⟨_, rfl, .inl ⟨rfl, _, SqL.of hl3⟩, _, rfl, L, rfl, fun D hD => ?_⟩
      refine lc_signs (Built H2 D fun i => V.str (z ++ ⟨#[(cds L).getD i 0]⟩)) (Built.zero hD) ?_ ?_
      · intro i c H' hc bu
        have hc' : (cds L)[i]? = Option.some c := by rw [← hc]; exact Array.getElem?_toList
        refine ⟨rfl, _, rfl, _, rfl, _, _, rfl, rfl, ?_, ?_⟩
        · exact Nat.le_trans (show z.cps.size + 1 ≤ 50 by have := hzo.1; omega) (by decide)
        · refine bu.next hD (Ext.refl _) ?_ ?_
          · rw [List.getD_eq_getElem?_getD, hc']; rfl
          · have hi4 : i < L.cps.size := by rw [← cds_len]; exact (List.getElem?_eq_some_iff.mp hc').1
            exact Nat.lt_of_lt_of_le (show i < 4 by omega) (by decide)
      · intro H' bu
        have hb2 := bu.2
        have e9 : (List.range L.cps.size).map (fun i => V.str (z ++ ⟨#[(cds L).getD i 0]⟩)) = ((List.range L.cps.size).map (fun i => z ++ ⟨#[(cds L).getD i 0]⟩)).map V.str := by rw [List.map_map]; rfl
        rw [e9] at hb2
        have hl3' := bu.1.lst hl3
        refine ⟨l3, D, _, _, rfl, rfl, hl3', hb2, ?_, ?_⟩
        · rw [List.length_map, List.length_map, List.length_map, List.length_range, hll]
          exact Nat.le_trans (show L.cps.size * k + L.cps.size ≤ 300 by omega) (by decide)
        · refine ⟨ls ++ (List.range L.cps.size).map (fun i => z ++ ⟨#[(cds L).getD i 0]⟩), _, rfl, (e2.trans bu.1).wr x3, by rw [upd_same, List.map_append], ?_, ?_⟩
          · rw [List.length_append, List.length_map, List.length_range, hll, Nat.mul_succ]
          · intro y hy
            rcases List.mem_append.mp hy with hy | hy
            · exact hlo y hy
            · obtain ⟨i, hi, rfl⟩ := List.mem_map.mp hy
              have hi' : i < (cds L).length := by rw [cds_len]; exact List.mem_range.mp hi
              refine ovr_app hzo (ovr_one ?_)
              rw [List.getD_eq_getElem?_getD, List.getElem?_eq_getElem hi']
              exact List.getElem_mem hi'
    · rintro σ' H2 ⟨ls, c6, rfl, e2, hl3, hll, hlo⟩
      rw [List.length_map] at hll
      have hls : ls.length ≤ 4 ^ (t + 1) := by
        rw [hll, Nat.pow_succ, Nat.mul_comm]
        exact Nat.mul_le_mul hr4 hL4
      have hls64 : ls.length ≤ 256 := Nat.le_trans hls (Nat.le_trans (Nat.pow_le_pow_right (by omega) (show t + 1 ≤ 4 by omega)) (by decide))
      have ha2 := e2.lst ha
      dsimp only
      refine t_set ⟨_, rfl, ?_⟩
      refine ⟨_, rfl, _, rfl, a, l3, _, _, rfl, rfl, ha2, hl3, ?_, fun p x9 => ?_⟩
      · rw [List.length_map, List.length_map]
        exact Nat.le_trans (show fs.length + ls.length ≤ 1400 by omega) (by decide)
      have e12 := e1.trans e2
      refine ⟨p, l3, fs ++ ls, ls, _, _, _, rfl, e12.free x9, e12.trans (Ext.new x9), by rw [upd_same, List.map_append], (Ext.new x9).lst hl3, by simp [hf0], ?_, hls, ?_, hlo⟩
      · rw [List.length_append]; omega
      · intro y hy
        rcases List.mem_append.mp hy with hy | hy
        · exact ovr_le (hfo y hy) (Nat.le_succ _)
        · exact hlo y hy
  · rintro σ' H' ⟨a, b, fs, rs, c4, c5, c6, rfl, n1, e1, ha, hb, hf0, hf, hr4, hfo, hro⟩
    exact ⟨_, rfl, q a H' fs n1 e1 ha (by omega) (fun z hz => ovr_le (hfo z hz) (by omega)) hf0⟩
end
end Bo
set_option Elab.async false
set_option linter.all false
set_option maxRecDepth 100000
set_option maxHeartbeats 8000000
/-! the law's look at a pattern's shape -/
namespace Bo
open PySem PySem.Spec PyProof.Rows L2 GE StX
theorem ty_tup {K : PySem.W.Frag} {H : Hp} {a : Addr} {xs : List V} (h : SqT K H a xs) : TyX K H (.ref a) (.type "tuple") := by
  rcases h with (h | ⟨o, h⟩) | ⟨o, its, n, h, c, _⟩
  · exact .base (.tup h)
  · exact .fTuple h
  · exact .kTuple h c
theorem q_nin {K : PySem.W.Frag} {σ : L2.St} {H : Hp} {a : Addr} {xs : List V} {Q : VK} {i : Nat} {k : Str} (zs : List Str) (h0 : σ[i]? = some (some (.ref a))) (ha : SqT K H a (.str k :: xs)) (hz : zs.length ≤ 20) (q : ∀ p, H p = none → Q (.bl (!decide (k ∈ zs))) (upd H p (.tup (zs.map V.str)))) :
    tOp (rIn K true) (tOp (rIxT K) (tVar i) (tC (.int 0))) (tTup (tCs zs)) σ H Q := by
  refine q_ix 0 h0 ha rfl (tCs_go zs _ ⟨?_, fun p np => ?_⟩)
  · rw [List.length_map]; exact Nat.le_of_lt (small1000 (by omega))
  · refine ⟨p, _, rfl, .inr (SqT.of upd_same), rfl, ?_, ?_⟩
    · rw [List.all_map, List.all_eq_true]; intro z _; rfl
    · show Q (.bl (!inV (.str k) (zs.map V.str))) _
      rw [inV_str]; exact q p np
theorem okL_iff {L : Str} : ∀ {ps : List Pat}, okL L ps ↔ ∀ p ∈ ps, p.ok L
  | [] => ⟨fun _ _ h => (by cases h), fun _ => trivial⟩
  | p :: ps => ⟨fun h q a => (List.mem_cons.mp a).elim (fun e => e ▸ h.1) fun a => okL_iff.mp h.2 q a, fun h => ⟨h p List.mem_cons_self, okL_iff.mpr fun q a => h q (List.mem_cons_of_mem _ a)⟩⟩
def spSp (K : PySem.W.Frag) (d : Nat) : Sp := fun vs H Q _ => ∃ (L : Str) (v : V) (p : Pat), vs = [.str L, v] ∧ PatQ K H p v ∧ p.dep ≤ d ∧ p.ok L ∧ Wd p ∧ ∀ H', Ext H H' → Q (.bl true) H'
section
variable {P : Program} {w : World} {K : PySem.W.Frag} {mg : Str → Option Value} {base : Heap}
theorem scSp : FnScope ["_law_letters_here", "_law_pattern", "_law_part"] ["_law_letters_here", "_law_pattern"] (defScope sLawShaped) := ⟨rfl, rfl, rfl, by decide +kernel, rfl, by decide +kernel, by decide +kernel⟩
theorem sp_none {f : Addr} {fd : FuncData} {k : Nat} : FnOk P w K mg base CX0 k f fd ["_law_letters_here", "_law_pattern"] (spSp K 0) := by
  have no : ∀ vs H Q E, ¬ spSp K 0 vs H Q E := fun vs H Q E h => by
    obtain ⟨L, v, p, _, _, hd, _⟩ := h
    have := dep_pos p
    omega
  exact ⟨fun vs H Q E h => absurd h (no vs H Q E), fun A outer s H args us vs Q E _ _ _ _ h => absurd h (no vs H Q E)⟩
theorem sp_step {f : Addr} {fd : FuncData} {k d : Nat} (St : Std K mg "_law_shaped" sLawShaped ["_law_letters_here", "_law_pattern"] f fd) (G : FnOk P w K mg base CX0 k f fd ["_law_letters_here", "_law_pattern"] (spSp K d))
    (mi : mg "isinstance" = none) (mt : mg "tuple" = none) (ml : mg "len" = none) (ms : mg "str" = none) (ma : mg "all" = none) : FnOk P w K mg base CX0 (k + 1) f fd ["_law_letters_here", "_law_pattern"] (spSp K (d + 1)) := by
  refine okD St.F scSp (fun vs H Q E h => ?_) (fun cdv A' outer s H vs Q E hr h => ?_)
  · obtain ⟨L, v, p, rfl, _⟩ := h
    rfl
  obtain ⟨L, v, p, rfl, hp, hd, hok, hwd, q⟩ := h
  refine ⟨_, (pss_cons (ps_if (PW.pt (pw_or (pt_not (pt_val (pe_callB call_isi rfl mi (by decide +kernel) (pa_cons (pv 1) (pa_cons (pe_bltn (v := .ty "tuple") (u := .type "tuple") rfl mt (by decide +kernel) rfl) pa_nil))))) (pw_or (pt_cmpR op_eq (pe_callB call_len rfl ml PySem.boot_len (pa_cons (pv 1) pa_nil)) pe_int (nomark _))
        (pw_or1 (pt_not (pt_val (pe_callB call_isi rfl mi (by decide +kernel) (pa_cons (pe_ix ix_tup (pv 1) pe_int (fun _ _ => rfl)) (pa_cons (pe_bltn (v := .ty "str") (u := .type "str") rfl ms (by decide +kernel) rfl) pa_nil))))))))) (pss_one (ps_ret pe_bl)) pss_nil) (pss_cons (ps_if (pt_cmpR op_in_seq (pe_ix ix_tup (pv 1) pe_int (fun _ _ => rfl)) (pe_tup (pa_cons pe_str (pa_cons pe_str pa_nil))) (by rfl)) (pss_one (ps_ret (pe_cmpR op_eq (pe_callB call_len rfl ml PySem.boot_len (pa_cons (pv 1) pa_nil)) pe_int (nomark _)))) pss_nil) (pss_cons (ps_if (PW.pt (pw_or (pt_cmpR op_ne (pe_callB call_len rfl ml PySem.boot_len (pa_cons (pv 1) pa_nil)) pe_int (nomark _)) (pw_or1 (pt_cmpR op_notIn_seq (pe_ix ix_tup (pv 1) pe_int (fun _ _ => rfl)) (pe_tup (pa_cons pe_str (pa_cons pe_str (pa_cons pe_str (pa_cons pe_str (pa_cons pe_str (pa_cons pe_str pa_nil))))))) (by rfl))))) (pss_one (ps_ret pe_bl)) pss_nil) (pss_cons (ps_if (pt_cmpR op_eq (pe_ix ix_tup (pv 1) pe_int (fun _ _ => rfl)) pe_str (nomark _)) (pss_one (ps_ret (pe_and (pe_callB call_isi rfl mi (by decide +kernel) (pa_cons (pe_ix ix_tup (pv 1) pe_int (fun _ _ => rfl)) (pa_cons (pe_bltn (v := .ty "str") (u := .type "str") rfl ms (by decide +kernel) rfl) pa_nil)))
        (pe_and (pe_cmpR op_eq (pe_callB call_len rfl ml PySem.boot_len (pa_cons (pe_ix ix_tup (pv 1) pe_int (fun _ _ => rfl)) pa_nil)) pe_int (nomark _)) (pe_one (pe_cmpR op_in_sign (pe_ix ix_tup (pv 1) pe_int (fun _ _ => rfl)) (pv 0) (by rfl))))))) pss_nil) (pss_cons (ps_if (pt_cmpR op_in_seq (pe_ix ix_tup (pv 1) pe_int (fun _ _ => rfl)) (pe_tup (pa_cons pe_str (pa_cons pe_str pa_nil))) (by rfl)) (pss_one (ps_ret (pe_call G hr rfl St.m St.F.kp St.b .nil pass0 (pa_cons (pv 0) (pa_cons (pe_ix ix_tup (pv 1) pe_int (fun _ _ => rfl)) pa_nil))))) pss_nil) (pss_cons (ps_if (PW.pt (pw_or (pt_not (pt_val (pe_callB call_isi rfl mi (by decide +kernel) (pa_cons (pe_ix ix_tup (pv 1) pe_int (fun _ _ => rfl)) (pa_cons (pe_bltn (v := .ty "tuple") (u := .type "tuple") rfl mt (by decide +kernel) rfl) pa_nil))))) (pw_or1 (pt_cmpR op_lt (pe_callB call_len rfl ml PySem.boot_len (pa_cons (pe_ix ix_tup (pv 1) pe_int (fun _ _ => rfl)) pa_nil)) pe_int (nomark _))))) (pss_one (ps_ret pe_bl)) pss_nil) (pss_one (ps_ret (pe_callB (cr_all rfl) rfl ma boot_all (pa_cons (pe_lc (own := [("_law_part", 2)]) (g := gName 2) (tt := tYes) (te := tCall (spSp K d) [] E0 (tCons (tVar 0) (tCons (tVar 2) tNil))) rfl scSp.nd (pi_tup (pe_ix ix_tup (pv 1) pe_int (fun _ _ => rfl)))
        (blkOk_by (N := ["_law_letters_here", "_law_pattern", "_law_part"]) (sc := defScope sLawShaped) (by decide +kernel)) (fun _ _ _ _ _ => pg_name (i := 2) scSp.nd rfl (Or.inl rfl) (Or.inr rfl)) (fun _ _ _ _ _ => pts_nil)
        (fun _ _ _ _ _ => pe_call G hr rfl St.m St.F.kp St.b .nil pass0 (pa_cons (pv 0) (pa_cons (pv 2) pa_nil)))) pa_nil)))))))))), ?_⟩
  have sE : sizeLine = 16777216 := sizeLine_eq
  obtain ⟨a, xs, rfl, ha⟩ := hp.hd
  refine seq_fall (cond := False) (fun R _ qF => ?_) (fun h => h.elim) (fun _ H1 e1 => ?_)
  · refine ⟨_, rfl, .ref a, .ty "tuple", .type "tuple", .type "tuple", _, rfl, .ty _, ty_tup ha, kn_tup (by decide), _, rfl, iffF rfl ?_⟩
    refine ⟨_, rfl, .ref a, _, rfl, .inr ⟨_, ha, rfl⟩, rfl, _, rfl, iffF ?_ ?_⟩
    · rw [dec_int]; exact beq_eq_false_iff_ne.mpr (by rw [List.length_cons]; omega)
    · exact q_ix 0 rfl ha rfl ⟨.str p.kind, .ty "str", .type "str", .type "str", _, rfl, .ty _, .base (.str _), kn_str (by decide), _, rfl, qF (fun h => h) H (Ext.refl _)⟩
  refine seq_fall (cond := p = .none ∨ p = .empty) (fun R qT qF => ?_) (fun h H2 e2 => ?_) (fun h H2 e2 => ?_)
  · refine q_in ["none", "empty"] rfl (e1.sqT _ _ ha) (by decide) fun b hb => ⟨_, rfl, ?_⟩
    have e2 := Ext.new (o := .tup ((["none", "empty"] : List Str).map V.str)) hb
    by_cases h : p = .none ∨ p = .empty
    · rw [show decide (p.kind ∈ (["none", "empty"] : List Str)) = true by rcases h with rfl | rfl <;> decide]
      exact qT h _ e2
    · rw [show decide (p.kind ∈ (["none", "empty"] : List Str)) = false by cases p <;> first | exact absurd (.inl rfl) h | exact absurd (.inr rfl) h | (refine decide_eq_false ?_; intro z; simp [Pat.kind] at z; revert z; decide)]
      exact qF h _ e2
  · have e12 := e1.trans e2
    have one : ∃ r, SqT K H a [V.str r] := by
      rcases h with rfl | rfl
      · obtain ⟨a', ea, h'⟩ := hp; cases ea; exact ⟨_, h'⟩
      · obtain ⟨a', ea, h'⟩ := hp; cases ea; exact ⟨_, h'⟩
    obtain ⟨r, hr1⟩ := one
    exact ⟨_, rfl, .ref a, _, rfl, .inr ⟨_, e12.sqT _ _ hr1, rfl⟩, rfl, q _ e12⟩
  have e12 := e1.trans e2
  have hno : p.kind ∈ (["sign", "many", "not", "row", "or", "and"] : List Str) := by
    cases p <;> first | exact absurd (.inl rfl) h | exact absurd (.inr rfl) h | (show _ ∈ _; simp [Pat.kind])
  have two : ∃ u, SqT K H a [V.str p.kind, u] := by
    cases p with
    | none => exact absurd (.inl rfl) h
    | empty => exact absurd (.inr rfl) h
    | sign c => obtain ⟨a', ea, h'⟩ := hp; cases ea; exact ⟨_, h'⟩
    | many x => obtain ⟨a', u, ea, h', _⟩ := hp; cases ea; exact ⟨_, h'⟩
    | not x => obtain ⟨a', u, ea, h', _⟩ := hp; cases ea; exact ⟨_, h'⟩
    | row ps => obtain ⟨a', b, us, ea, h', _⟩ := hp; cases ea; exact ⟨_, h'⟩
    | or ps => obtain ⟨a', b, us, ea, h', _⟩ := hp; cases ea; exact ⟨_, h'⟩
    | and ps => obtain ⟨a', b, us, ea, h', _⟩ := hp; cases ea; exact ⟨_, h'⟩
  obtain ⟨u0, ha0⟩ := two
  refine seq_fall (cond := False) (fun R _ qF => ?_) (fun h => h.elim) (fun _ H3 e3 => ?_)
  · refine ⟨_, rfl, .ref a, _, rfl, .inr ⟨_, e12.sqT _ _ ha0, rfl⟩, rfl, _, rfl, iffF rfl ?_⟩
    refine q_nin ["sign", "many", "not", "row", "or", "and"] rfl (e12.sqT _ _ ha0) (by decide) fun b hb => ⟨_, rfl, ?_⟩
    rw [decide_eq_true hno]
    exact qF (fun h => h) _ (Ext.new hb)
  have e13 := e12.trans e3
  -- many, not
  have inner : ∀ (x : Pat) (u : V) (k2 : Str), SqT K H a [V.str k2, u] → PatQ K H x u → x.dep ≤ d → x.ok L → Wd x → ∀ H4, Ext H H4 → tRet (tCall (spSp K d) [] E0 (tCons (tVar 0) (tCons (tOp (rIxT K) (tVar 1) (tC (.int 1))) tNil))) { nx := fun _ H' => Q .non H', rt := Q } [some (.str L), some (.ref a), none] H4 :=
    fun x u k2 hx hu hdx hox hwx H4 e4 => ⟨_, rfl, q_ix 1 rfl (e4.sqT _ _ hx) rfl ⟨L, u, x, rfl, PatQ.ext e4 _ _ hu, hdx, hox, hwx, fun H5 e5 => q H5 (e4.trans e5)⟩⟩
  -- row, or, and
  have parts : ∀ (ps : List Pat) (b : Addr) (us : List V) (k2 : Str), SqT K H a [V.str k2, .ref b] → H b = some (.tup us) → PatsQ K H ps us → 2 ≤ ps.length → depL ps ≤ d → okL L ps → WdL ps → ps.length ≤ 1048576 → ∀ H4, Ext H H4 →
      tSeq (tIfS (tOr (tNot (tB (tCB (rIsi K) (tCons (tOp (rIxT K) (tVar 1) (tC (.int 1))) (tCons (tC (.ty "tuple")) tNil))))) (tTest (tOp (rI0 fun i j => .bl (decide (i < j))) (tCB (fun xs H Q => ∃ x n, xs = [x] ∧ LenV K x H n ∧ Q (.int n) H) (tCons (tOp (rIxT K) (tVar 1) (tC (.int 1))) tNil)) (tC (.int 2))))) (tRet (tC (.bl false))) tNext)
        (tRet (tCB (rAll K) (tCons (tLc (iTup K (tOp (rIxT K) (tVar 1) (tC (.int 1)))) (gName 2) tYes (tCall (spSp K d) [] E0 (tCons (tVar 0) (tCons (tVar 2) tNil))) [2]) tNil))) { nx := fun _ H' => Q .non H', rt := Q } [some (.str L), some (.ref a), none] H4 := by
    intro ps b us k2 hk2 hb hps h2 hdp hop hwp hlp H4 e4
    have hul := hps.len
    refine seq_fall (cond := False) (fun R _ qF => ?_) (fun h => h.elim) (fun _ H5 e5 => ?_)
    · refine q_ix 1 rfl (e4.sqT _ _ hk2) rfl ⟨.ref b, .ty "tuple", .type "tuple", .type "tuple", _, rfl, .ty _, ty_tup (SqT.of (e4.tup hb)), kn_tup (by decide), _, rfl, iffF rfl ?_⟩
      refine q_ix 1 rfl (e4.sqT _ _ hk2) rfl ⟨.ref b, _, rfl, .inr ⟨_, SqT.of (e4.tup hb), rfl⟩, _, _, rfl, rfl, _, rfl, ?_⟩
      rw [decide_eq_false (show ¬ ((us.length : Nat) : Int) < 2 by omega)]
      exact qF (fun h => h) H4 (Ext.refl _)
    have e45 := e4.trans e5
    refine ret_val ?_
    refine q_ix 1 rfl (e45.sqT _ _ hk2) rfl ⟨b, rfl, ⟨us, SqT.of (e45.tup hb)⟩, fun D hD => ?_⟩
    refine lc_tup (K := K) (a := b) (xs := us) (Built H5 D fun _ => .bl true) (Built.zero hD) (fun i H' _ s => SqT.of ((e45.trans s.1).tup hb)) ?_ ?_
    · intro i v H' hv bu
      obtain ⟨x, hx, hxv⟩ := hps.get hv
      have hm := List.mem_of_getElem? hx
      have hlt : i < ps.length := (List.getElem?_eq_some_iff.mp hx).1
      refine ⟨rfl, ?_⟩
      refine ⟨_, rfl, _, rfl, L, v, x, rfl, PatQ.ext (e45.trans bu.1) _ _ hxv, Nat.le_trans (dep_mem hm) hdp, okL_iff.mp hop x hm, WdL_iff.mp hwp x hm, fun H6 e6 => ?_⟩
      exact bu.next hD e6 rfl (by omega)
    · intro H' bu
      have hb2 := bu.2
      refine ⟨D, (List.range us.length).map fun _ => true, rfl, ?_, ?_⟩
      · rw [List.map_map]; exact SqL.of hb2
      · have : ((List.range us.length).map fun _ => true).all id = true := by rw [List.all_map, List.all_eq_true]; intro x _; rfl
        rw [this]
        exact q _ (e45.trans bu.1)
  cases p with
  | none => exact absurd (.inl rfl) h
  | empty => exact absurd (.inr rfl) h
  | sign c =>
    obtain ⟨a', ea, ha'⟩ := hp
    cases ea
    have ha3 := e13.sqT _ _ ha'
    refine t_seq (q_kT rfl ha3 (ret_val ?_))
    refine q_ix 1 rfl ha3 rfl ⟨.str ⟨#[c]⟩, .ty "str", .type "str", .type "str", _, rfl, .ty _, .base (.str _), kn_str (by decide), _, rfl, iffT rfl ?_⟩
    refine q_ix 1 rfl ha3 rfl ⟨.str ⟨#[c]⟩, 1, rfl, ⟨by show 1 ≤ sizeLine; omega, rfl⟩, rfl, _, rfl, iffT rfl ?_⟩
    refine q_ix 1 rfl ha3 rfl ⟨_, rfl, c, L, rfl, rfl, ?_⟩
    rw [decide_eq_true (show c ∈ L.cps.toList from hok)]
    exact q _ e13
  | many x =>
    obtain ⟨a', u, ea, ha', hu⟩ := hp
    cases ea
    have ha3 := e13.sqT _ _ ha'
    refine t_seq (q_kF rfl ha3 (by decide) (t_seq (q_inT ["many", "not"] rfl ha3 (by decide) fun b hb => ?_)))
    exact inner x u _ ha' hu (Nat.le_of_succ_le_succ hd) hok hwd _ (e13.trans (Ext.new hb))
  | not x =>
    obtain ⟨a', u, ea, ha', hu⟩ := hp
    cases ea
    have ha3 := e13.sqT _ _ ha'
    refine t_seq (q_kF rfl ha3 (by decide) (t_seq (q_inT ["many", "not"] rfl ha3 (by decide) fun b hb => ?_)))
    exact inner x u _ ha' hu (Nat.le_of_succ_le_succ hd) hok hwd _ (e13.trans (Ext.new hb))
  | row ps =>
    obtain ⟨a', b, us, ea, ha', hb, hps⟩ := hp
    cases ea
    have ha3 := e13.sqT _ _ ha'
    refine t_seq (q_kF rfl ha3 (by decide) (t_seq (q_inF ["many", "not"] rfl ha3 (by decide) fun c hc => ?_)))
    exact parts ps b us _ ha' hb hps hok.1 (Nat.le_of_succ_le_succ hd) hok.2 hwd.2 hwd.1 _ (e13.trans (Ext.new hc))
  | or ps =>
    obtain ⟨a', b, us, ea, ha', hb, hps⟩ := hp
    cases ea
    have ha3 := e13.sqT _ _ ha'
    refine t_seq (q_kF rfl ha3 (by decide) (t_seq (q_inF ["many", "not"] rfl ha3 (by decide) fun c hc => ?_)))
    exact parts ps b us _ ha' hb hps hok.1 (Nat.le_of_succ_le_succ hd) hok.2 hwd.2 hwd.1 _ (e13.trans (Ext.new hc))
  | and ps =>
    obtain ⟨a', b, us, ea, ha', hb, hps⟩ := hp
    cases ea
    have ha3 := e13.sqT _ _ ha'
    refine t_seq (q_kF rfl ha3 (by decide) (t_seq (q_inF ["many", "not"] rfl ha3 (by decide) fun c hc => ?_)))
    exact parts ps b us _ ha' hb hps hok.1 (Nat.le_of_succ_le_succ hd) hok.2 hwd.2 hwd.1 _ (e13.trans (Ext.new hc))
end
end Bo
set_option Elab.async false
set_option linter.all false
set_option maxRecDepth 100000
/-! stretches of a text and texts -/
namespace Bo
def sth (t : List Nat) (i j : Nat) : List Nat := (t.drop i).take (j - i)
theorem sth_len {t : List Nat} {i j : Nat} (h1 : i ≤ j) (h2 : j ≤ t.length) : (sth t i j).length = j - i := by
  unfold sth; rw [List.length_take, List.length_drop]; omega
theorem sth_self (t : List Nat) (i : Nat) : sth t i i = [] := by unfold sth; rw [Nat.sub_self, List.take_zero]
theorem sth_app {t : List Nat} {i j k : Nat} (h1 : i ≤ j) (h2 : j ≤ k) : sth t i j ++ sth t j k = sth t i k := by
  unfold sth
  have e : t.drop j = (t.drop i).drop (j - i) := by rw [List.drop_drop]; congr 1; omega
  rw [e, show k - i = (j - i) + (k - j) by omega, List.take_add]
theorem sth_cut {t u v : List Nat} {i k : Nat} (h1 : i ≤ k) (h2 : k ≤ t.length) (e : sth t i k = u ++ v) : i + u.length ≤ k ∧ u = sth t i (i + u.length) ∧ v = sth t (i + u.length) k := by
  have hl := sth_len h1 h2
  rw [e, List.length_append] at hl
  have hb : i + u.length ≤ k := by omega
  have e2 := sth_app (t := t) (Nat.le_add_right i u.length) hb
  rw [e] at e2
  have l1 := sth_len (t := t) (Nat.le_add_right i u.length) (Nat.le_trans hb h2)
  have := List.append_inj e2 (by omega)
  exact ⟨hb, this.1.symm, this.2.symm⟩
theorem sth_nil {t : List Nat} {i j : Nat} (h1 : i ≤ j) (h2 : j ≤ t.length) : sth t i j = [] ↔ i = j := by
  constructor
  · intro h
    have := sth_len h1 h2
    rw [h, List.length_nil] at this
    omega
  · rintro rfl; exact sth_self t i
theorem sth_one {t : List Nat} {i j c : Nat} (h1 : i ≤ j) (h2 : j ≤ t.length) : sth t i j = [c] ↔ t[i]? = some c ∧ j = i + 1 := by
  constructor
  · intro h
    have hl := sth_len h1 h2
    rw [h, List.length_singleton] at hl
    have hj : j = i + 1 := by omega
    subst hj
    unfold sth at h
    rw [Nat.add_sub_cancel_left, List.drop_eq_getElem_cons (by omega)] at h
    refine ⟨?_, rfl⟩
    rw [List.getElem?_eq_getElem (by omega)]
    exact congrArg some (List.cons.inj h).1
  · rintro ⟨h, rfl⟩
    obtain ⟨hl, e⟩ := List.getElem?_eq_some_iff.mp h
    unfold sth
    rw [Nat.add_sub_cancel_left, List.drop_eq_getElem_cons hl, e]
    rfl
theorem star_ks {t : List Nat} {R : Nat → Nat → Prop} {S : List Nat → Prop} (hb : ∀ i j, i ≤ t.length → R i j → i ≤ j ∧ j ≤ t.length) (hR : ∀ i j, i ≤ j → j ≤ t.length → (R i j ↔ S (sth t i j))) {i j : Nat} (hij : i ≤ j) (hj : j ≤ t.length) : Star R i j ↔ KS S (sth t i j) := by
  constructor
  · intro s
    have hi : i ≤ t.length := Nat.le_trans hij hj
    clear hij hj
    induction s with
    | refl i => rw [sth_self]; exact .nil
    | step r s ih =>
      rename_i a b c
      obtain ⟨h1, h2⟩ := hb _ _ hi r
      obtain ⟨h3, h4⟩ := star_bound hb s h2
      rw [← sth_app h1 h3]
      exact .app ((hR _ _ h1 h2).mp r) (ih h2)
  · intro s
    generalize e : sth t i j = w at s
    induction s generalizing i with
    | nil =>
      have := (sth_nil hij hj).mp e
      subst this; exact .refl _
    | app a s ih =>
      obtain ⟨h1, h2, h3⟩ := sth_cut hij hj e
      refine .step ((hR _ _ (Nat.le_add_right _ _) (Nat.le_trans h1 hj)).mpr (h2 ▸ a)) (ih h1 h3.symm)
mutual
theorem M_lg (t : List Nat) : ∀ (p : Pat) (i j : Nat), i ≤ j → j ≤ t.length → (M t p i j ↔ Lg p (sth t i j))
  | .none, i, j, _, _ => Iff.rfl
  | .empty, i, j, h1, h2 => (sth_nil h1 h2).symm
  | .sign c, i, j, h1, h2 => (sth_one h1 h2).symm
  | .row ps, i, j, h1, h2 => MR_lg t ps i j h1 h2
  | .or ps, i, j, h1, h2 => MO_lg t ps i j h1 h2
  | .and ps, i, j, h1, h2 => by
    show i ≤ j ∧ j ≤ t.length ∧ MAnd t ps i j ↔ LgA ps (sth t i j)
    rw [MA_lg t ps i j h1 h2]
    exact ⟨fun h => h.2.2, fun h => ⟨h1, h2, h⟩⟩
  | .many p, i, j, h1, h2 => star_ks (fun a b ha hab => M_bound t p a b ha hab) (fun a b ha hb => M_lg t p a b ha hb) h1 h2
  | .not p, i, j, h1, h2 => by
    show i ≤ j ∧ j ≤ t.length ∧ ¬ M t p i j ↔ ¬ Lg p (sth t i j)
    rw [M_lg t p i j h1 h2]
    exact ⟨fun h => h.2.2, fun h => ⟨h1, h2, h⟩⟩
theorem MR_lg (t : List Nat) : ∀ (ps : List Pat) (i j : Nat), i ≤ j → j ≤ t.length → (MRow t ps i j ↔ LgR ps (sth t i j))
  | [], i, j, h1, h2 => (sth_nil h1 h2).symm
  | p :: ps, i, j, h1, h2 => by
    show (∃ k, M t p i k ∧ MRow t ps k j) ↔ ∃ u v, sth t i j = u ++ v ∧ Lg p u ∧ LgR ps v
    constructor
    · rintro ⟨k, a, b⟩
      obtain ⟨h3, h4⟩ := M_bound t p i k (Nat.le_trans h1 h2) a
      obtain ⟨h5, h6⟩ := MRow_bound t ps k j h4 b
      exact ⟨sth t i k, sth t k j, (sth_app h3 h5).symm, (M_lg t p i k h3 h4).mp a, (MR_lg t ps k j h5 h6).mp b⟩
    · rintro ⟨u, v, e, a, b⟩
      obtain ⟨h3, h4, h5⟩ := sth_cut h1 h2 e
      exact ⟨i + u.length, (M_lg t p i _ (Nat.le_add_right _ _) (Nat.le_trans h3 h2)).mpr (h4 ▸ a), (MR_lg t ps _ j h3 h2).mpr (h5 ▸ b)⟩
theorem MO_lg (t : List Nat) : ∀ (ps : List Pat) (i j : Nat), i ≤ j → j ≤ t.length → (MOr t ps i j ↔ LgO ps (sth t i j))
  | [], i, j, _, _ => Iff.rfl
  | p :: ps, i, j, h1, h2 => or_congr (M_lg t p i j h1 h2) (MO_lg t ps i j h1 h2)
theorem MA_lg (t : List Nat) : ∀ (ps : List Pat) (i j : Nat), i ≤ j → j ≤ t.length → (MAnd t ps i j ↔ LgA ps (sth t i j))
  | [], i, j, _, _ => Iff.rfl
  | p :: ps, i, j, h1, h2 => and_congr (M_lg t p i j h1 h2) (MA_lg t ps i j h1 h2)
end
theorem M_whole (t : List Nat) (p : Pat) : M t p 0 t.length ↔ Lg p t := by
  rw [M_lg t p 0 t.length (Nat.zero_le _) (Nat.le_refl _)]
  unfold sth
  rw [List.drop_zero, Nat.sub_zero, List.take_length]
end Bo
set_option Elab.async false
set_option linter.all false
set_option maxRecDepth 100000
set_option maxHeartbeats 8000000
/-! what is left, looked at by the law -/
namespace Bo
open PySem PySem.Spec PyProof.Rows L2 GE StX
mutual
theorem sg_mono {P R : Nat → Prop} (h : ∀ c, P c → R c) : ∀ p : Pat, Sg P p → Sg R p
  | .none, _ => trivial
  | .empty, _ => trivial
  | .sign c, a => h c a
  | .row ps, a => sgL_mono h ps a
  | .or ps, a => sgL_mono h ps a
  | .and ps, a => sgL_mono h ps a
  | .many p, a => sg_mono h p a
  | .not p, a => sg_mono h p a
theorem sgL_mono {P R : Nat → Prop} (h : ∀ c, P c → R c) : ∀ ps : List Pat, SgL P ps → SgL R ps
  | [], _ => trivial
  | p :: ps, a => ⟨sg_mono h p a.1, sgL_mono h ps a.2⟩
end
mutual
theorem nf_ok {L : Str} : ∀ p : Pat, NF p → Sg (fun c => c ∈ cds L) p → p.ok L
  | .none, _, _ => trivial
  | .empty, _, _ => trivial
  | .sign c, _, a => a
  | .row ps, h, a => ⟨h.1, nfL_ok cR ps h.2.2 a⟩
  | .or ps, h, a => ⟨h.1, nfL_ok cO ps h.2 a⟩
  | .and ps, h, a => ⟨h.1, nfL_ok cA ps h.2 a⟩
  | .many p, h, a => nf_ok p h a
  | .not p, h, a => nf_ok p h a
theorem nfL_ok {L : Str} (c : Pat → Bool) : ∀ ps : List Pat, NFl c ps → SgL (fun c => c ∈ cds L) ps → okL L ps
  | [], _, _ => trivial
  | p :: ps, h, a => ⟨nf_ok p h.2.1 a.1, nfL_ok c ps h.2.2 a.2⟩
end
mutual
theorem ok_sg {L : Str} : ∀ p : Pat, p.ok L → Sg (fun c => c ∈ cds L) p
  | .none, _ => trivial
  | .empty, _ => trivial
  | .sign c, a => a
  | .row ps, a => okL_sg ps a.2
  | .or ps, a => okL_sg ps a.2
  | .and ps, a => okL_sg ps a.2
  | .many p, a => ok_sg p a
  | .not p, a => ok_sg p a
theorem okL_sg {L : Str} : ∀ ps : List Pat, okL L ps → SgL (fun c => c ∈ cds L) ps
  | [], _ => trivial
  | p :: ps, a => ⟨ok_sg p a.1, okL_sg ps a.2⟩
end
theorem good_low {L : Str} (h : goodS L = true) : ∀ c, c ∈ cds L → Low c := by
  intro c hc
  unfold goodS at h
  simp only [Bool.and_eq_true, decide_eq_true_eq, List.all_eq_true] at h
  have := h.1.2 c hc
  unfold Low
  omega
/-- what the law may ask of -/
structure Bd (L : Str) (k : Nat) (p : Pat) : Prop where
  dep : p.dep ≤ 30
  no : NoOk p
  be : BeOk k (normal p)
  wd : Wd p
  sg : Sg (fun c => c ∈ cds L) p
/-- what is left has the law's shape -/
theorem Bd.out {L : Str} {k : Nat} {p : Pat} (h : Bd L k p) (c : Nat) : (left p c).ok L ∧ Wd (left p c) ∧ (left p c).dep ≤ 26 ∧ NF (left p c) ∧ Hb k (left p c) ∧ dp (left p c) ≤ dp (normal p) + 1 := by
  have hs := left_sg c h.sg
  have hb := behind_hb h.be.k1 c (normal p) h.be.hb
  have hd := behind_dp c (normal p)
  have nf := left_nf p c
  refine ⟨nf_ok _ nf hs, wd_nf _ nf hb, ?_, nf, hb, hd⟩
  have h1 := nf_dep2 nf
  have h2 := h.be.d
  have h3 : dp (left p c) ≤ dp (normal p) + 1 := hd
  omega
/-- asked again of what is left -/
theorem Bd.again {L : Str} (hL : goodS L = true) {p : Pat} (h : Bd L 1 p) (hd : dp (normal p) ≤ 10) (c : Nat) : Bd L 0 (left p c) := by
  obtain ⟨h1, h2, h3, h4, h5, h6⟩ := h.out c
  have hs := left_sg c h.sg
  have low := sg_mono (good_low hL) _ hs
  refine ⟨by omega, .small 1 h5 h2 low (by omega), ⟨normal_nf _, normal_hb _ h5, by omega, normal_sg _ low, Nat.le_trans (normal_dp _) (by omega)⟩, h2, hs⟩
def spBd (K : PySem.W.Frag) (T : Tz) : Sp := fun vs H Q _ => ∃ (L : Str) (v : V) (p : Pat) (k c : Nat) (ta : Addr) (zs : List Str), vs = [.str L, v, .str ⟨#[c]⟩, .ref ta] ∧ goodS L = true ∧ PatQ K H p v ∧ Bd L k p ∧ SqL K H ta (zs.map V.str) ∧ (∀ z ∈ zs, (cds z).length ≤ 19) ∧ Tbl H T ∧
  ∀ H' u, Ext H H' → PatQ K H' (left p c) u → Q u H'
section
variable {P : Program} {w : World} {K : PySem.W.Frag} {mg : Str → Option Value} {base : Heap}
theorem sp_tower {f : Addr} {fd : FuncData} (St : Std K mg "_law_shaped" sLawShaped ["_law_letters_here", "_law_pattern"] f fd) (mi : mg "isinstance" = none) (mt : mg "tuple" = none) (ml : mg "len" = none) (ms : mg "str" = none) (ma : mg "all" = none) : ∀ d, FnOk P w K mg base CX0 d f fd ["_law_letters_here", "_law_pattern"] (spSp K d)
  | 0 => sp_none
  | d + 1 => sp_step St (sp_tower St mi mt ml ms ma d) mi mt ml ms ma
theorem scBd : FnScope ["_law_letters_here", "_law_pattern", "_law_sign", "_law_texts_here", "_law_found", "_law_text", "_law_told"] ["_law_letters_here", "_law_pattern", "_law_sign", "_law_texts_here"] (defScope sLawBehind) := ⟨rfl, rfl, rfl, by decide +kernel, rfl, by decide +kernel, by decide +kernel⟩
theorem bd_ok {f : Addr} {fd : FuncData} {T : Tz} (St : Std K mg "_law_behind" sLawBehind ["_law_letters_here", "_law_pattern", "_law_sign", "_law_texts_here"] f fd) (LF : Cal P w K mg base 163 "left" ["pattern", "sign"] [] (spLf K T)) (SP : Cal P w K mg base 30 "_law_shaped" ["_law_letters_here", "_law_pattern"] [] (spSp K 30))
    (FI : Cal P w K mg base 90 "_law_fit" ["_law_pattern", "_law_text"] [] (spLF K 40)) (EM : Cal P w K mg base 61 "empty" ["pattern"] [] (spTE K 30 T.te)) (mi : mg "isinstance" = none) (mb : mg "bool" = none) :
    FnOk P w K mg base CX0 164 f fd ["_law_letters_here", "_law_pattern", "_law_sign", "_law_texts_here"] (spBd K T) := by
  obtain ⟨f1, fd1, ds1, G1, b1, v1, k1, m1⟩ := LF
  obtain ⟨f2, fd2, ds2, G2, b2, v2, k2, m2⟩ := SP
  obtain ⟨f3, fd3, ds3, G3, b3, v3, k3, m3⟩ := FI
  obtain ⟨f4, fd4, ds4, G4, b4, v4, k4, m4⟩ := EM
  refine okD St.F scBd (fun vs H Q E h => ?_) (fun cdv A' outer s H vs Q E hr h => ?_)
  · obtain ⟨L, v, p, k, c, ta, zs, rfl, _⟩ := h
    rfl
  obtain ⟨L, v, p, kk, c, ta, zs, rfl, hL, hp, hB, hz, hzl, hT, q⟩ := h
  have hu := Nat.lt_of_le_of_lt (Nat.add_le_add_left (show 300 ≤ 16 * 163 + 200 by omega) _) (Nat.lt_of_le_of_lt (Nat.le_of_eq (Nat.add_assoc _ (16 * 163) 200).symm) hr.un)
  refine ⟨_, (pss_cons (ps_set (i := 4) scBd.nd rfl (Or.inl rfl) (pe_call G1 hr rfl m1 k1 b1 v1 pass0 (pa_cons (pv 1) (pa_cons (pv 2) pa_nil)))) (pss_cons (ps_if (PW.pt (pw_or (pt_not (pt_val (pe_call G2 (hr.mono (by decide)) rfl m2 k2 b2 v2 pass0 (pa_cons (pv 0) (pa_cons (pv 4) pa_nil))))) (pw_or1 (pt_cmpR (op_neQ hu) (pe_call G1 hr rfl m1 k1 b1 v1 pass0 (pa_cons (pv 1) (pa_cons (pv 2) pa_nil))) (pv 4) (by rfl))))) (pss_one (ps_ret pe_non)) pss_nil) (pss_cons (ps_for PassesOwn.never rfl (pi_list (pv 3)) (pg_name (i := 5) scBd.nd rfl (Or.inl rfl))
      (pss_one (ps_if (pt_cmpR op_ne (pe_call G3 (hr.mono (by decide)) rfl m3 k3 b3 v3 pass0 (pa_cons (pv 4) (pa_cons (pv 5) pa_nil))) (pe_call G3 (hr.mono (by decide)) rfl m3 k3 b3 v3 pass0 (pa_cons (pv 1) (pa_cons (pe_op op_add_str (pv 2) (pv 5)) pa_nil))) (by rfl)) (pss_one (ps_ret pe_non)) pss_nil))) (pss_cons (ps_set (i := 6) scBd.nd rfl (Or.inl rfl) (pe_call G4 (hr.mono (by decide)) rfl m4 k4 b4 v4 pass0 (pa_cons (pv 4) pa_nil))) (pss_cons (ps_if (PW.pt (pw_or (pt_not (pt_val (pe_callB call_isi rfl mi (by decide +kernel) (pa_cons (pv 6) (pa_cons (pe_bltn (v := .ty "bool") (u := .type "bool") rfl mb (by decide +kernel) rfl) pa_nil))))) (pw_or1 (pt_cmpR op_ne (pv 6) (pe_call G3 (hr.mono (by decide)) rfl m3 k3 b3 v3 pass0 (pa_cons (pv 4) (pa_cons pe_str pa_nil))) (by rfl))))) (pss_one (ps_ret pe_non)) pss_nil) (pss_one (ps_ret (pv 4)))))))), ?_⟩
  have sE : sizeLine = 16777216 := sizeLine_eq
  obtain ⟨ho1, ho2, ho3, ho4, ho5, ho6⟩ := hB.out c
  have hs := left_sg c hB.sg
  have low := sg_mono (good_low hL) _ hs
  refine t_set ⟨_, rfl, _, rfl, v, p, kk, c, rfl, hp, Nat.le_trans hB.dep (by decide), hB.no, hB.be, hT, fun H1 u1 e1 hu1 => ?_⟩
  refine seq_fall (cond := False) (fun R _ qF => ?_) (fun h => h.elim) (fun _ H2 e2 => ?_)
  · refine ⟨_, rfl, _, rfl, L, u1, left p c, rfl, hu1, by omega, ho1, ho2, fun H2 e2 => ⟨_, rfl, iffF rfl ?_⟩⟩
    refine ⟨_, rfl, _, rfl, v, p, kk, c, rfl, PatQ.ext (e1.trans e2) _ _ hp, Nat.le_trans hB.dep (by decide), hB.no, hB.be, hT.ext (e1.trans e2), fun H3 u3 e3 hu3 => ?_⟩
    refine ⟨_, rfl, left p c, left p c, hu3, PatQ.ext (e2.trans e3) _ _ hu1, low, low, by omega, _, rfl, ?_⟩
    rw [decide_eq_true rfl]
    exact qF (fun h => h) H3 (e2.trans e3)
  have e12 := e1.trans e2
  refine t_seq ⟨_, rfl, ta, rfl, ⟨_, e12.sqL hz⟩, ?_⟩
  have whole : ∀ (z : Str) (x : Pat) (b : Bool), (b = true ↔ M (cds z) x 0 (cds z).length) → (b = true ↔ Lg x (cds z)) := fun z x b h => h.trans (M_whole (cds z) x)
  refine for_list (K := K) (a := ta) (xs := zs.map V.str) (fun i σ' H' => ∃ o5, σ' = [some (.str L), some v, some (.str ⟨#[c]⟩), some (.ref ta), some u1, o5, none] ∧ Ext H2 H') ⟨none, rfl, Ext.refl _⟩ (fun i σ' H' _ ⟨_, _, e⟩ => (e12.trans e).sqL hz) ?_ ?_
  · rintro i y σ' H' hy ⟨o5, rfl, e⟩
    obtain ⟨z, hzi, rfl⟩ : ∃ z, zs[i]? = some z ∧ y = V.str z := by
      rw [List.getElem?_map] at hy
      cases h9 : zs[i]? with
      | none => rw [h9] at hy; cases hy
      | some z => rw [h9] at hy; exact ⟨z, rfl, (Option.some.inj hy).symm⟩
    have hzn := hzl z (List.mem_of_getElem? hzi)
    have hzz : z.length = (cds z).length := (cds_len z).symm
    refine ⟨_, rfl, _, rfl, u1, left p c, z, rfl, PatQ.ext (e2.trans e) _ _ hu1, by omega, ho2, by omega, fun H4 b4 e4 hb4 => ?_⟩
    refine ⟨_, rfl, _, rfl, _, rfl, ⟨#[c]⟩, z, rfl, rfl, ?_, ?_⟩
    · show 1 + z.length ≤ sizeLine
      omega
    refine ⟨v, p, ⟨#[c]⟩ ++ z, rfl, PatQ.ext (e12.trans (e.trans e4)) _ _ hp, Nat.le_trans hB.dep (by decide), hB.wd, ?_, fun H5 b5 e5 hb5 => ?_⟩
    · rw [cds_app, List.length_append]
      show 1 + (cds z).length ≤ 20
      omega
    have same : b4 = b5 := by
      rw [Bool.eq_iff_iff, whole z _ b4 hb4, whole _ _ b5 hb5, left_lg]
      rw [cds_app]; exact Iff.rfl
    refine ⟨rfl, _, rfl, iffF ?_ ⟨_, rfl, e.trans (e4.trans e5)⟩⟩
    rw [same, decide_eq_true rfl]; rfl
  · rintro σ' H' ⟨o5, rfl, e⟩
    dsimp only
    refine t_set ⟨_, rfl, u1, left p c, rfl, PatQ.ext (e2.trans e) _ _ hu1, by omega, (hT.ext (e12.trans e)).c.te, fun H4 e4 => ?_⟩
    have e14 := (e2.trans e).trans e4
    refine seq_fall (cond := False) (fun R _ qF => ?_) (fun h => h.elim) (fun _ H5 e5 => ?_)
    · refine ⟨_, rfl, .bl (nullb (left p c)), .ty "bool", .type "bool", .type "bool", true, rfl, .ty _, .base (.bl _), kit_ty (by decide +kernel), _, rfl, iffF rfl ?_⟩
      refine ⟨_, rfl, _, rfl, u1, left p c, "", rfl, PatQ.ext e14 _ _ hu1, by omega, ho2, by decide, fun H6 b6 e6 hb6 => ?_⟩
      have same : nullb (left p c) = b6 := by
        rw [Bool.eq_iff_iff, whole _ _ b6 hb6, null_iff]; exact Iff.rfl
      refine ⟨rfl, _, rfl, ?_⟩
      rw [same, decide_eq_true rfl]
      exact qF (fun h => h) H6 e6
    · exact ⟨_, rfl, q H5 u1 ((e12.trans e).trans (e4.trans e5)) (PatQ.ext (e14.trans e5) _ _ hu1)⟩
end
end Bo
set_option Elab.async false
set_option linter.all false
set_option maxRecDepth 100000
set_option maxHeartbeats 8000000
/-! the wide row -/
namespace Bo
open PySem PySem.Spec PyProof.Rows L2 GE StX
theorem call_max2m {X : Cx} (hc : X.calm = true) : CallR X (.builtin "max") (fun xs H Q => ∃ i j m, xs = [.int i, .int j] ∧ (if j > i then j else i) = m ∧ Q (.int m) H) := by
  intro pins s σ H xs us Q I r h
  obtain ⟨i, j, m, e, hm, q⟩ := h
  exact call_max2 hc pins s σ H xs us Q I r ⟨i, j, e, hm.symm ▸ q⟩
theorem pats_rep {H : Hp} {p : Pat} {v : V} (h : PatAt H p v) : ∀ n, PatsAt H (List.replicate n p) (List.replicate n v)
  | 0 => rfl
  | n + 1 => ⟨v, _, rfl, h, pats_rep h n⟩
theorem flat_one (v : V) : ∀ n, (List.replicate n [v]).flatten = List.replicate n v
  | 0 => rfl
  | n + 1 => by rw [List.replicate_succ, List.flatten_cons, flat_one v n]; rfl
theorem wide_n : ∀ s, s < 7 → 1 ≤ s → 2 < 40 / (1 + s) ∧ 40 / (1 + s) ≤ 20 := by decide +kernel
def spWi : Sp := fun vs H Q _ => ∃ (L : Str) (v : V) (p : Pat), vs = [.str L, v] ∧ PatAt H p v ∧ p.size ≤ 6 ∧ ∀ H' u n, Ext H H' → n < 20 → PatAt H' (.row (List.replicate (n + 1) (.many p))) u → Q u H'
section
variable {P : Program} {w : World} {K : PySem.W.Frag} {mg : Str → Option Value} {base : Heap}
theorem scWi : FnScope ["_law_letters_here", "_law_pattern"] ["_law_letters_here", "_law_pattern"] (defScope sLawWide) := ⟨rfl, rfl, rfl, by decide +kernel, rfl, by decide +kernel, by decide +kernel⟩
theorem wi_ok {f : Addr} {fd : FuncData} (St : Std K mg "_law_wide" sLawWide ["_law_letters_here", "_law_pattern"] f fd) (SZ : Cal P w K mg base 60 "_law_size" ["_law_pattern"] [] (spLS 60)) (mm : mg "max" = none) :
    FnOk P w K mg base CX0 61 f fd ["_law_letters_here", "_law_pattern"] spWi := by
  obtain ⟨f1, fd1, ds1, G1, b1, v1, k1, m1⟩ := SZ
  refine okD St.F scWi (fun vs H Q E h => ?_) (fun cdv A' outer s H vs Q E hr h => ?_)
  · obtain ⟨L, v, p, rfl, _⟩ := h
    rfl
  obtain ⟨L, v, p, rfl, hp, hs, q⟩ := h
  refine ⟨_, (pss_one (ps_ret (pe_tup (pa_cons pe_str (pa_cons (pe_op op_repT (pe_tup (pa_cons (pe_tup (pa_cons pe_str (pa_cons (pv 1) pa_nil))) pa_nil)) (pe_callB (call_max2m rfl) rfl mm boot_max (pa_cons pe_int (pa_cons (pe_op op_fdiv pe_int (pe_op op_add pe_int (pe_call G1 hr rfl m1 k1 b1 v1 pass0 (pa_cons (pv 1) pa_nil)))) pa_nil)))) pa_nil))))), ?_⟩
  obtain ⟨w1, w2⟩ := wide_n p.size (by omega) (size_pos p)
  refine ⟨_, rfl, show 2 ≤ sizeLine by decide, fun p1 x1 => ⟨show 1 ≤ sizeLine by decide, fun p2 x2 => ?_⟩⟩
  have e1 := Ext.new (o := .tup [V.str "many", v]) x1
  have e2 := Ext.new (o := .tup [V.ref p1]) x2
  have e12 := e1.trans e2
  refine ⟨_, rfl, v, p, rfl, PatAt.ext e12 _ _ hp, Nat.le_trans (dep_le_size p) (by omega), by omega, fun H3 e3 => ?_⟩
  refine ⟨_, _, rfl, rfl, _, _, rfl, rfl, ⟨?_, ?_⟩, _, _, ((40 / (1 + p.size) : Nat) : Int), rfl, ?_, ?_⟩
  · omega
  · show (1 : Int) + ((p.size : Nat) : Int) < 1073741824
    omega
  · have e9 : (40 : Int) / (1 + ((p.size : Nat) : Int)) = ((40 / (1 + p.size) : Nat) : Int) := by
      rw [show (1 : Int) + ((p.size : Nat) : Int) = ((1 + p.size : Nat) : Int) by omega, show (40 : Int) = ((40 : Nat) : Int) from rfl, ← Int.natCast_ediv]
    rw [e9, if_pos (by omega)]
  refine ⟨p2, _, [V.ref p1], rfl, rfl, SqT.of (e3.tup upd_same), by simp, by omega, by omega, (show 1 ≤ 1000 by decide), fun p4 x4 => ⟨show 2 ≤ sizeLine by decide, fun p5 x5 => ?_⟩⟩
  have e4 := Ext.new (o := .tup (List.replicate (((40 / (1 + p.size) : Nat) : Int)).toNat [V.ref p1]).flatten) x4
  have e5 := Ext.new (o := .tup [V.str "row", V.ref p4]) x5
  obtain ⟨n, hn⟩ : ∃ n, 40 / (1 + p.size) = n + 1 := ⟨40 / (1 + p.size) - 1, by omega⟩
  refine q _ _ n ((e12.trans e3).trans (e4.trans e5)) (by omega) ⟨p5, p4, _, rfl, upd_same, e5.tup upd_same, ?_⟩
  rw [Int.toNat_natCast, flat_one, hn]
  refine pats_rep ?_ (n + 1)
  exact ⟨p1, v, rfl, (e2.trans (e3.trans (by rw [Int.toNat_natCast, flat_one, hn] at e4 e5; exact e4.trans e5))).tup upd_same, PatAt.ext (e12.trans (e3.trans (by rw [Int.toNat_natCast, flat_one, hn] at e4 e5; exact e4.trans e5))) _ _ hp⟩
end
end Bo
set_option Elab.async false
set_option linter.all false
set_option maxRecDepth 100000
set_option maxHeartbeats 8000000
/-! the law -/
namespace Bo
open PySem PySem.Spec PyProof.Rows L2 GE StX
mutual
theorem patQ_of {K : PySem.W.Frag} {H : Hp} : ∀ {p : Pat} {v : V}, PatAt H p v → PatQ K H p v
  | .none, _, ⟨a, e, h⟩ => ⟨a, e, SqT.of h⟩
  | .empty, _, ⟨a, e, h⟩ => ⟨a, e, SqT.of h⟩
  | .sign _, _, ⟨a, e, h⟩ => ⟨a, e, SqT.of h⟩
  | .row _, _, ⟨a, b, vs, e, h, hb, hp⟩ => ⟨a, b, vs, e, SqT.of h, hb, patsQ_of hp⟩
  | .or _, _, ⟨a, b, vs, e, h, hb, hp⟩ => ⟨a, b, vs, e, SqT.of h, hb, patsQ_of hp⟩
  | .and _, _, ⟨a, b, vs, e, h, hb, hp⟩ => ⟨a, b, vs, e, SqT.of h, hb, patsQ_of hp⟩
  | .many _, _, ⟨a, u, e, h, hp⟩ => ⟨a, u, e, SqT.of h, patQ_of hp⟩
  | .not _, _, ⟨a, u, e, h, hp⟩ => ⟨a, u, e, SqT.of h, patQ_of hp⟩
theorem patsQ_of {K : PySem.W.Frag} {H : Hp} : ∀ {ps : List Pat} {vs : List V}, PatsAt H ps vs → PatsQ K H ps vs
  | [], _, h => h
  | _ :: _, _, ⟨v, r, e, a, b⟩ => ⟨v, r, e, patQ_of a, patsQ_of b⟩
end
mutual
theorem dp_ok {L : Str} : ∀ p : Pat, p.ok L → dp p + 1 ≤ p.size
  | .none, _ => Nat.le_refl _
  | .empty, _ => Nat.le_refl _
  | .sign _, _ => Nat.le_refl _
  | .row ps, h => by
    have h1 := dpL_ok ps h.2 (by have := h.1; omega)
    show dpL ps + 1 + 1 ≤ sizeL ps + 1
    omega
  | .or ps, h => by
    have h1 := dpL_ok ps h.2 (by have := h.1; omega)
    show dpL ps + 1 ≤ sizeL ps + 1
    omega
  | .and ps, h => by
    have h1 := dpL_ok ps h.2 (by have := h.1; omega)
    show dpL ps + 1 + 1 ≤ sizeL ps + 1
    omega
  | .many p, h => Nat.succ_le_succ (dp_ok p h)
  | .not p, h => Nat.succ_le_succ (dp_ok p h)
theorem dpL_ok {L : Str} : ∀ ps : List Pat, okL L ps → 1 ≤ ps.length → dpL ps + 1 ≤ sizeL ps
  | [], _, h => absurd h (by decide)
  | [p], h, _ => by
    have := dp_ok p h.1
    show max (dp p) 0 + 1 ≤ p.size + 0
    omega
  | p :: q :: ps, h, _ => by
    have h1 := dp_ok p h.1
    have h2 := dpL_ok (q :: ps) h.2 (by simp)
    have := size_pos p
    show max (dp p) (dpL (q :: ps)) + 1 ≤ p.size + sizeL (q :: ps)
    omega
end
/-- a drawn pattern may be asked of -/
theorem Bd.drawn {L : Str} (hL : goodS L = true) {p : Pat} (ho : p.ok L) (hs : p.size ≤ 11) : Bd L 1 p ∧ dp (normal p) ≤ 10 := by
  have hd := dp_ok p ho
  have hb := hb_size p hs
  have sg := ok_sg p ho
  have low := sg_mono (good_low hL) p sg
  have wd := wd_size p (by omega)
  have nd := normal_dp p
  exact ⟨⟨Nat.le_trans (dep_le_size p) (by omega), .small 2 hb wd low (by omega), ⟨normal_nf p, normal_hb p hb, Nat.le_refl _, normal_sg p low, by omega⟩, wd, sg⟩, by omega⟩
theorem normal_wide (x : Pat) (n : Nat) : normal (.row (List.replicate (n + 1) (.many x))) = normal (.many x) := by
  have e : normal (.row (List.replicate (n + 1) (.many x))) = rowOf (normals (List.replicate (n + 1) (.many x))) := by rw [normal]
  have e2 : normal (.many x) = manyOf (normal x) := by rw [normal]
  rw [e, normals_map, List.map_replicate, e2]
  exact (wide_row (manyOf_cases (normal x)) n).1
/-- the wide row may be asked of -/
theorem Bd.wide {L : Str} (hL : goodS L = true) {x : Pat} (ho : x.ok L) (hs : x.size ≤ 6) {n : Nat} (hn : n < 20) : Bd L 1 (.row (List.replicate (n + 1) (.many x))) ∧ dp (normal (.row (List.replicate (n + 1) (.many x)))) ≤ 10 := by
  have ho' : Pat.ok L (.many x) := ho
  obtain ⟨h, hd⟩ := Bd.drawn hL ho' (show x.size + 1 ≤ 11 by omega)
  have hb : Hb 2 (.many x) := hb_size (.many x) (show x.size + 1 ≤ 11 by omega)
  rw [normal_wide]
  refine ⟨⟨?_, .wide 2 n x hn hb h.wd (sg_mono (good_low hL) x h.sg) ?_, by rw [normal_wide]; exact h.be, ?_, ?_⟩, hd⟩
  · have : depL (List.replicate (n + 1) (Pat.many x)) ≤ x.dep + 1 := by
      clear hn
      induction n with
      | zero => exact Nat.max_le.mpr ⟨Nat.le_refl _, Nat.zero_le _⟩
      | succ n ih => exact Nat.max_le.mpr ⟨Nat.le_refl _, ih⟩
    have := dep_le_size x
    show depL _ + 1 ≤ 30
    omega
  · have := dp_ok x ho
    show dp x + 1 ≤ 13
    omega
  · exact ⟨by rw [List.length_replicate]; omega, WdL_iff.mpr fun q a => by rw [List.eq_of_mem_replicate a]; exact h.wd⟩
  · exact SgL_iff.mpr fun q a => by rw [List.eq_of_mem_replicate a]; exact h.sg
theorem m_of5 {L : Str} (h : goodS L = true) : ∃ m, m ≤ 4 ∧ atI [V.int 4, .int 4, .int 3, .int 2, .int 2] ((L.length : Nat) : Int) = Option.some (nV m) := by
  obtain ⟨h1, h4⟩ := good_len h
  have : L.length = 1 ∨ L.length = 2 ∨ L.length = 3 ∨ L.length = 4 := by
    have : L.length = L.cps.size := rfl
    omega
  rcases this with h | h | h | h <;> rw [h]
  · exact ⟨4, by omega, rfl⟩
  · exact ⟨3, by omega, rfl⟩
  · exact ⟨2, by omega, rfl⟩
  · exact ⟨2, by omega, rfl⟩
theorem cut_ints {ns : List Int} (lo hi : Option Int) : ∃ ms : List Int, cutV (ns.map V.int) lo hi = ms.map V.int ∧ ms.length ≤ ns.length := by
  refine ⟨(ns.drop (HT.sIx (ns.map V.int).length 0 lo)).take (HT.sIx (ns.map V.int).length (ns.map V.int).length hi - HT.sIx (ns.map V.int).length 0 lo), ?_, ?_⟩
  · unfold cutV; rw [← List.map_drop, ← List.map_take]
  · rw [List.length_take, List.length_drop]; omega
theorem cut_strs {zs : List Str} (lo hi : Option Int) : ∃ ys : List Str, cutV (zs.map V.str) lo hi = ys.map V.str ∧ ∀ y ∈ ys, y ∈ zs := by
  refine ⟨(zs.drop (HT.sIx (zs.map V.str).length 0 lo)).take (HT.sIx (zs.map V.str).length (zs.map V.str).length hi - HT.sIx (zs.map V.str).length 0 lo), ?_, fun y hy => List.mem_of_mem_drop (List.mem_of_mem_take hy)⟩
  unfold cutV; rw [← List.map_drop, ← List.map_take]
theorem cutS_mem {z : Str} {lo hi : Option Int} {c : Nat} (h : c ∈ cds (cutS z lo hi)) : c ∈ cds z := by
  have : c ∈ (z.cps.toList.drop (HT.sIx z.length 0 lo)).take (HT.sIx z.length z.length hi - HT.sIx z.length 0 lo) := h
  exact List.mem_of_mem_drop (List.mem_of_mem_take this)
theorem for_str {g : TG} {tb : TS} {D : Ends} {σ : L2.St} {H : Hp} {x : Str} (Pv : Nat → L2.St → Hp → Prop) (h0 : Pv 0 σ H)
    (hs : ∀ (i c : Nat) (σ : L2.St) (H : Hp), x.cps[i]? = some c → Pv i σ H → g (.str ⟨#[c]⟩) σ H fun σ2 H2 => tb { D with nx := Pv (i + 1), ct := Pv (i + 1), bk := D.nx } σ2 H2) (hd : ∀ σ H, Pv x.cps.size σ H → D.nx σ H) :
    ∃ W : Nat → Nat → L2.St → Hp → Prop, (∃ m, W 0 m σ H) ∧ ∀ i m σ H, W i m σ H →
      ((Its x).stop i H ∧ D.nx σ H) ∨ ((Its x).go i H ∧ ∃ N : L2.St → Hp → Prop, (∀ σ' H', N σ' H' → ∃ m', m' < m ∧ W (i + 1) m' σ' H') ∧ ∀ v H', (Its x).yld i H v H' → g v σ H' fun σ2 H2 => tb { D with nx := N, ct := N, bk := D.nx } σ2 H2) := by
  refine ⟨fun i m σ H => m = x.cps.size - i ∧ i ≤ x.cps.size ∧ Pv i σ H, ⟨x.cps.size, rfl, Nat.zero_le _, h0⟩, ?_⟩
  rintro i m σ H ⟨rfl, hi, p⟩
  by_cases hlt : i < x.cps.size
  · refine .inr ⟨hlt, Pv (i + 1), fun σ' H' p' => ⟨x.cps.size - (i + 1), by omega, rfl, hlt, p'⟩, fun v H' y => ?_⟩
    obtain ⟨e, c, hc, rfl⟩ := y
    subst e
    exact hs i c σ H' hc p
  · have e : i = x.cps.size := by omega
    subst e
    exact .inl ⟨Nat.le_refl _, hd σ H p⟩
theorem seq_fallP {c : TT} {t rest : TS} {D : Ends} {σ : L2.St} {H : Hp} {cond : Prop} (Pr : L2.St → Hp → Prop) (hc : ∀ Q : Bool → Hp → Prop, (cond → ∀ H1, Ext H H1 → Q true H1) → (¬ cond → ∀ H1, Ext H H1 → Q false H1) → c σ H Q)
    (h0 : ∀ H1, Ext H H1 → Pr σ H1) (ht : cond → ∀ H1, Ext H H1 → ∀ nx : L2.St → Hp → Prop, (∀ σ' H', Pr σ' H' → nx σ' H') → t { D with nx := nx } σ H1) (hr : ∀ σ' H', Pr σ' H' → rest D σ' H') : tSeq (tIfS c t tNext) rest D σ H :=
  hc _ (fun k H1 e => iffT rfl (ht k H1 e _ hr)) (fun k H1 e => iffF rfl (hr _ _ (h0 H1 e)))
def spLw (K : PySem.W.Frag) (T : Tz) : Sp := fun vs H Q _ => ∃ (a : Addr) (ns : List Int), vs = [.ref a] ∧ ns.length ≤ 63 ∧ SqL K H a (ns.map V.int) ∧ Tbl H T ∧ ∀ H', Q (.bl true) H'
section
variable {P : Program} {w : World} {K : PySem.W.Frag} {mg : Str → Option Value} {base : Heap}
theorem scLw : FnScope ["_law_script", "_law_letters_here", "_law_pattern", "_law_texts_here", "_law_second", "_law_signs", "_law_sign", "_law_found"] ["_law_script"] (defScope sLaw) := ⟨rfl, rfl, rfl, by decide +kernel, rfl, by decide +kernel, by decide +kernel⟩
theorem law_ok {f : Addr} {fd : FuncData} {T : Tz} (St : Std K mg "law" sLaw ["_law_script"] f fd)
    (CA : Cal P w K mg base 1 "_law_cell_at" ["_law_script", "_law_k"] [] (spCA K)) (LT : Cal P w K mg base 1 "_law_letters" ["_law_cell"] [] spLt) (DR : Cal P w K mg base 61 "_law_drawn" ["_law_letters_here", "_law_cells", "_law_most"] [] (spDr K))
    (TS : Cal P w K mg base 1 "_law_texts" ["_law_letters_here", "_law_most"] [] spTs) (WI : Cal P w K mg base 61 "_law_wide" ["_law_letters_here", "_law_pattern"] [] spWi) (BD : Cal P w K mg base 164 "_law_behind" ["_law_letters_here", "_law_pattern", "_law_sign", "_law_texts_here"] [] (spBd K T))
    (ml : mg "len" = none) : FnOk P w K mg base CX0 165 f fd ["_law_script"] (spLw K T) := by
  obtain ⟨f1, fd1, ds1, G1, b1, v1, k1, m1⟩ := CA
  obtain ⟨f2, fd2, ds2, G2, b2, v2, k2, m2⟩ := LT
  obtain ⟨f3, fd3, ds3, G3, b3, v3, k3, m3⟩ := DR
  obtain ⟨f4, fd4, ds4, G4, b4, v4, k4, m4⟩ := TS
  obtain ⟨f5, fd5, ds5, G5, b5, v5, k5, m5⟩ := WI
  obtain ⟨f6, fd6, ds6, G6, b6, v6, k6, m6⟩ := BD
  refine okD St.F scLw (fun vs H Q E h => ?_) (fun cdv A' outer s H vs Q E hr h => ?_)
  · obtain ⟨a, ns, rfl, _⟩ := h
    rfl
  obtain ⟨a, ns, rfl, hns, hS, hT, q⟩ := h
  have r1 : Room 1 _ := hr.mono (show 1 ≤ 164 by decide)
  have r61 : Room 61 _ := hr.mono (show 61 ≤ 164 by decide)
  refine ⟨_, (pss_cons (ps_set (i := 1) scLw.nd rfl (Or.inl rfl) (pe_call G2 r1 rfl m2 k2 b2 v2 pass0 (pa_cons (pe_call G1 r1 rfl m1 k1 b1 v1 pass0 (pa_cons (pv 0) (pa_cons pe_int pa_nil))) pa_nil))) (pss_cons (ps_set (i := 2) scLw.nd rfl (Or.inl rfl) (pe_call G3 r61 rfl m3 k3 b3 v3 pass0 (pa_cons (pv 1) (pa_cons (pe_slice sl_list (pv 0) (po_some pe_int) (po_some pe_int)) (pa_cons pe_int pa_nil))))) (pss_cons (ps_set (i := 3) scLw.nd rfl (Or.inl rfl) (pe_call G4 r1 rfl m4 k4 b4 v4 pass0 (pa_cons (pv 1) (pa_cons (pe_ix ix_list (pe_lst (pa_cons pe_int (pa_cons pe_int (pa_cons pe_int (pa_cons pe_int (pa_cons pe_int pa_nil)))))) (pe_callB call_len rfl ml PySem.boot_len (pa_cons (pv 1) pa_nil)) (fun _ _ => rfl)) pa_nil)))) (pss_cons (ps_set (i := 4) scLw.nd rfl (Or.inl rfl) (pe_ix ix_str (pv 1) (pe_op op_mod (pe_call G1 r1 rfl m1 k1 b1 v1 pass0 (pa_cons (pv 0) (pa_cons pe_int pa_nil))) (pe_callB call_len rfl ml PySem.boot_len (pa_cons (pv 1) pa_nil))) (fun _ _ => rfl))) (pss_cons (ps_set (i := 5) scLw.nd rfl (Or.inl rfl) (pv 1)) (pss_cons (ps_if (pt_cmpR op_eq (pe_op op_mod (pe_call G1 r1 rfl m1 k1 b1 v1 pass0 (pa_cons (pv 0) (pa_cons pe_int pa_nil))) pe_int) pe_int (nomark _))
      (pss_cons (ps_set (i := 2) scLw.nd rfl (Or.inl rfl) (pe_call G5 r61 rfl m5 k5 b5 v5 pass0 (pa_cons (pv 1) (pa_cons (pe_call G3 r61 rfl m3 k3 b3 v3 pass0 (pa_cons (pv 1) (pa_cons (pe_slice sl_list (pv 0) (po_some pe_int) (po_some pe_int)) (pa_cons pe_int pa_nil)))) pa_nil)))) (pss_cons (ps_set (i := 3) scLw.nd rfl (Or.inl rfl) (pe_slice sl_list (pv 3) po_none (po_some (pe_op op_add pe_int (pe_callB call_len rfl ml PySem.boot_len (pa_cons (pv 1) pa_nil)))))) (pss_one (ps_set (i := 5) scLw.nd rfl (Or.inl rfl) (pe_slice sl_str (pv 1) po_none (po_some pe_int)))))) pss_nil) (pss_cons (ps_for PassesOwn.never rfl (pi_str (pv 5)) (pg_name (i := 6) scLw.nd rfl (Or.inl rfl))
      (pss_cons (ps_set (i := 7) scLw.nd rfl (Or.inl rfl) (pe_call G6 hr rfl m6 k6 b6 v6 pass0 (pa_cons (pv 1) (pa_cons (pv 2) (pa_cons (pv 6) (pa_cons (pv 3) pa_nil)))))) (pss_one (ps_if (PW.pt (pw_or (pt_cmpR op_isN (pv 7) pe_non (by rfl)) (pw_or1 (pt_cmpR op_isN (pe_call G6 hr rfl m6 k6 b6 v6 pass0 (pa_cons (pv 1) (pa_cons (pv 7) (pa_cons (pv 4) (pa_cons (pv 3) pa_nil))))) pe_non (by rfl))))) (pss_one (ps_ret pe_bl)) pss_nil)))) (pss_one (ps_ret pe_bl))))))))), ?_⟩
  have sE : sizeLine = 16777216 := sizeLine_eq
  have sq : ∀ H', Ext H H' → SqL K H' a (ns.map V.int) := fun H' e => e.sqL hS
  refine t_set ⟨_, rfl, a, ns, 0, rfl, hS, _, rfl, fun H1 e1 => ?_⟩
  have hL := lets_good (ns.getD 0 0)
  generalize lets (ns.getD 0 0) = L at hL ⊢
  obtain ⟨hL1, hL4⟩ := good_len hL
  have hlL : L.length ≤ sizeLine := Nat.le_trans hL4 (by decide)
  have lenL : 0 < ((L.length : Nat) : Int) := by show (0 : Int) < ((L.cps.size : Nat) : Int); omega
  obtain ⟨ms, hms, hml⟩ := cut_ints (ns := ns) (some 1) (some 13)
  refine t_set ⟨_, rfl, _, rfl, _, rfl, _, rfl, a, _, rfl, sq H1 e1, fun p1 x1 => ⟨L, p1, ms, 11, rfl, by decide, by decide, hL, SqL.of (by rw [upd_same, hms]), by omega, fun v p H2 e2 hp ho hs => ?_⟩⟩
  have f2 : Ext H H2 := (e1.trans (Ext.new x1)).trans e2
  obtain ⟨m, hm4, hm⟩ := m_of5 hL
  refine t_set ⟨_, rfl, (by show 5 ≤ sizeLine; omega), fun p2 x2 => ⟨_, rfl, .str L, _, rfl, ⟨hlL, rfl⟩, p2, _, _, nV m, rfl, rfl, SqL.of upd_same, hm, L, m, rfl, hL, hm4, fun r H3 zs nr e3 hr3 hzl hzo hz0 => ?_⟩⟩
  have t2 := Ext.new (o := .lst [V.int 4, .int 4, .int 3, .int 2, .int 2]) x2
  have f3 : Ext H H3 := f2.trans (t2.trans e3)
  obtain ⟨j, hj, ej⟩ := idx_mod hL (ns.getD 13 0)
  refine t_set ⟨_, rfl, _, rfl, a, ns, 13, rfl, sq H3 f3, _, rfl, .str L, _, rfl, ⟨hlL, rfl⟩, _, _, rfl, rfl, lenL, L, _, (cds L)[j], rfl, rfl, hlL, by rw [ej]; exact atI_nat (List.getElem?_eq_getElem hj), ?_⟩
  have hc2 : (cds L)[j] ∈ cds L := List.getElem_mem hj
  generalize (cds L)[j] = c2 at hc2 ⊢
  refine t_set ⟨_, rfl, ?_⟩
  -- the look at one sign after another
  refine seq_fallP (cond := ns.getD 14 0 % 4 = 1) (fun σ' H' => ∃ (v : V) (p : Pat) (ta : Addr) (ys : List Str) (S : Str), σ' = [some (.ref a), some (.str L), some v, some (.ref ta), some (.str ⟨#[c2]⟩), some (.str S), none, none] ∧ Ext H H' ∧ PatQ K H' p v ∧ Bd L 1 p ∧ dp (normal p) ≤ 10 ∧ H' ta = some (.lst (ys.map V.str)) ∧ (∀ y ∈ ys, (cds y).length ≤ 19) ∧ ∀ c ∈ cds S, c ∈ cds L)
    (fun R qT qF => ?_) (fun H4 e4 => ?_) (fun hcond H4 e4 nx hnx => ?_) ?_
  · refine ⟨_, rfl, a, ns, 14, rfl, sq H3 f3, _, _, rfl, rfl, show (0 : Int) < 4 by decide, rfl, _, rfl, ?_⟩
    rw [dec_int]
    by_cases h : ns.getD 14 0 % 4 = 1
    · rw [show (ns.getD 14 0 % 4 == 1) = true from beq_iff_eq.mpr h]; exact qT h H3 (Ext.refl _)
    · rw [show (ns.getD 14 0 % 4 == 1) = false from beq_eq_false_iff_ne.mpr h]; exact qF h H3 (Ext.refl _)
  · obtain ⟨hB, hd⟩ := Bd.drawn hL ho hs
    exact ⟨v, p, r, zs, L, rfl, f3.trans e4, patQ_of (PatAt.ext ((t2.trans e3).trans e4) _ _ hp), hB, hd, e4.lst hr3, fun y hy => Nat.le_trans (by rw [cds_len]; exact (hzo y hy).1) (by decide), fun c h => h⟩
  · have f4 := f3.trans e4
    refine t_set ⟨_, rfl, _, rfl, _, rfl, _, rfl, _, rfl, a, _, rfl, sq H4 f4, fun p5 x5 => ⟨L, p5, ms, 6, rfl, by decide, by decide, hL, SqL.of (by rw [upd_same, hms]), by omega, fun v5 q5 H5 e5 hq5 ho5 hs5 => ?_⟩⟩
    have g5 : Ext H4 H5 := (Ext.new x5).trans e5
    refine ⟨L, v5, q5, rfl, hq5, hs5, fun H6 u n e6 hn hu => ?_⟩
    have g6 := g5.trans e6
    obtain ⟨hB, hd⟩ := Bd.wide hL ho5 hs5 hn
    obtain ⟨ys, hys, hyz⟩ := cut_strs (zs := zs) none (some (1 + ((L.length : Nat) : Int)))
    refine t_set ⟨_, rfl, _, rfl, .str L, _, rfl, ⟨hlL, rfl⟩, _, _, rfl, rfl, _, rfl, r, _, rfl, SqL.of (g6.lst (e4.lst hr3)), fun p7 x7 => ?_⟩
    have e7 := Ext.new (o := .lst (cutV (zs.map V.str) none (some (1 + ((L.length : Nat) : Int))))) x7
    refine ⟨_, rfl, _, rfl, L, rfl, hlL, hnx _ _ ⟨u, _, p7, ys, cutS L none (some 1), rfl, (f4.trans g6).trans e7, patQ_of (PatAt.ext e7 _ _ hu), hB, hd, by rw [upd_same, hys], fun y hy => Nat.le_trans (by rw [cds_len]; exact (hzo y (hyz y hy)).1) (by decide), fun c h => cutS_mem h⟩⟩
  · rintro σ' H4 ⟨v, p, ta, ys, S, rfl, f4, hpv, hB, hd, hta, hyl, hSL⟩
    refine t_seq ⟨_, rfl, S, rfl, ?_⟩
    refine for_str (fun i σ' H' => ∃ o6 o7, σ' = [some (.ref a), some (.str L), some v, some (.ref ta), some (.str ⟨#[c2]⟩), some (.str S), o6, o7] ∧ Ext H4 H') ⟨none, none, rfl, Ext.refl _⟩ ?_ ?_
    · rintro i c σ' H5 hc ⟨o6, o7, rfl, e5⟩
      have hcS : c ∈ cds S := List.mem_of_getElem? (by rw [← hc]; exact Array.getElem?_toList)
      have f5 := f4.trans e5
      refine t_set ⟨_, rfl, _, rfl, _, rfl, _, rfl, L, v, p, 1, c, ta, ys, rfl, hL, PatQ.ext e5 _ _ hpv, hB, SqL.of (e5.lst hta), hyl, hT.ext f5, fun H6 u6 e6 hu6 => ?_⟩
      have hu6' := hu6
      obtain ⟨z6, xs6, rfl, _⟩ := hu6'.hd
      refine ⟨_, rfl, rfl, _, rfl, iffF rfl ?_⟩
      refine ⟨_, rfl, _, rfl, _, rfl, _, rfl, L, _, left p c, 0, c2, ta, ys, rfl, hL, hu6, hB.again hL hd c, SqL.of (e6.lst (e5.lst hta)), hyl, hT.ext (f5.trans e6), fun H7 u7 e7 hu7 => ?_⟩
      obtain ⟨z7, xs7, rfl, _⟩ := hu7.hd
      exact ⟨rfl, _, rfl, iffF rfl ⟨_, _, rfl, e5.trans (e6.trans e7)⟩⟩
    · rintro σ' H5 ⟨o6, o7, rfl, e5⟩
      exact q H5
end
end Bo
set_option Elab.async false
set_option linter.all false
set_option maxRecDepth 100000
set_option maxHeartbeats 0
namespace Bo
open PySem PySem.Spec PyProof.Rows L2 GE StX
theorem code_is {K : PySem.W.Frag} {x : Str} {st : Stmt} {dv : List V} {fd : FuncData} (F : FunD K x x (defArgs st) (defBody st) (defScope st) dv [] (He.ga K x) fd) : fd.code = .ref (He.codeOf K (x, none)) := by
  obtain ⟨oc, od, dV, kV, doc, pm, an, cdv, ct, osl, e, lk, hcd, _, _⟩ := F.ex
  obtain ⟨c, hc⟩ := He.codeIn_ref hcd
  subst e
  subst hc
  exact congrArg Value.ref (He.codeOf_eq (p := (x, none)) lk rfl).symm
theorem ex_at {K : PySem.W.Frag} (h : ex K = true) (i : Nat) {b : Bool} (e : (exT K)[i]? = some b) : b = true := by
  unfold ex at h
  exact List.all_eq_true.mp h b (List.mem_of_getElem? e)
theorem vals_str : ∀ {us : List Value} {zs : List Str}, us.map (fun u => match u with | .str z _ => some z | _ => none) = zs.map some → Vals (zs.map V.str) us
  | [], [], _ => .nil
  | [], _ :: _, h => by cases h
  | _ :: _, [], h => by cases h
  | u :: us, z :: zs, h => by
    rw [List.map_cons, List.map_cons] at h
    injection h with h1 h2
    refine .cons ?_ (vals_str h2)
    split at h1
    · rename_i y t
      cases h1
      exact ⟨t, rfl⟩
    · cases h1
theorem tup_ok {K : PySem.W.Frag} {a : Addr} {zs : List Str} (h : tupB K a zs = true) (H : Hp) : SqT K H a (zs.map V.str) := by
  unfold tupB at h
  cases e : K.lookup a with
  | none => rw [e] at h; cases h
  | some o =>
    rw [e] at h
    obtain ⟨h1, h2⟩ := He.ba h
    cases e2 : o.data with
    | seq its n =>
      rw [e2] at h2
      obtain ⟨h3, h4⟩ := He.ba h2
      have h3 : its.toList.length ≤ 100 := of_decide_eq_true h3
      refine .inr ⟨o, its, n, e, of_decide_eq_true h1, e2, ?_, vals_str (of_decide_eq_true h4)⟩
      rw [Array.length_toList] at h3
      exact Nat.le_trans h3 (by decide)
    | _ => rw [e2] at h2; cases h2
theorem none_ok {K : PySem.W.Frag} {a : Addr} (h : tupB K a ["none"] = true) (H : Hp) : PatQ K H .none (.ref a) := ⟨a, rfl, tup_ok h H⟩
theorem empty_ok {K : PySem.W.Frag} {a : Addr} (h : tupB K a ["empty"] = true) (H : Hp) : PatQ K H .empty (.ref a) := ⟨a, rfl, tup_ok h H⟩
theorem all_ok {K : PySem.W.Frag} {a : Addr} (h : allB K a = true) (H : Hp) : PatQ K H ALL (.ref a) := by
  unfold allB at h
  obtain ⟨h1, h2⟩ := He.ba h
  cases e : K.lookup a with
  | none => rw [e] at h1; cases h1
  | some o =>
    rw [e] at h1
    obtain ⟨h3, h4⟩ := He.ba h1
    cases e2 : o.data with
    | seq its n =>
      rw [e2] at h4
      have h4 : (match its.toList with | [.str z _, .ref _] => decide (z = ("not" : PySem.Str)) | _ => false) = true := h4
      match e3 : its.toList, h4 with
      | [.str z t, .ref b], h4 =>
        have hz : z = "not" := of_decide_eq_true h4
        subst hz
        have hb : inA K a = b := by unfold inA; rw [e]; simp only [e2, e3]
        rw [hb] at h2
        refine ⟨a, .ref b, rfl, .inr ⟨o, its, n, e, of_decide_eq_true h3, e2, ?_, ?_⟩, none_ok h2 H⟩
        · rw [← Array.length_toList, e3]; exact (show 2 ≤ sizeLine by decide)
        · rw [e3]; exact .cons ⟨t, rfl⟩ (.cons rfl .nil)
    | _ => rw [e2] at h4; cases h4
section
variable {P : Program} {w : World} {K : PySem.W.Frag} {mg : Str → Option Value} {base : Heap}
theorem te_tower {f : Addr} {fd : FuncData} {c T : Addr} (F : FnP K "takes_empty" sTakesEmpty f fd) (hc : fd.code = .ref c) (TB : GxR.TabB base mg c T) (b : Binds K fd ["pattern"] []) (mG : mg "takes_empty" = some (.ref f)) (ma : mg "any" = none) (ml : mg "all" = none) : ∀ d, FnOk P w K mg base CX0 (2 * d) f fd ["pattern"] (spTE K d T)
  | 0 => te_none
  | d + 1 => te_step F hc TB (te_tower F hc TB b mG ma ml d) b mG ma ml
theorem pk_tower {f : Addr} {fd : FuncData} {aA aN aE : Addr} {T : Tz} (St : Std K mg "piece_kinds" sPieceKinds ["pattern"] f fd) (TE : Cal P w K mg base 60 "takes_empty" ["pattern"] [] (spTE K 30 T.te)) (C : Consts K mg aA aN aE) : ∀ d, FnOk P w K mg base CX0 (60 + d) f fd ["pattern"] (spPk K T d)
  | 0 => pk_none
  | d + 1 => pk_step St (pk_tower St TE C d) (Nat.le_add_right _ _) TE C
/-- the tables' places -/
def tzK (K : PySem.W.Frag) : Tz := ⟨(He.cT K ("takes_empty", none)).2, (He.cT K ("covers", none)).2, (He.cT K ("many_covers", none)).2, (He.cT K ("row_covers", none)).2, (He.cT K ("either", none)).2, (He.cT K ("both", none)).2, (He.cT K ("needed", none)).2⟩
theorem facts {h : Heap} {f : Addr} (X : K.In h) (G : h.Ns mainGlobals mg) (hfa : mg ("law" : Str) = some (.ref f)) (c : He.SaysX fa fn ts tf ex w h K) :
    ∃ fd : FuncData, (∀ (s : Shared) (v : Value), BindsTo s fd ⟨[v], []⟩ [("_law_script", v)]) ∧ ∀ base : Heap, K.In base → base.Ns mainGlobals mg → (∀ p ∈ tf.map (He.cT K), LamX.TabB base mg p.1 p.2) →
      FnOk P w K mg base CX0 165 f fd ["_law_script"] (spLw K (tzK K)) := by
  obtain ⟨DTakesEmpty, FTakesEmpty⟩ := c.t.d.def_ 0 (d := dTakesEmpty) rfl
  have mTakesEmpty : mg "takes_empty" = some (.ref (He.ga K "takes_empty")) := He.glo_ok X G (c.t.d.fact 0 (f := .glo "takes_empty") rfl)
  have FTakesEmpty' : FnP K "takes_empty" sTakesEmpty (He.ga K "takes_empty") DTakesEmpty := FTakesEmpty
  have bTakesEmpty : Binds K DTakesEmpty ["pattern"] [] := FTakesEmpty'.bindsN fun _ _ _ _ _ _ us hl => match us, hl with | [_], _ => rfl
  obtain ⟨DCovers, FCovers⟩ := c.t.d.def_ 1 (d := dCovers) rfl
  have mCovers : mg "covers" = some (.ref (He.ga K "covers")) := He.glo_ok X G (c.t.d.fact 1 (f := .glo "covers") rfl)
  have FCovers' : FunD K "covers" "covers" (defArgs sCovers) (defBody sCovers) (defScope sCovers) [.int 8] [] (He.ga K "covers") DCovers := FCovers
  obtain ⟨DCoversByShape, FCoversByShape⟩ := c.t.d.def_ 2 (d := dCoversByShape) rfl
  have mCoversByShape : mg "covers_by_shape" = some (.ref (He.ga K "covers_by_shape")) := He.glo_ok X G (c.t.d.fact 2 (f := .glo "covers_by_shape") rfl)
  have FCoversByShape' : FnP K "covers_by_shape" sCoversByShape (He.ga K "covers_by_shape") DCoversByShape := FCoversByShape
  have bCoversByShape : Binds K DCoversByShape ["big", "small", "depth"] [] := FCoversByShape'.bindsN fun _ _ _ _ _ _ us hl => match us, hl with | [_, _, _], _ => rfl
  obtain ⟨DManyCovers, FManyCovers⟩ := c.t.d.def_ 3 (d := dManyCovers) rfl
  have mManyCovers : mg "many_covers" = some (.ref (He.ga K "many_covers")) := He.glo_ok X G (c.t.d.fact 3 (f := .glo "many_covers") rfl)
  have FManyCovers' : FnP K "many_covers" sManyCovers (He.ga K "many_covers") DManyCovers := FManyCovers
  have bManyCovers : Binds K DManyCovers ["big", "small", "depth"] [] := FManyCovers'.bindsN fun _ _ _ _ _ _ us hl => match us, hl with | [_, _, _], _ => rfl
  obtain ⟨DRowCovers, FRowCovers⟩ := c.t.d.def_ 4 (d := dRowCovers) rfl
  have mRowCovers : mg "row_covers" = some (.ref (He.ga K "row_covers")) := He.glo_ok X G (c.t.d.fact 4 (f := .glo "row_covers") rfl)
  have FRowCovers' : FnP K "row_covers" sRowCovers (He.ga K "row_covers") DRowCovers := FRowCovers
  have bRowCovers : Binds K DRowCovers ["bigs", "smalls", "depth"] [] := FRowCovers'.bindsN fun _ _ _ _ _ _ us hl => match us, hl with | [_, _, _], _ => rfl
  obtain ⟨DPiecesOf, FPiecesOf⟩ := c.t.d.def_ 5 (d := dPiecesOf) rfl
  have mPiecesOf : mg "pieces_of" = some (.ref (He.ga K "pieces_of")) := He.glo_ok X G (c.t.d.fact 5 (f := .glo "pieces_of") rfl)
  have FPiecesOf' : FnP K "pieces_of" sPiecesOf (He.ga K "pieces_of") DPiecesOf := FPiecesOf
  have bPiecesOf : Binds K DPiecesOf ["pattern"] [] := FPiecesOf'.bindsN fun _ _ _ _ _ _ us hl => match us, hl with | [_], _ => rfl
  obtain ⟨DNormal, FNormal⟩ := c.t.d.def_ 6 (d := dNormal) rfl
  have mNormal : mg "normal" = some (.ref (He.ga K "normal")) := He.glo_ok X G (c.t.d.fact 6 (f := .glo "normal") rfl)
  have FNormal' : FnP K "normal" sNormal (He.ga K "normal") DNormal := FNormal
  have bNormal : Binds K DNormal ["pattern"] [] := FNormal'.bindsN fun _ _ _ _ _ _ us hl => match us, hl with | [_], _ => rfl
  obtain ⟨DNegated, FNegated⟩ := c.t.d.def_ 7 (d := dNegated) rfl
  have mNegated : mg "negated" = some (.ref (He.ga K "negated")) := He.glo_ok X G (c.t.d.fact 7 (f := .glo "negated") rfl)
  have FNegated' : FnP K "negated" sNegated (He.ga K "negated") DNegated := FNegated
  have bNegated : Binds K DNegated ["pattern"] [] := FNegated'.bindsN fun _ _ _ _ _ _ us hl => match us, hl with | [_], _ => rfl
  obtain ⟨DEither, FEither⟩ := c.t.d.def_ 8 (d := dEither) rfl
  have mEither : mg "either" = some (.ref (He.ga K "either")) := He.glo_ok X G (c.t.d.fact 8 (f := .glo "either") rfl)
  have FEither' : FnP K "either" sEither (He.ga K "either") DEither := FEither
  have bEither : Binds K DEither ["parts"] [] := FEither'.bindsN fun _ _ _ _ _ _ us hl => match us, hl with | [_], _ => rfl
  obtain ⟨DBoth, FBoth⟩ := c.t.d.def_ 9 (d := dBoth) rfl
  have mBoth : mg "both" = some (.ref (He.ga K "both")) := He.glo_ok X G (c.t.d.fact 9 (f := .glo "both") rfl)
  have FBoth' : FnP K "both" sBoth (He.ga K "both") DBoth := FBoth
  have bBoth : Binds K DBoth ["parts"] [] := FBoth'.bindsN fun _ _ _ _ _ _ us hl => match us, hl with | [_], _ => rfl
  obtain ⟨DJoined, FJoined⟩ := c.t.d.def_ 10 (d := dJoined) rfl
  have mJoined : mg "joined" = some (.ref (He.ga K "joined")) := He.glo_ok X G (c.t.d.fact 10 (f := .glo "joined") rfl)
  have FJoined' : FnP K "joined" sJoined (He.ga K "joined") DJoined := FJoined
  have bJoined : Binds K DJoined ["kind", "parts", "nothing"] [] := FJoined'.bindsN fun _ _ _ _ _ _ us hl => match us, hl with | [_, _, _], _ => rfl
  obtain ⟨DNeeded, FNeeded⟩ := c.t.d.def_ 11 (d := dNeeded) rfl
  have mNeeded : mg "needed" = some (.ref (He.ga K "needed")) := He.glo_ok X G (c.t.d.fact 11 (f := .glo "needed") rfl)
  have FNeeded' : FnP K "needed" sNeeded (He.ga K "needed") DNeeded := FNeeded
  have bNeeded : Binds K DNeeded ["parts", "idle"] [] := FNeeded'.bindsN fun _ _ _ _ _ _ us hl => match us, hl with | [_, _], _ => rfl
  obtain ⟨DCovered, FCovered⟩ := c.t.d.def_ 12 (d := dCovered) rfl
  have mCovered : mg "covered" = some (.ref (He.ga K "covered")) := He.glo_ok X G (c.t.d.fact 12 (f := .glo "covered") rfl)
  have FCovered' : FnP K "covered" sCovered (He.ga K "covered") DCovered := FCovered
  have bCovered : Binds K DCovered ["small", "big"] [] := FCovered'.bindsN fun _ _ _ _ _ _ us hl => match us, hl with | [_, _], _ => rfl
  obtain ⟨DSpread, FSpread⟩ := c.t.d.def_ 13 (d := dSpread) rfl
  have mSpread : mg "spread" = some (.ref (He.ga K "spread")) := He.glo_ok X G (c.t.d.fact 13 (f := .glo "spread") rfl)
  have FSpread' : FnP K "spread" sSpread (He.ga K "spread") DSpread := FSpread
  have bSpread : Binds K DSpread ["kind", "parts"] [] := FSpread'.bindsN fun _ _ _ _ _ _ us hl => match us, hl with | [_, _], _ => rfl
  obtain ⟨DRowOf, FRowOf⟩ := c.t.d.def_ 14 (d := dRowOf) rfl
  have mRowOf : mg "row_of" = some (.ref (He.ga K "row_of")) := He.glo_ok X G (c.t.d.fact 14 (f := .glo "row_of") rfl)
  have FRowOf' : FnP K "row_of" sRowOf (He.ga K "row_of") DRowOf := FRowOf
  have bRowOf : Binds K DRowOf ["parts"] [] := FRowOf'.bindsN fun _ _ _ _ _ _ us hl => match us, hl with | [_], _ => rfl
  obtain ⟨DShortened, FShortened⟩ := c.t.d.def_ 15 (d := dShortened) rfl
  have mShortened : mg "shortened" = some (.ref (He.ga K "shortened")) := He.glo_ok X G (c.t.d.fact 15 (f := .glo "shortened") rfl)
  have FShortened' : FnP K "shortened" sShortened (He.ga K "shortened") DShortened := FShortened
  have bShortened : Binds K DShortened ["parts"] [] := FShortened'.bindsN fun _ _ _ _ _ _ us hl => match us, hl with | [_], _ => rfl
  obtain ⟨DTakesAlong, FTakesAlong⟩ := c.t.d.def_ 16 (d := dTakesAlong) rfl
  have mTakesAlong : mg "takes_along" = some (.ref (He.ga K "takes_along")) := He.glo_ok X G (c.t.d.fact 16 (f := .glo "takes_along") rfl)
  have FTakesAlong' : FnP K "takes_along" sTakesAlong (He.ga K "takes_along") DTakesAlong := FTakesAlong
  have bTakesAlong : Binds K DTakesAlong ["greedy", "part"] [] := FTakesAlong'.bindsN fun _ _ _ _ _ _ us hl => match us, hl with | [_, _], _ => rfl
  obtain ⟨DManyOf, FManyOf⟩ := c.t.d.def_ 17 (d := dManyOf) rfl
  have mManyOf : mg "many_of" = some (.ref (He.ga K "many_of")) := He.glo_ok X G (c.t.d.fact 17 (f := .glo "many_of") rfl)
  have FManyOf' : FnP K "many_of" sManyOf (He.ga K "many_of") DManyOf := FManyOf
  have bManyOf : Binds K DManyOf ["pattern"] [] := FManyOf'.bindsN fun _ _ _ _ _ _ us hl => match us, hl with | [_], _ => rfl
  obtain ⟨DPieceKinds, FPieceKinds⟩ := c.t.d.def_ 18 (d := dPieceKinds) rfl
  have mPieceKinds : mg "piece_kinds" = some (.ref (He.ga K "piece_kinds")) := He.glo_ok X G (c.t.d.fact 18 (f := .glo "piece_kinds") rfl)
  have FPieceKinds' : FnP K "piece_kinds" sPieceKinds (He.ga K "piece_kinds") DPieceKinds := FPieceKinds
  have bPieceKinds : Binds K DPieceKinds ["pattern"] [] := FPieceKinds'.bindsN fun _ _ _ _ _ _ us hl => match us, hl with | [_], _ => rfl
  obtain ⟨DEmpty, FEmpty⟩ := c.t.d.def_ 19 (d := dEmpty) rfl
  have mEmpty : mg "empty" = some (.ref (He.ga K "empty")) := He.glo_ok X G (c.t.d.fact 19 (f := .glo "empty") rfl)
  have FEmpty' : FnP K "empty" sEmpty (He.ga K "empty") DEmpty := FEmpty
  have bEmpty : Binds K DEmpty ["pattern"] [] := FEmpty'.bindsN fun _ _ _ _ _ _ us hl => match us, hl with | [_], _ => rfl
  obtain ⟨DLeft, FLeft⟩ := c.t.d.def_ 20 (d := dLeft) rfl
  have mLeft : mg "left" = some (.ref (He.ga K "left")) := He.glo_ok X G (c.t.d.fact 20 (f := .glo "left") rfl)
  have FLeft' : FnP K "left" sLeft (He.ga K "left") DLeft := FLeft
  have bLeft : Binds K DLeft ["pattern", "sign"] [] := FLeft'.bindsN fun _ _ _ _ _ _ us hl => match us, hl with | [_, _], _ => rfl
  obtain ⟨DBehind, FBehind⟩ := c.t.d.def_ 21 (d := dBehind) rfl
  have mBehind : mg "behind" = some (.ref (He.ga K "behind")) := He.glo_ok X G (c.t.d.fact 21 (f := .glo "behind") rfl)
  have FBehind' : FnP K "behind" sBehind (He.ga K "behind") DBehind := FBehind
  have bBehind : Binds K DBehind ["pattern", "sign"] [] := FBehind'.bindsN fun _ _ _ _ _ _ us hl => match us, hl with | [_, _], _ => rfl
  obtain ⟨DRowBehind, FRowBehind⟩ := c.t.d.def_ 22 (d := dRowBehind) rfl
  have mRowBehind : mg "row_behind" = some (.ref (He.ga K "row_behind")) := He.glo_ok X G (c.t.d.fact 22 (f := .glo "row_behind") rfl)
  have FRowBehind' : FnP K "row_behind" sRowBehind (He.ga K "row_behind") DRowBehind := FRowBehind
  have bRowBehind : Binds K DRowBehind ["parts", "sign"] [] := FRowBehind'.bindsN fun _ _ _ _ _ _ us hl => match us, hl with | [_, _], _ => rfl
  obtain ⟨DLawCellAt, FLawCellAt⟩ := c.t.d.def_ 23 (d := dLawCellAt) rfl
  have mLawCellAt : mg "_law_cell_at" = some (.ref (He.ga K "_law_cell_at")) := He.glo_ok X G (c.t.d.fact 23 (f := .glo "_law_cell_at") rfl)
  have FLawCellAt' : FnP K "_law_cell_at" sLawCellAt (He.ga K "_law_cell_at") DLawCellAt := FLawCellAt
  have bLawCellAt : Binds K DLawCellAt ["_law_script", "_law_k"] [] := FLawCellAt'.bindsN fun _ _ _ _ _ _ us hl => match us, hl with | [_, _], _ => rfl
  obtain ⟨DLawLetters, FLawLetters⟩ := c.t.d.def_ 24 (d := dLawLetters) rfl
  have mLawLetters : mg "_law_letters" = some (.ref (He.ga K "_law_letters")) := He.glo_ok X G (c.t.d.fact 24 (f := .glo "_law_letters") rfl)
  have FLawLetters' : FnP K "_law_letters" sLawLetters (He.ga K "_law_letters") DLawLetters := FLawLetters
  have bLawLetters : Binds K DLawLetters ["_law_cell"] [] := FLawLetters'.bindsN fun _ _ _ _ _ _ us hl => match us, hl with | [_], _ => rfl
  obtain ⟨DLawSize, FLawSize⟩ := c.t.d.def_ 25 (d := dLawSize) rfl
  have mLawSize : mg "_law_size" = some (.ref (He.ga K "_law_size")) := He.glo_ok X G (c.t.d.fact 25 (f := .glo "_law_size") rfl)
  have FLawSize' : FnP K "_law_size" sLawSize (He.ga K "_law_size") DLawSize := FLawSize
  have bLawSize : Binds K DLawSize ["_law_pattern"] [] := FLawSize'.bindsN fun _ _ _ _ _ _ us hl => match us, hl with | [_], _ => rfl
  obtain ⟨DLawStep, FLawStep⟩ := c.t.d.def_ 26 (d := dLawStep) rfl
  have mLawStep : mg "_law_step" = some (.ref (He.ga K "_law_step")) := He.glo_ok X G (c.t.d.fact 26 (f := .glo "_law_step") rfl)
  have FLawStep' : FnP K "_law_step" sLawStep (He.ga K "_law_step") DLawStep := FLawStep
  have bLawStep : Binds K DLawStep ["_law_letters_here", "_law_stack", "_law_cell"] [] := FLawStep'.bindsN fun _ _ _ _ _ _ us hl => match us, hl with | [_, _, _], _ => rfl
  obtain ⟨DLawDrawn, FLawDrawn⟩ := c.t.d.def_ 27 (d := dLawDrawn) rfl
  have mLawDrawn : mg "_law_drawn" = some (.ref (He.ga K "_law_drawn")) := He.glo_ok X G (c.t.d.fact 27 (f := .glo "_law_drawn") rfl)
  have FLawDrawn' : FnP K "_law_drawn" sLawDrawn (He.ga K "_law_drawn") DLawDrawn := FLawDrawn
  have bLawDrawn : Binds K DLawDrawn ["_law_letters_here", "_law_cells", "_law_most"] [] := FLawDrawn'.bindsN fun _ _ _ _ _ _ us hl => match us, hl with | [_, _, _], _ => rfl
  obtain ⟨DLawEnds, FLawEnds⟩ := c.t.d.def_ 28 (d := dLawEnds) rfl
  have mLawEnds : mg "_law_ends" = some (.ref (He.ga K "_law_ends")) := He.glo_ok X G (c.t.d.fact 28 (f := .glo "_law_ends") rfl)
  have FLawEnds' : FnP K "_law_ends" sLawEnds (He.ga K "_law_ends") DLawEnds := FLawEnds
  have bLawEnds : Binds K DLawEnds ["_law_pattern", "_law_text", "_law_at"] [] := FLawEnds'.bindsN fun _ _ _ _ _ _ us hl => match us, hl with | [_, _, _], _ => rfl
  obtain ⟨DLawRowEnds, FLawRowEnds⟩ := c.t.d.def_ 29 (d := dLawRowEnds) rfl
  have mLawRowEnds : mg "_law_row_ends" = some (.ref (He.ga K "_law_row_ends")) := He.glo_ok X G (c.t.d.fact 29 (f := .glo "_law_row_ends") rfl)
  have FLawRowEnds' : FnP K "_law_row_ends" sLawRowEnds (He.ga K "_law_row_ends") DLawRowEnds := FLawRowEnds
  have bLawRowEnds : Binds K DLawRowEnds ["_law_parts", "_law_text", "_law_at"] [] := FLawRowEnds'.bindsN fun _ _ _ _ _ _ us hl => match us, hl with | [_, _, _], _ => rfl
  obtain ⟨DLawManyEnds, FLawManyEnds⟩ := c.t.d.def_ 30 (d := dLawManyEnds) rfl
  have mLawManyEnds : mg "_law_many_ends" = some (.ref (He.ga K "_law_many_ends")) := He.glo_ok X G (c.t.d.fact 30 (f := .glo "_law_many_ends") rfl)
  have FLawManyEnds' : FnP K "_law_many_ends" sLawManyEnds (He.ga K "_law_many_ends") DLawManyEnds := FLawManyEnds
  have bLawManyEnds : Binds K DLawManyEnds ["_law_pattern", "_law_text", "_law_at"] [] := FLawManyEnds'.bindsN fun _ _ _ _ _ _ us hl => match us, hl with | [_, _, _], _ => rfl
  obtain ⟨DLawFit, FLawFit⟩ := c.t.d.def_ 31 (d := dLawFit) rfl
  have mLawFit : mg "_law_fit" = some (.ref (He.ga K "_law_fit")) := He.glo_ok X G (c.t.d.fact 31 (f := .glo "_law_fit") rfl)
  have FLawFit' : FnP K "_law_fit" sLawFit (He.ga K "_law_fit") DLawFit := FLawFit
  have bLawFit : Binds K DLawFit ["_law_pattern", "_law_text"] [] := FLawFit'.bindsN fun _ _ _ _ _ _ us hl => match us, hl with | [_, _], _ => rfl
  obtain ⟨DLawTexts, FLawTexts⟩ := c.t.d.def_ 32 (d := dLawTexts) rfl
  have mLawTexts : mg "_law_texts" = some (.ref (He.ga K "_law_texts")) := He.glo_ok X G (c.t.d.fact 32 (f := .glo "_law_texts") rfl)
  have FLawTexts' : FnP K "_law_texts" sLawTexts (He.ga K "_law_texts") DLawTexts := FLawTexts
  have bLawTexts : Binds K DLawTexts ["_law_letters_here", "_law_most"] [] := FLawTexts'.bindsN fun _ _ _ _ _ _ us hl => match us, hl with | [_, _], _ => rfl
  obtain ⟨DLawShaped, FLawShaped⟩ := c.t.d.def_ 33 (d := dLawShaped) rfl
  have mLawShaped : mg "_law_shaped" = some (.ref (He.ga K "_law_shaped")) := He.glo_ok X G (c.t.d.fact 33 (f := .glo "_law_shaped") rfl)
  have FLawShaped' : FnP K "_law_shaped" sLawShaped (He.ga K "_law_shaped") DLawShaped := FLawShaped
  have bLawShaped : Binds K DLawShaped ["_law_letters_here", "_law_pattern"] [] := FLawShaped'.bindsN fun _ _ _ _ _ _ us hl => match us, hl with | [_, _], _ => rfl
  obtain ⟨DLawBehind, FLawBehind⟩ := c.t.d.def_ 34 (d := dLawBehind) rfl
  have mLawBehind : mg "_law_behind" = some (.ref (He.ga K "_law_behind")) := He.glo_ok X G (c.t.d.fact 34 (f := .glo "_law_behind") rfl)
  have FLawBehind' : FnP K "_law_behind" sLawBehind (He.ga K "_law_behind") DLawBehind := FLawBehind
  have bLawBehind : Binds K DLawBehind ["_law_letters_here", "_law_pattern", "_law_sign", "_law_texts_here"] [] := FLawBehind'.bindsN fun _ _ _ _ _ _ us hl => match us, hl with | [_, _, _, _], _ => rfl
  obtain ⟨DLawWide, FLawWide⟩ := c.t.d.def_ 35 (d := dLawWide) rfl
  have mLawWide : mg "_law_wide" = some (.ref (He.ga K "_law_wide")) := He.glo_ok X G (c.t.d.fact 35 (f := .glo "_law_wide") rfl)
  have FLawWide' : FnP K "_law_wide" sLawWide (He.ga K "_law_wide") DLawWide := FLawWide
  have bLawWide : Binds K DLawWide ["_law_letters_here", "_law_pattern"] [] := FLawWide'.bindsN fun _ _ _ _ _ _ us hl => match us, hl with | [_, _], _ => rfl
  obtain ⟨DLaw, FLaw⟩ := c.t.d.def_ 36 (d := dLaw) rfl
  have mLaw : mg "law" = some (.ref (He.ga K "law")) := He.glo_ok X G (c.t.d.fact 36 (f := .glo "law") rfl)
  have FLaw' : FnP K "law" sLaw (He.ga K "law") DLaw := FLaw
  have bLaw : Binds K DLaw ["_law_script"] [] := FLaw'.bindsN fun _ _ _ _ _ _ us hl => match us, hl with | [_], _ => rfl
  have h_NONE : mg "NONE" = some (.ref (He.ga K "NONE")) := He.glo_ok X G (c.t.d.fact 37 (f := .glo "NONE") rfl)
  have h_EMPTY : mg "EMPTY" = some (.ref (He.ga K "EMPTY")) := He.glo_ok X G (c.t.d.fact 38 (f := .glo "EMPTY") rfl)
  have h_ALL : mg "ALL" = some (.ref (He.ga K "ALL")) := He.glo_ok X G (c.t.d.fact 39 (f := .glo "ALL") rfl)
  have n_all : mg "all" = none := He.free_ok X G (c.t.d.fact 40 (f := .free "all") rfl)
  have n_any : mg "any" = none := He.free_ok X G (c.t.d.fact 41 (f := .free "any") rfl)
  have n_bool : mg "bool" = none := He.free_ok X G (c.t.d.fact 42 (f := .free "bool") rfl)
  have n_enumerate : mg "enumerate" = none := He.free_ok X G (c.t.d.fact 43 (f := .free "enumerate") rfl)
  have n_int : mg "int" = none := He.free_ok X G (c.t.d.fact 44 (f := .free "int") rfl)
  have n_isinstance : mg "isinstance" = none := He.free_ok X G (c.t.d.fact 45 (f := .free "isinstance") rfl)
  have n_len : mg "len" = none := He.free_ok X G (c.t.d.fact 46 (f := .free "len") rfl)
  have n_list : mg "list" = none := He.free_ok X G (c.t.d.fact 47 (f := .free "list") rfl)
  have n_max : mg "max" = none := He.free_ok X G (c.t.d.fact 48 (f := .free "max") rfl)
  have n_min : mg "min" = none := He.free_ok X G (c.t.d.fact 49 (f := .free "min") rfl)
  have n_range : mg "range" = none := He.free_ok X G (c.t.d.fact 50 (f := .free "range") rfl)
  have n_sorted : mg "sorted" = none := He.free_ok X G (c.t.d.fact 51 (f := .free "sorted") rfl)
  have n_str : mg "str" = none := He.free_ok X G (c.t.d.fact 52 (f := .free "str") rfl)
  have n_sum : mg "sum" = none := He.free_ok X G (c.t.d.fact 53 (f := .free "sum") rfl)
  have n_tuple : mg "tuple" = none := He.free_ok X G (c.t.d.fact 54 (f := .free "tuple") rfl)
  have n_zip : mg "zip" = none := He.free_ok X G (c.t.d.fact 55 (f := .free "zip") rfl)
  obtain ⟨t_DEPTH, i_DEPTH⟩ := He.int_ok X G (c.t.d.fact 56 (f := .int "DEPTH" 8) rfl)
  cases hfa.symm.trans mLaw
  have bA := FunD.bindsA (ps := ["_law_script"]) FLaw' fun _ _ _ _ _ _ us hl => match us, hl with | [_], _ => rfl
  obtain ⟨ds3, vd3, bC3⟩ := FCovers'.binds1 (ps := ["big", "small", "depth"]) 3 1 (by simp) rfl fun _ _ _ _ _ _ _ us its hl hi => match us, its, hl, hi with | [_, _, _], [_], _, _ => ⟨_, rfl, rfl⟩
  cases vd3
  obtain ⟨ds2, vd2, bC2⟩ := FCovers'.binds1 (ps := ["big", "small", "depth"]) 2 0 (by simp) rfl fun _ _ _ _ _ _ _ us its hl hi => match us, its, hl, hi with | [_, _], [_], _, _ => ⟨_, rfl, rfl⟩
  refine ⟨DLaw, fun s v => bA s [v] rfl, fun base _ _ hTB => ?_⟩
  have tb : ∀ x : Str, ((x, none) : He.Defn) ∈ tf → GxR.TabB base mg (He.codeOf K (x, none)) (He.cT K (x, none)).2 := fun x hx => by
    have t := hTB _ (List.mem_map_of_mem hx)
    exact ⟨t.code, t.bm, t.gP⟩
  have C : Consts K mg (He.ga K "ALL") (He.ga K "NONE") (He.ga K "EMPTY") := ⟨h_ALL, h_NONE, h_EMPTY, all_ok (ex_at c.more 0 rfl), none_ok (ex_at c.more 1 rfl), empty_ok (ex_at c.more 2 rfl)⟩
  have TE := te_tower (P := P) (w := w) FTakesEmpty' (code_is FTakesEmpty') (tb "takes_empty" (by simp [tf])) bTakesEmpty mTakesEmpty n_any n_all 30
  have cTE : Cal P w K mg base 60 "takes_empty" ["pattern"] [] (spTE K 30 (tzK K).te) := (Std.mk FTakesEmpty' bTakesEmpty mTakesEmpty).cal TE
  have S : CvF P w K mg base (tzK K).te (tzK K).cv (tzK K).mc (tzK K).rc (He.ga K "covers") (He.ga K "takes_empty") (He.ga K "covers_by_shape") (He.ga K "many_covers") (He.ga K "row_covers") (He.ga K "pieces_of") DCovers DTakesEmpty DCoversByShape DManyCovers DRowCovers DPiecesOf :=
    { dv := ⟨_, FCovers'⟩, cv := ⟨_, code_is FCovers', tb "covers" (by simp [tf])⟩, bf := bC3, kf := FCovers'.kp, mf := mCovers, gt := TE, bg := bTakesEmpty, kg := FTakesEmpty'.kp, mt := mTakesEmpty, fs := FCoversByShape', bs := bCoversByShape, ks := FCoversByShape'.kp, ms := mCoversByShape,
      fm := FManyCovers', cm := ⟨_, code_is FManyCovers', tb "many_covers" (by simp [tf])⟩, bm := bManyCovers, km := FManyCovers'.kp, mm := mManyCovers, fr := FRowCovers', cr := ⟨_, code_is FRowCovers', tb "row_covers" (by simp [tf])⟩, br := bRowCovers, kr := FRowCovers'.kp, mr := mRowCovers,
      fp := FPiecesOf', bp := bPiecesOf, kp := FPiecesOf'.kp, mp := mPiecesOf, C := ⟨_, _, _, C⟩, ma := n_any, ml := n_all, mlen := n_len, mz := n_zip }
  have CV := cv_tower S 9
  have Vc : Cov P w K mg base (tzK K) := ⟨⟨_, _, ds2, CV, bC2, vd2, FCovers'.kp, mCovers⟩⟩
  have CO := co_ok (Std.mk FCovered' bCovered mCovered) Vc
  have A : ∀ g z, SC (He.ga K "covers") (He.ga K "covered") g z → HeldD P w K mg base 97 g (spId K (tzK K) z) := by
    rintro g z (⟨rfl, rfl⟩ | ⟨rfl, rfl⟩)
    · exact ⟨_, _, _, _, _, CV.mono (by decide), FCovers'.kp, bC2, vd2, fun vs H Q E h => id_cv h⟩
    · exact ⟨_, _, _, [], [], CO, FCovered'.kp, bCovered, .nil, fun vs H Q E h => by rw [List.append_nil]; exact h⟩
  have cSD := (Std.mk FSpread' bSpread mSpread).cal (P := P) (w := w) (base := base) (sd_ok (Std.mk FSpread' bSpread mSpread))
  have cJN := (Std.mk FJoined' bJoined mJoined).cal (P := P) (w := w) (base := base) (jn_ok (Std.mk FJoined' bJoined mJoined) n_len n_tuple)
  have cNG := (Std.mk FNegated' bNegated mNegated).cal (P := P) (w := w) (base := base) (ng_ok (Std.mk FNegated' bNegated mNegated))
  have cND := (Std.mk FNeeded' bNeeded mNeeded).cal (nd_ok (T := tzK K) (Std.mk FNeeded' bNeeded mNeeded) (code_is FNeeded') (tb "needed" (by simp [tf])) A n_any n_sorted)
  have cEI := (Std.mk FEither' bEither mEither).cal (ei_ok (Std.mk FEither' bEither mEither) (code_is FEither') (tb "either" (by simp [tf])) cND cSD cJN Vc C mCovered n_any)
  have cBO := (Std.mk FBoth' bBoth mBoth).cal (bo_ok (Std.mk FBoth' bBoth mBoth) (code_is FBoth') (tb "both" (by simp [tf])) cND cSD cJN Vc C mCovers n_any n_len)
  have cTA := (Std.mk FTakesAlong' bTakesAlong mTakesAlong).cal (ta_ok (Std.mk FTakesAlong' bTakesAlong mTakesAlong) Vc cTE C)
  have cSH := (Std.mk FShortened' bShortened mShortened).cal (sh_ok (Std.mk FShortened' bShortened mShortened) cTA)
  have cRO := (Std.mk FRowOf' bRowOf mRowOf).cal (ro_all (ro_tower (Std.mk FRowOf' bRowOf mRowOf) cEI cSH cSD cJN C 12))
  have cPK := (Std.mk FPieceKinds' bPieceKinds mPieceKinds).cal (pk_tower (Std.mk FPieceKinds' bPieceKinds mPieceKinds) cTE C 40)
  have cMO := (Std.mk FManyOf' bManyOf mManyOf).cal (mo_ok (Std.mk FManyOf' bManyOf mManyOf) cPK cEI Vc C n_sorted n_list)
  have FM : Forms P w K mg base (tzK K) := ⟨cMO, cNG, cRO, cEI, cBO⟩
  have cNO := (Std.mk FNormal' bNormal mNormal).cal (no_tower (Std.mk FNormal' bNormal mNormal) FM 40)
  have cBE := (Std.mk FBehind' bBehind mBehind).cal (be_tower (Std.mk FBehind' bBehind mBehind) (Std.mk FRowBehind' bRowBehind mRowBehind) FM cTE C n_enumerate 25)
  have cLF := (Std.mk FLeft' bLeft mLeft).cal (lf_ok' (Std.mk FLeft' bLeft mLeft) cNO cBE)
  have cEM := (Std.mk FEmpty' bEmpty mEmpty).cal (em_ok (Std.mk FEmpty' bEmpty mEmpty) cTE)
  -- the law's
  have cCA := (Std.mk FLawCellAt' bLawCellAt mLawCellAt).cal (ca_ok (P := P) (w := w) (base := base) FLawCellAt' n_len)
  have cLT := (Std.mk FLawLetters' bLawLetters mLawLetters).cal (lt_ok (P := P) (w := w) (base := base) FLawLetters' n_range)
  have LS : ∀ d, FnOk P w K mg base CX0 d (He.ga K "_law_size") DLawSize ["_law_pattern"] (spLS d) := fun d => by
    induction d with
    | zero => exact ls_none
    | succ d ih => exact ls_step FLawSize' ih bLawSize mLawSize n_sum
  have ST := st_ok (P := P) (w := w) (base := base) FLawStep' n_len n_min n_tuple
  have cDR := (Std.mk FLawDrawn' bLawDrawn mLawDrawn).cal (dr_ok FLawDrawn' ST bLawStep FLawStep'.kp mLawStep (LS 60) bLawSize FLawSize'.kp mLawSize n_len n_sum n_tuple)
  have LE : ∀ d, FnOk P w K mg base CX0 (2 * d) (He.ga K "_law_ends") DLawEnds ["_law_pattern", "_law_text", "_law_at"] (spLE K d) := fun d => by
    induction d with
    | zero => exact le_none
    | succ d ih => exact le_step FLawEnds' bLawEnds mLawEnds ih (re_ok FLawRowEnds' ih bLawEnds FLawEnds'.kp mLawEnds n_sorted) bLawRowEnds FLawRowEnds'.kp mLawRowEnds (mn_ok FLawManyEnds' ih bLawEnds FLawEnds'.kp mLawEnds n_len) bLawManyEnds FLawManyEnds'.kp mLawManyEnds n_len n_int n_range
  have cFI := (Std.mk FLawFit' bLawFit mLawFit).cal ((lf_ok FLawFit' (LE 40) bLawEnds FLawEnds'.kp mLawEnds n_len).mono (show 81 ≤ 90 by decide))
  have cTS := (Std.mk FLawTexts' bLawTexts mLawTexts).cal (ts_ok (P := P) (w := w) (base := base) FLawTexts' n_range)
  have cSP := (Std.mk FLawShaped' bLawShaped mLawShaped).cal (sp_tower (P := P) (w := w) (base := base) (Std.mk FLawShaped' bLawShaped mLawShaped) n_isinstance n_tuple n_len n_str n_all 30)
  have cWI := (Std.mk FLawWide' bLawWide mLawWide).cal (wi_ok (Std.mk FLawWide' bLawWide mLawWide) ((Std.mk FLawSize' bLawSize mLawSize).cal (LS 60)) n_max)
  have cBD := (Std.mk FLawBehind' bLawBehind mLawBehind).cal (bd_ok (Std.mk FLawBehind' bLawBehind mLawBehind) cLF cSP cFI cEM n_isinstance n_bool)
  exact law_ok (Std.mk FLaw' bLaw mLaw) cCA cLT cDR cTS cWI cBD n_len
end
end Bo
set_option Elab.async false
set_option linter.all false
open PySem PySem.W PySem.Calls PyProof.Rows
set_option maxRecDepth 100000 in
set_option maxHeartbeats 0 in
theorem PySem.Challenge.cw_bothreed_k05_what_is_left_holds : PySem.Challenge.rw_bothreed_k05_what_is_left.Holds := by
  w_on; o_law
  refine HandSHeadRun.head_any (r := Bo.R) (q := view Bo.R.prog [45]) (H := Bo.hk) (ob := Bo.ob) (M := 9000) (loose := Bo.names) (d := HandSHeadRun.topDef Bo.R.prog 45) (kwd := []) Bo.ob_eq
    (by kernel_rfl) (fun s => by kernel_rfl) Bo.run (by kernel_rfl) (by kernel_rfl) (by kernel_rfl) (by rfl) (by first | assumption | decide +kernel) (by decide +kernel) ⟨rfl, rfl, rfl, rfl, rfl, by decide +kernel⟩ ?hw ?hc
  case hw => w_witness2
  case hc =>
    refine LamX.walk_ofTsE (l := PySem.Challenge.rw_bothreed_k05_what_is_left) (n := 63) (k := 165) (x := "_law_script") (CX := fun _ => L2.CX0) rfl (by decide) (by kernel_rfl) ⟨rfl, by decide, by decide⟩ ?F (fun _ _ _ _ _ z => z)
    intro w mg f h Y G hmg0
    obtain ⟨K, KX, c⟩ := Y
    have hmg : mg ("law" : PySem.Str) = some (.ref f) := by
      have e : (HandSHeadRun.topDef Bo.R.prog 45).name = ("law" : PySem.Str) := by kernel_rfl
      rw [← e]
      exact hmg0
    obtain ⟨fd, hb, hF⟩ := Bo.facts (P := PySem.Challenge.rw_bothreed_k05_what_is_left.prog) (w := w) KX G hmg c
    refine ⟨K, KX, fd, Bo.tf.map (He.cT K), _, ?_, ?_, ?_, hb, ?_, hF⟩
    · intro p hp
      obtain ⟨x, hx, rfl⟩ := List.mem_map.mp hp
      exact c.empty x hx
    · intro p hp
      obtain ⟨x, hx, rfl⟩ := List.mem_map.mp hp
      exact c.out x hx
    · intro p hp
      obtain ⟨x, hx, rfl⟩ := List.mem_map.mp hp
      exact PySem.W.codeHd_of_K KX (c.hd x hx)
    · intro H a ns hl _ hT hS
      have tab : ∀ x : PySem.Str, ((x, none) : He.Defn) ∈ Bo.tf → GxR.TabG H (He.cT K (x, none)).2 := fun x hx => ⟨#[], hT _ (List.mem_map_of_mem hx), trivial⟩
      exact ⟨a, ns, rfl, hl, hS, ⟨⟨tab "takes_empty" (by simp [Bo.tf]), tab "covers" (by simp [Bo.tf]), tab "many_covers" (by simp [Bo.tf]), tab "row_covers" (by simp [Bo.tf])⟩, tab "either" (by simp [Bo.tf]), tab "both" (by simp [Bo.tf]), tab "needed" (by simp [Bo.tf])⟩, fun _ => rfl⟩
