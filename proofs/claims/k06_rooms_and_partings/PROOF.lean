import PyProof.Rows.All
import Wide.All
import OpenK.AllK
import Wide.FinOn
import HandS.ForMost
import HandS.AnyAll
import HandS.GenOver
import HandS.Strs
import HandS.Defaults
import HandS.WideBits
import KE.KStateDown
import Lean
import HandS.ForExc
import HandS.Head0
import HandS.Head1
import HandS.Head2
import HandS.HeadEnd
import HandS.HeadHook1
import HandS.HeadHook2
import HandS.HeadHook3
import HandS.HeadHook4
import HandS.HeadWalk
import HandS.IsInst
import HandS.Text
import HandS.ExcCtx
import HandS.Codes
import HandS.ForDict
import HandS.Conv
import HandS.Steps
import PyProof.P3Eq
import PyProof.StrLaws
import HandS.TupMul
import HandS.TupSets
import HandS.MapJoin
import HandS.Rev
import HandS.Zip
import KE.KDictZip
import HandS.Replace
import PyProof.StrLawsFirst
import HandS.TupLen
import HandS.HotCalls
import HandS.ExcIs
import HandS.ExcOwn
import HandS.Wide
import HandS.EndTab
import KE.KNestM
import PySem.Challenge.RW_bothreed_k06_rooms_and_partings
set_option Elab.async false
set_option linter.all false
set_option maxRecDepth 100000
set_option maxHeartbeats 4000000
/-! any, all over a generator expression whose element may call defs of the program's own -/
namespace GE
open PySem PySem.Spec PyProof.Rows L2 GxR
theorem over_start {A : Around} {elt iter tg : Expr} {ifs : List Expr} {scope : Scope} {pos : Pos} {it acc : Value} {env : Env} :
    A.over (.compStart (.GeneratorExp elt [⟨tg, iter, ifs, 0⟩] scope pos) 0 it acc env) [] = A.deeper env := by
  obtain ⟨hd, d, fr, gs, u⟩ := A
  simp [Around.over, Around.deeper, marksOver, frameCount, unitsOf, envsOf, guardsOf, pushEnvs, pushGuards, Code.envs, Code.env?, Code.isFrame, Code.guards, Code.isGuard, Code.weight, Code.frames, Code.isCreation, Code.isCaller, Code.cUnits]
theorem over_loop {A : Around} {elt iter tg : Expr} {ifs : List Expr} {scope : Scope} {pos : Pos} {it acc : Value} {env : Env} :
    A.over (.compLoop (.GeneratorExp elt [⟨tg, iter, ifs, 0⟩] scope pos) 0 it acc env) [] = A.deeper env := by
  obtain ⟨hd, d, fr, gs, u⟩ := A
  simp [Around.over, Around.deeper, marksOver, frameCount, unitsOf, envsOf, guardsOf, pushEnvs, pushGuards, Code.envs, Code.env?, Code.isFrame, Code.guards, Code.isGuard, Code.weight, Code.frames, Code.isCreation, Code.isCaller, Code.cUnits]

/-- the context of the generator's turns -/
abbrev Cx.gen (X : Cx) (s : Shared) (H : Hp) (cenv : Env) (fp : List Addr) (x : Str) : Cx :=
  { X with A := X.A.in1.in1.deeper cenv, N := X.N ++ [x], s_0 := s, H_0 := H, env := cenv, outer := X.stack, stack := cenv :: X.stack, ex := fp, fn := fun _ => false, pn := [], xe := fun _ _ => False }
/-- the environment of the generator's frame -/
abbrev gEnv (X : Cx) (scope : Scope) (C : Addr) (code : Value) : Env := genEnv scope (cloFrom X.env.cells scope.names []) C code builtinsNs X.env
theorem Room.gen {k : Nat} {A : Around} (r : Room (k + 1) A) (env : Env) : Room k (A.in1.in1.deeper env) :=
  ⟨r.hd, by have := r.dp; show A.depth + 1 + 3 * k + 5 < _; omega, by have := r.un; show A.units + 1 + 1 + 3 + 16 * k + 200 < _; omega⟩

/-- the scope of the generator expression -/
structure GSc (N : List Str) (sc scope : Scope) (x : Str) : Prop where
  blk : BlkOk (N ++ [x]) sc scope [(x, N.length)]
  nd : (N ++ [x]).Nodup
  co : scope.isCoroutine = false
  cell : ∀ y ∈ scope.names, y.2 ≠ .cell
  dot : scope.names.lookup (".0" : Str) = some NameKind.local
  loc : scope.names.lookup x = some .local
def gscC (N : List Str) (sc scope : Scope) (x : Str) : Bool :=
  blkC (N ++ [x]) sc scope [(x, N.length)] && decide ((N ++ [x]).Nodup) && !scope.isCoroutine && (scope.names.all fun y => match y.2 with | .cell => false | _ => true) && (match scope.names.lookup (".0" : Str) with | some .local => true | _ => false)
    && (match scope.names.lookup x with | some .local => true | _ => false)
theorem gsc_by {N : List Str} {sc scope : Scope} {x : Str} (h : gscC N sc scope x = true) : GSc N sc scope x := by
  unfold gscC at h
  simp only [Bool.and_eq_true, decide_eq_true_eq, Bool.not_eq_true', List.all_eq_true] at h
  obtain ⟨⟨⟨⟨⟨h1, h2⟩, h3⟩, h4⟩, h5⟩, h6⟩ := h
  refine ⟨blkOk_by h1, h2, h3, fun y hy e => ?_, ?_, ?_⟩
  · have := h4 y hy
    rw [e] at this
    cases this
  · split at h5
    · assumption
    · cases h5
  · split at h6
    · assumption
    · cases h6

section
variable {X : Cx} {pins : List (Addr × Obj)} {σ : L2.St} {H : Hp} {s s' : Shared}
/-- the same heap, other tokens and generators -/
theorem Inv.regen (I : Inv X pins σ H s) (hh : s'.heap = s.heap) (ho : s'.os = s.os) (hb : AllBare s'.gens) : Inv X pins σ H s' := by
  obtain ⟨h, g, d, t, o⟩ := s
  obtain ⟨h', g', d', t', o'⟩ := s'
  obtain rfl : h' = h := hh
  obtain rfl : o' = o := ho
  exact ⟨I.ok, I.os, hb, I.base, I.loc, I.cell, I.free, I.freeC, I.pin, I.hok, I.len⟩

theorem gen_start {scope : Scope} {x : Str} {code : Value} {m : Str → Option Value} {fp : List Addr} (I : Inv X pins σ H s) (S : GSc X.N X.env.scope scope x) (hfp : ∀ b ∈ fp, FpOk X pins H b ∧ b < s.heap.objs.size)
    (hn : s'.heap.Ns s.heap.objs.size m) (kp : ∀ b o, s.heap.get? b = some o → s'.heap.get? b = some o) (ho : s'.os = s.os) (hb : AllBare s'.gens) :
    Inv (Cx.gen X s H (gEnv X scope s.heap.objs.size code) fp x) [] (σ ++ [none]) H s' := by
  have ok := S.blk
  have hfree : ∀ y ∈ scope.names, y.2 = .free → ∃ c, X.env.cells.lookup y.1 = some c := fun y hy e => by
    rcases ok.free y hy e with k | k
    · exact I.ok.has _ (.inl k)
    · exact I.ok.has _ (.inr k)
  have cm : ∀ {y c}, (y, c) ∈ cloFrom X.env.cells scope.names [] → X.env.cells.lookup y = some c ∧ c < s.heap.objs.size := fun {y c} hm => by
    rcases cloFrom_mem hm with hm | ⟨h1, rfl⟩
    · cases hm
    · obtain ⟨c, hc⟩ := hfree _ h1 rfl
      rw [hc]
      obtain ⟨w, z⟩ := I.cell _ _ hc
      exact ⟨rfl, z.lt⟩
  generalize hcenv : gEnv X scope s.heap.objs.size code = cenv
  have hL : cenv.locals = s.heap.objs.size := by rw [← hcenv]; rfl
  have hcl : cenv.cells = cloFrom X.env.cells scope.names [] := by rw [← hcenv]; rfl
  have hsc : cenv.scope = scope := by rw [← hcenv]; rfl
  have hfr : cenv.frame = some cenv.locals := by rw [← hcenv]; rfl
  have mem : ∀ {y c}, cenv.cells.lookup y = some c → X.env.cells.lookup y = some c ∧ c < s.heap.objs.size := fun {y c} e => by
    rw [hcl] at e
    exact cm (PySem.mem_of_lookup e)
  have look : ∀ {y}, scope.names.lookup y = some .free → ∃ c, cenv.cells.lookup y = some c ∧ X.env.cells.lookup y = some c := fun {y} hl => by
    have hy : (y, NameKind.free) ∈ scope.names := PySem.mem_of_lookup hl
    obtain ⟨c', e'⟩ := mem_lookup (cloFrom_has (cells := X.env.cells) (acc := []) hy)
    rw [← hcl] at e'
    exact ⟨c', e', (mem e').1⟩
  have okG : (Cx.gen X s H cenv fp x).Ok := by
    refine ⟨I.ok.mod, by show cenv.scope.kind = _; rw [hsc]; exact ok.kind, by show cenv.globals = _; rw [← hcenv]; exact I.ok.glob, by show cenv.builtins = _; rw [← hcenv]; rfl, by show s.heap.objs.size ≤ cenv.locals; rw [hL]; exact Nat.le_refl _,
      fun y z c e1 e2 => ?_, fun y hy => ?_, fun y c z e => ?_, I.ok.hd, ?_, .inr ⟨rfl, hfr⟩, fun b hb => ⟨?_, fun y c e z => ?_⟩, I.bs, Nat.le_trans I.ok.bsz I.sz, fun b o e hb => ?_, fun b hb z => ?_, I.stack, I.stkFree⟩
    · exact I.ok.inj y z c (mem e1).1 (mem e2).1
    · show ∃ c, cenv.cells.lookup y = some c
      have key : ∀ k, cenv.kindOf y = some k → (k = .cell ∨ k = .free) → ∃ c, cenv.cells.lookup y = some c := fun k hk hk' => by
        unfold Env.kindOf at hk
        rw [hsc] at hk
        rcases hk' with rfl | rfl
        · exact absurd rfl (S.cell _ (PySem.mem_of_lookup hk))
        · obtain ⟨c, h1, _⟩ := look hk
          exact ⟨c, h1⟩
      rcases hy with hy | hy
      · exact key _ hy (.inl rfl)
      · exact key _ hy (.inr rfl)
    · cases z
    · show (X.A.in1.in1.deeper cenv).frames = some (cenv :: X.stack)
      have := I.ok.frames
      show pushEnvs [cenv] X.A.frames = some (cenv :: X.stack)
      rw [this]; rfl
    · show b ≠ cenv.locals
      rw [hL]; exact Nat.ne_of_lt (hfp b hb).2
    · exact (hfp b hb).1.2.2.2.2.1 y c (mem e).1 z
    · rcases (hfp b hb).1.2.2.2.1 with z | z
      · exact I.ok.noex b o e z
      · exact absurd (Nat.lt_of_lt_of_le (Heap.lt_size e) (Nat.le_trans I.ok.bsz z)) (Nat.lt_irrefl _)
    · rcases List.mem_cons.mp (I.stkSub b z) with z | z
      · exact (hfp b hb).1.2.1 z
      · exact (hfp b hb).1.2.2.1 z
  refine ⟨okG, ho, hb, Un.kept kp, ⟨m, ?_, fun i y av e1 e2 e3 => ?_⟩, fun y c e => ?_, ?_, fun y c e => ?_, fun p hp => ?_, I.hok.kept kp, ?_⟩
  · show Heap.Ns _ cenv.locals _
    rw [hL]; exact hn
  · have hi : i < σ.length := by
      rcases Nat.lt_or_ge i σ.length with h | h
      · exact h
      · rw [List.getElem?_append_right h] at e2
        rcases Nat.eq_zero_or_pos (i - σ.length) with z | z
        · rw [z] at e2; cases e2
        · rw [List.getElem?_eq_none (by simp; omega)] at e2; cases e2
    have hN : i < X.N.length := by rw [← I.len]; exact hi
    rw [List.getElem?_append_left hi] at e2
    have e1 : (X.N ++ [x])[i]? = some y := e1
    have e1N := e1
    rw [List.getElem?_append_left hN] at e1N
    have hfreeY : scope.names.lookup y = some .free := by
      have key : ∀ k, scope.names.lookup y = some k → k = .local ∨ k = .cell ∨ k = .free → scope.names.lookup y = some .free := fun k hk hk' => by
        have no : ¬ (k = .local ∨ k = .cell) := fun hh => by
          rcases ok.own _ (PySem.mem_of_lookup hk) hh with e' | e'
          · have : y = x := by simpa using e'
            subst this
            have e3 : (X.N ++ [y])[X.N.length]? = some y := by simp
            have := nodup_ix S.nd e1 e3
            omega
          · exact e' (List.mem_of_getElem? e1)
        rcases hk' with rfl | rfl | rfl
        · exact absurd (.inl rfl) no
        · exact absurd (.inr rfl) no
        · exact hk
      have e3 : Vis cenv.scope y := e3
      rw [hsc] at e3
      rcases e3 with e3 | e3 | e3
      · exact key _ e3 (.inl rfl)
      · exact key _ e3 (.inr (.inl rfl))
      · exact key _ e3 (.inr (.inr rfl))
    obtain ⟨m', hn', hl⟩ := I.loc
    have hvis : Vis X.env.scope y := (ok.free _ (PySem.mem_of_lookup hfreeY) rfl).elim (fun k => .inr (.inl k)) (fun k => .inr (.inr k))
    obtain ⟨w, r, q⟩ := hl i y av e1N e2 hvis
    refine ⟨w, r, .inr ⟨.inr (by show cenv.scope.names.lookup y = _; rw [hsc]; exact hfreeY), ?_⟩⟩
    obtain ⟨c, h1, h2⟩ := look hfreeY
    rcases q with ⟨k, _⟩ | ⟨_, c', e', z⟩
    · have k : X.env.scope.names.lookup y = some .local := k
      rcases ok.free _ (PySem.mem_of_lookup hfreeY) rfl with k' | k' <;> rw [show X.env.scope.names.lookup y = _ from k'] at k <;> cases k
    · rw [h2] at e'; cases e'
      exact ⟨c, h1, z.keeps kp⟩
  · obtain ⟨w, z⟩ := I.cell y c (mem e).1
    exact ⟨w, z.keeps kp⟩
  · show H cenv.locals = none
    rw [hL]; exact I.hok.fresh (Nat.le_refl _)
  · exact I.freeC y c (mem e).1
  · exact absurd (show p ∈ ([] : List (Addr × Obj)) ++ [] from hp) (by simp)
  · show (σ ++ [none]).length = (X.N ++ [x]).length
    simp [I.len]
end

/-! ### the turns -/
def GR (XG : Cx) (pn : List (Addr × Obj)) (σ0 : L2.St) (QF : Hp → Prop) : Nat → Shared → Shared → Prop := fun _ _ s₁ => ∃ H, Inv XG pn σ0 H s₁ ∧ QF H
def GYp (XG : Cx) (pn : List (Addr × Obj)) (σ0 : L2.St) (stopv : Bool) (QS : Hp → Prop) (fp : List Addr) (tn : Nat → Heap → Prop) (W : Nat → Nat → Hp → Prop) : Protocol := fun k _ v s kap =>
  ∃ H b, v = .bool b ∧ Inv XG pn σ0 H s ∧ (if b = stopv then QS H else ∃ i m, m < k ∧ tn i s.heap ∧ (∀ c ∈ fp, H c = none) ∧ W i m H ∧ ∀ s'' : Shared, s''.heap = s.heap → s''.os = s.os → AllBare s''.gens → kap (.send .none) s'')
theorem set_last {α : Type} (l : List (Option α)) (v : α) : (l ++ [none]).set l.length (some v) = l ++ [some v] := by
  induction l with
  | nil => rfl
  | cons a r ih => show a :: ((r ++ [none]).set r.length (some v)) = a :: (r ++ [some v]); rw [ih]
section
variable {X : Cx} {s1 : Shared} {H1 : Hp} {cenv : Env} {fp : List Addr} {x : Str} {px : Pos} {J : It} {it : Addr} {tn : Nat → Heap → Prop} {pn : List (Addr × Obj)} {σ : L2.St} {stopv : Bool} {QS QF : Hp → Prop} {W : Nat → Nat → Hp → Prop} {elt iter : Expr} {te : TE} {scope : Scope} {pos : Pos}
theorem seg_turns (hc : X.calm = true) (T : Turn X.prog X.w X.K (.Name x px) J fp it tn) (hpn : ∀ p ∈ pn, ∀ b ∈ fp, p.1 ≠ b) (nd : (X.N ++ [x]).Nodup) (hx : cenv.scope.names.lookup x = some .local) (hco : cenv.scope.isCoroutine = false)
    (he : PE (Cx.gen X s1 H1 cenv fp x) elt te)
    (turn : ∀ i m H, W i m H → (J.stop i H ∧ QF H) ∨ (J.go i H ∧ ∃ Nx : Hp → Prop, (∀ H', Nx H' → ∃ m', m' < m ∧ W (i + 1) m' H') ∧ ∀ v H', J.yld i H v H' → te (σ ++ [some v]) H' fun y H2 => ∃ b, y = .bl b ∧ if b = stopv then QS H2 else Nx H2)) :
    ∀ (n m i : Nat) (s₀ s : Shared) (H : Hp), m < n → Inv (Cx.gen X s1 H1 cenv fp x) pn (σ ++ [none]) H s → tn i s.heap → (∀ b ∈ fp, H b = none) → W i m H →
      Seg (model X.prog X.w) X.A.in1.in1 (fun n s₀ r s₁ => r = .ok .next ∧ GR (Cx.gen X s1 H1 cenv fp x) pn (σ ++ [none]) QF n s₀ s₁) (GYp (Cx.gen X s1 H1 cenv fp x) pn (σ ++ [none]) stopv QS fp tn W) n s₀
        (.compLoop (.GeneratorExp elt [⟨.Name x px, iter, [], 0⟩] scope pos) 0 (.ref it) .none cenv) ((model X.prog X.w).den (.compLoop (.GeneratorExp elt [⟨.Name x px, iter, [], 0⟩] scope pos) 0 (.ref it) .none cenv)) [] s := by
  intro n
  induction n with
  | zero => intro m i s₀ s H hm; exact absurd hm (Nat.not_lt_zero _)
  | succ k ih =>
    intro m i s₀ s H hm I st fr w
    have ov : X.A.in1.in1.over (.compLoop (.GeneratorExp elt [⟨.Name x px, iter, [], 0⟩] scope pos) 0 (.ref it) .none cenv) [] = (Cx.gen X s1 H1 cenv fp x).A := over_loop
    have stat : ∀ {H' : Hp}, (∀ b ∈ fp, H' b = none) → ∀ b ∈ fp, FpOk (Cx.gen X s1 H1 cenv fp x) pn H' b := fun hn b hb =>
      ⟨hn b hb, (I.ok.exf b hb).1, I.ok.exfs b hb, .inl hb, fun x c e => (I.ok.exf b hb).2 x c e, fun p hp => by
        rcases List.mem_append.mp hp with z | z
        · cases z
        · exact hpn p z b hb⟩
    show Seg _ _ _ _ _ s₀ _ ((compTurn (.GeneratorExp elt [⟨.Name x px, iter, [], 0⟩] scope pos) 0 (.ref it) .none cenv).onRaise (leaving cenv)) [] s
    rw [compTurn_gen, Sem.onRaise_eq_wrap]
    refine seg_bind_wrap (wpAny_standAt ?_)
    refine seg_bind_wrap ?_
    rw [ov]
    rcases turn i m H w with ⟨stop, qf⟩ | ⟨go, Nx, hNx, step⟩
    · refine thnF (T.done (Cx.gen X s1 H1 cenv fp x) rfl rfl rfl hc i pn s _ H (fun _ _ => False) I (stat fr) st stop) fun r s2 ⟨hr, I2⟩ => ?_
      subst hr
      exact seg_end (.ok .next) ⟨rfl, H, I2, qf⟩
    · refine thnF (T.item (Cx.gen X s1 H1 cenv fp x) rfl rfl rfl hc i pn s _ H (fun _ _ => False) I (stat fr) st go) fun r s2 ⟨u, hr, h2⟩ => ?_
      subst hr
      refine seg_bind_wrap ?_
      rw [ov]
      refine thnF h2 fun _ s3 ⟨v, H3, I3, r3, y3, st3, fr3⟩ => ?_
      have I3' := I3.pinned (stat fr3) (T.obj _ _ st3)
      have hl : σ.length = X.N.length := by
        have := I.len
        simp at this
        exact this
      have pg : PG (Cx.gen X s1 H1 cenv fp x) (.Name x px) (gName X.N.length) := pg_name nd (by show (X.N ++ [x])[X.N.length]? = some x; simp) (.inl hx) (.inr hx)
      refine seg_bind_wrap ?_
      rw [ov]
      refine thnF (pg.run _ s3 _ H3 v u (fun σ' H' => σ' = σ ++ [some v] ∧ H' = H3) I3' r3 ⟨by rw [← hl]; exact set_last σ v, rfl⟩) fun _ s4 ⟨σ4, H4, I4, e4, e4'⟩ => ?_
      subst e4 e4'
      simp only [List.forIn_nil]
      refine seg_bind_wrap (wpAny_pure ?_)
      simp only [if_true]
      have hy : ∀ v, yieldOut cenv v = yieldValue v := fun v => by simp only [yieldOut, hco, Bool.false_eq_true, if_false]
      simp only [hy]
      rw [Sem.bind_eq_wrap', Sem.bind_eq_wrap', Sem.wrap_wrap, Sem.wrap_wrap]
      refine seg_wrap ?_
      rw [ov]
      refine thnF (he.run _ s4 _ H4 _ I4 (step v H4 y3)) fun z s5 ⟨yv, H5, I5, r5, b, eb, q5⟩ => ?_
      subst eb
      obtain rfl : z = Value.bool b := r5
      have pin' : ∀ c ∈ fp, ∀ o, s3.heap.get? c = some o → s5.heap.get? c = some o ∧ H5 c = none := fun c hc o e =>
        let z := I5.pin (c, o) (List.mem_append_right _ (List.mem_append_right _ (mem_pinsAt hc e)))
        ⟨z.1, z.2.1⟩
      have st5 : tn (i + 1) s5.heap := T.keep _ _ _ st3 fun c hc o e => (pin' c hc o e).1
      have fr5 : ∀ c ∈ fp, H5 c = none := fun c hc => by
        obtain ⟨o, e, _⟩ := T.obj _ _ st3 c hc
        exact (pin' c hc o e).2
      have I5' : Inv (Cx.gen X s1 H1 cenv fp x) pn (σ ++ [none]) H5 s5 := (I5.unpinned (pins := pn)).weak (by simp) fun j w e => by
        rcases Nat.lt_or_ge j σ.length with h | h
        · rw [List.getElem?_append_left h] at e ⊢; exact e
        · rw [List.getElem?_append_right h] at e
          rcases Nat.eq_zero_or_pos (j - σ.length) with z | z
          · rw [z] at e; cases e
          · rw [List.getElem?_eq_none (by simp; omega)] at e; cases e
      refine seg_at (seg_yield rfl rfl rfl ⟨H5, b, rfl, I5', ?_⟩)
      by_cases hb : b = stopv
      · rw [if_pos hb] at q5 ⊢
        exact q5
      · rw [if_neg hb] at q5 ⊢
        obtain ⟨m', hm', w'⟩ := hNx H5 q5
        refine ⟨i + 1, m', by omega, st5, fr5, w', fun s'' e1 e2 e3 => ?_⟩
        refine seg_again rfl (ih m' (i + 1) s'' s'' H5 (by omega) (Inv.regen I5' e1 e2 e3) ?_ fr5 w')
        rw [e1]; exact st5
theorem seg_first (hc : X.calm = true) (T : Turn X.prog X.w X.K (.Name x px) J fp it tn) (hpn : ∀ p ∈ pn, ∀ b ∈ fp, p.1 ≠ b) (nd : (X.N ++ [x]).Nodup) (hx : cenv.scope.names.lookup x = some .local) (hco : cenv.scope.isCoroutine = false)
    (he : PE (Cx.gen X s1 H1 cenv fp x) elt te)
    (turn : ∀ i m H, W i m H → (J.stop i H ∧ QF H) ∨ (J.go i H ∧ ∃ Nx : Hp → Prop, (∀ H', Nx H' → ∃ m', m' < m ∧ W (i + 1) m' H') ∧ ∀ v H', J.yld i H v H' → te (σ ++ [some v]) H' fun y H2 => ∃ b, y = .bl b ∧ if b = stopv then QS H2 else Nx H2))
    (n m : Nat) (s₀ s : Shared) (H : Hp) (hm : m < n) (I : Inv (Cx.gen X s1 H1 cenv fp x) pn (σ ++ [none]) H s) (st : tn 0 s.heap) (fr : ∀ b ∈ fp, H b = none) (w : W 0 m H) :
      Seg (model X.prog X.w) X.A.in1.in1 (fun n s₀ r s₁ => r = .ok .next ∧ GR (Cx.gen X s1 H1 cenv fp x) pn (σ ++ [none]) QF n s₀ s₁) (GYp (Cx.gen X s1 H1 cenv fp x) pn (σ ++ [none]) stopv QS fp tn W) n s₀
        (.compStart (.GeneratorExp elt [⟨.Name x px, iter, [], 0⟩] scope pos) 0 (.ref it) .none cenv) ((model X.prog X.w).den (.compStart (.GeneratorExp elt [⟨.Name x px, iter, [], 0⟩] scope pos) 0 (.ref it) .none cenv)) [] s := by
  have ov : X.A.in1.in1.over (.compStart (.GeneratorExp elt [⟨.Name x px, iter, [], 0⟩] scope pos) 0 (.ref it) .none cenv) [] = (Cx.gen X s1 H1 cenv fp x).A := over_start
  have loop := seg_turns (iter := iter) (px := px) (scope := scope) (pos := pos) hc T hpn nd hx hco he turn n m 0 s₀ s H hm I st fr w
  show Seg _ _ _ _ _ s₀ _ ((compStart (.GeneratorExp elt [⟨.Name x px, iter, [], 0⟩] scope pos) 0 (.ref it) .none cenv).onRaise (leaving cenv)) [] s
  unfold compStart
  rw [Sem.onRaise_eq_wrap]
  show Seg _ _ _ _ _ s₀ _ ((ask >>= _).wrap _ _ _ _) [] s
  refine seg_bind_wrap (wpAny_askSetting ?_)
  split
  · exact seg_again rfl loop
  · first
      | exact seg_bind_wrap (wpAny_rule (seg_bind_wrap (wpAny_standAt (seg_bind_wrap (T.self _ 0 s _ _ st (seg_again rfl loop))))))
      | (refine seg_bind_wrap (wpAny_rule ?_); show Seg _ _ _ _ _ s₀ _ ((standAt iter.pos >>= _).wrap _ _ _ _) [] s; exact seg_bind_wrap (wpAny_standAt (seg_bind_wrap (T.self _ 0 s _ _ st (seg_again rfl loop)))))
end
end GE
set_option Elab.async false
set_option linter.all false
set_option maxRecDepth 100000
set_option maxHeartbeats 4000000
namespace GE
open PySem PySem.Spec PyProof.Rows L2 GxR
theorem AllBare.setGen {s : Shared} {g : Nat} {x : GenState} (h : AllBare s.gens) (hx : x.bare = true) : AllBare (s.setGen g x).gens := by
  intro y hy
  have hy' : y ∈ s.gens.setIfInBounds g x := hy
  obtain ⟨i, hi, e⟩ := Array.mem_iff_getElem.mp hy'
  have hi' : i < s.gens.size := by simpa using hi
  rw [Array.getElem_setIfInBounds] at e
  split at e
  · rw [← e]; exact hx
  · rw [← e]; exact h _ (Array.getElem_mem hi')
  · exact hi'
section
variable {X : Cx} {s1 : Shared} {H1 : Hp} {cenv : Env} {fp : List Addr} {x : Str} {px : Pos} {J : It} {it a g : Nat} {tn : Nat → Heap → Prop} {pn : List (Addr × Obj)} {σ : L2.St} {stopv : Bool} {QS QF : Hp → Prop} {W : Nat → Nat → Hp → Prop} {elt iter : Expr} {te : TE} {scope : Scope} {pos : Pos} {R : Result → Shared → Prop}
/-- between two turns -/
def JG (X : Cx) (XG : Cx) (pn : List (Addr × Obj)) (σ0 : L2.St) (stopv : Bool) (QS QF : Hp → Prop) (fp : List Addr) (tn : Nat → Heap → Prop) (W : Nat → Nat → Hp → Prop) (a g n : Nat) (s : Shared) : Prop :=
  (∃ H, Inv XG pn σ0 H s) ∧ s.heap.IsGen a g ∧ ∃ gs, s.gens[g]? = some gs ∧ ∀ s'' : Shared, s''.heap = s.heap → s''.os = s.os → AllBare s''.gens →
    gs.Goes (model X.prog X.w) X.A.in1.in1 (fun n s₀ r s₁ => r = .ok .next ∧ GR XG pn σ0 QF n s₀ s₁) (GYp XG pn σ0 stopv QS fp tn W) n (.send .none) s''
/-- what pyNext leads to -/
def NX (X : Cx) (XG : Cx) (pn : List (Addr × Obj)) (σ0 : L2.St) (stopv : Bool) (QS QF : Hp → Prop) (fp : List Addr) (tn : Nat → Heap → Prop) (W : Nat → Nat → Hp → Prop) (a g n : Nat) (r : Option Value) (s : Shared) : Prop :=
  match r with
  | none => ∃ H, Inv XG pn σ0 H s ∧ QF H
  | some v => ∃ b, v = .bool b ∧ if b = stopv then ∃ H, Inv XG pn σ0 H s ∧ QS H else ∃ n', n' < n ∧ JG X XG pn σ0 stopv QS QF fp tn W a g n' s
theorem next_gen {XG : Cx} {σ0 : L2.St} {n : Nat} {s : Shared} {go : Obj} (hh : X.A.handled = none) (hroom : X.A.depth < recursionLimit) (hgo : (a, go) ∈ pn) (hG : ∀ h : Heap, h.get? a = some go → h.IsGen a g) (h : JG X XG pn σ0 stopv QS QF fp tn W a g n s) {E : Value → Shared → Prop} :
    wpAny (model X.prog X.w) X.A.in1 (pyNext (.ref a)) (NX X XG pn σ0 stopv QS QF fp tn W a g n) E s := by
  obtain ⟨⟨H, I⟩, hg, gs, hgs, goes⟩ := h
  have hsz : g + 1 ≤ s.gens.size := by
    rcases Nat.lt_or_ge g s.gens.size with h' | h'
    · exact h'
    · rw [Array.getElem?_eq_none h'] at hgs; cases hgs
  refine GenW.wpAny_gsz hsz ?_
  refine wpAny_pyNext_genexpQ (A := X.A.in1) (P := GR XG pn σ0 QF) hh I.nolimit hroom hg hgs (goes _ rfl rfl (AllBare.setGen I.bare rfl)) (fun v s₁ gs' hb hv => ?_) (fun s₁ hp h' hk => ?_)
  · obtain ⟨H', b, rfl, I', q⟩ := hv
    intro hsz'
    have I2 : Inv XG pn σ0 H' (s₁.setGen g gs') := Inv.regen I' rfl rfl (AllBare.setGen I'.bare hb)
    refine ⟨b, rfl, ?_⟩
    by_cases hbs : b = stopv
    · rw [if_pos hbs] at q ⊢
      exact ⟨H', I2, q⟩
    · rw [if_neg hbs] at q ⊢
      obtain ⟨i, m, hm, st, fr, w, kap⟩ := q
      cases n with
      | zero => exact absurd hm (Nat.not_lt_zero _)
      | succ k =>
        refine ⟨k, Nat.lt_succ_self _, ⟨H', I2⟩, hG _ (I2.pin (a, go) (List.mem_append_right _ hgo)).1, gs', ?_, fun s'' e1 e2 e3 => ?_⟩
        · have h9 : g < (s₁.gens.setIfInBounds g gs').size := hsz'
          have h8 : g < s₁.gens.size := by simpa using h9
          show (s₁.gens.setIfInBounds g gs')[g]? = some gs'
          rw [Array.getElem?_setIfInBounds_self_of_lt h8]
        · exact kap s'' e1 e2 e3
  · intro _
    obtain ⟨H', I', q⟩ := hp
    have I2 : Inv XG pn σ0 H' (s₁.setGen g .finished) := Inv.regen I' rfl rfl (AllBare.setGen I'.bare rfl)
    exact ⟨H', I2.kept (t' := (s₁.setGen g .finished).toks) hk, q⟩
theorem any_turns {XG : Cx} {σ0 : L2.St} {go : Obj} (hh : X.A.handled = none) (hroom : X.A.depth < recursionLimit) (hgo : (a, go) ∈ pn) (hG : ∀ h : Heap, h.get? a = some go → h.IsGen a g)
    (hS : ∀ H s, Inv XG pn σ0 H s → QS H → R (.ok (.ret (.bool true))) s) (hF : ∀ H s, Inv XG pn σ0 H s → QF H → R (.ok (.ret (.bool false))) s) :
    ∀ (n : Nat) (s : Shared), JG X XG pn σ0 true QS QF fp tn W a g n s → codeAny (model X.prog X.w) X.A (.builtin "any.loop" ⟨[.ref a], []⟩) R s := by
  intro n
  induction n using Nat.strongRecOn with
  | ind n ih =>
    intro s h
    refine codeAny_builtin PySem.F.entry_any_loop ?_
    rw [Around.under_plainId PySem.F.plain_any_loop _]
    show wpAny _ X.A.in1 (pyNext (.ref a) >>= _) _ _ s
    refine wpAny_bind (wpAny_mono (next_gen hh hroom hgo hG h (E := fun _ _ => False)) (fun r s' hr => ?_) fun _ _ z => False.elim z)
    cases r with
    | none =>
      obtain ⟨H', I', q⟩ := hr
      exact wpAny_bind (wpAny_rule (wpAny_pure (hF H' s' I' q)))
    | some v =>
      obtain ⟨b, rfl, q⟩ := hr
      refine wpAny_bind (wpAny_holding (wpAny_truthy_bool ?_))
      refine wpAny_bind (wpAny_letGo ?_)
      cases b with
      | true =>
        simp only [if_true] at q ⊢
        obtain ⟨H', I', q⟩ := q
        exact wpAny_bind (wpAny_rule (wpAny_pure (hS H' s' I' q)))
      | false =>
        simp only [Bool.false_eq_true, if_false] at q ⊢
        obtain ⟨n', hn, j⟩ := q
        exact wpAny_pure ⟨plainId_quiet PySem.F.plain_any_loop _, ih n' hn s' j⟩
theorem all_turns {XG : Cx} {σ0 : L2.St} {go : Obj} (hh : X.A.handled = none) (hroom : X.A.depth < recursionLimit) (hgo : (a, go) ∈ pn) (hG : ∀ h : Heap, h.get? a = some go → h.IsGen a g)
    (hS : ∀ H s, Inv XG pn σ0 H s → QS H → R (.ok (.ret (.bool false))) s) (hF : ∀ H s, Inv XG pn σ0 H s → QF H → R (.ok (.ret (.bool true))) s) :
    ∀ (n : Nat) (s : Shared), JG X XG pn σ0 false QS QF fp tn W a g n s → codeAny (model X.prog X.w) X.A (.builtin "all.loop" ⟨[.ref a], []⟩) R s := by
  intro n
  induction n using Nat.strongRecOn with
  | ind n ih =>
    intro s h
    refine codeAny_builtin PySem.F.entry_all_loop ?_
    rw [Around.under_plainId PySem.F.plain_all_loop _]
    show wpAny _ X.A.in1 (pyNext (.ref a) >>= _) _ _ s
    refine wpAny_bind (wpAny_mono (next_gen hh hroom hgo hG h (E := fun _ _ => False)) (fun r s' hr => ?_) fun _ _ z => False.elim z)
    cases r with
    | none =>
      obtain ⟨H', I', q⟩ := hr
      exact wpAny_bind (wpAny_rule (wpAny_pure (hF H' s' I' q)))
    | some v =>
      obtain ⟨b, rfl, q⟩ := hr
      refine wpAny_bind (wpAny_holding (wpAny_truthy_bool ?_))
      refine wpAny_bind (wpAny_letGo ?_)
      cases b with
      | false =>
        simp only [if_true] at q
        simp only [Bool.false_eq_true, if_false]
        obtain ⟨H', I', q⟩ := q
        exact wpAny_bind (wpAny_rule (wpAny_pure (hS H' s' I' q)))
      | true =>
        simp only [Bool.true_eq_false, if_false] at q
        simp only [if_true]
        obtain ⟨n', hn, j⟩ := q
        exact wpAny_pure ⟨plainId_quiet PySem.F.plain_all_loop _, ih n' hn s' j⟩
end
section
variable {X : Cx} {pins : List (Addr × Obj)} {σ : L2.St} {H : Hp} {s : Shared}
/-- any(..), all(..): stopv the truth at which it ends -/
def tQuant (stopv : Bool) (P : Addr) (wi : TI) (te : TE) : TE := fun σ H Q => wi σ H fun J H1 => TabG H1 P ∧ ∀ H2, Tabbed P H1 H2 → ∃ W : Nat → Nat → Hp → Prop, (∃ m, W 0 m H2) ∧ ∀ i m H, W i m H →
  (J.stop i H ∧ Q (.bl (!stopv)) H) ∨ (J.go i H ∧ ∃ Nx : Hp → Prop, (∀ H', Nx H' → ∃ m', m' < m ∧ W (i + 1) m' H') ∧ ∀ v H', J.yld i H v H' → te (σ ++ [some v]) H' fun y H3 => ∃ b, y = .bl b ∧ if b = stopv then Q (.bl stopv) H3 else Nx H3)
theorem gen_made {c P : Addr} {elt iter : Expr} {x : Str} {px gpos : Pos} {scope : Scope} {wi : TI} {te : TE} {k : Nat} {stopv : Bool} {Q : VK} {Q' : Value → Shared → Prop}
    (hc : X.calm = true) (hr : Room k X.A) (TB : TabB X.base X.mg c P) (hcode : X.env.code = .ref c) (S : GSc X.N X.env.scope scope x) (hi : PI X (.Name x px) iter wi)
    (he : ∀ (s : Shared) (H : Hp) (C : Addr) (code : Value) (fp : List Addr), PE (Cx.gen X s H (gEnv X scope C code) fp x) elt te)
    (hs : ∀ v, genFold iter X.env v = pure v) (I : Inv X pins σ H s) (h : tQuant stopv P wi te σ H Q)
    (hQ : ∀ (a g : Nat) (s5 : Shared) (XG : Cx) (pn : List (Addr × Obj)) (σ0 : L2.St) (fp : List Addr) (tn : Nat → Heap → Prop) (W : Nat → Nat → Hp → Prop) (go : Obj) (n : Nat), (a, go) ∈ pn → (∀ h : Heap, h.get? a = some go → h.IsGen a g) → s5.heap.IsGen a g →
      JG X XG pn σ0 stopv (fun H => Q (.bl stopv) H) (fun H => Q (.bl (!stopv)) H) fp tn W a g n s5 →
      (∀ H s, Inv XG pn σ0 H s → Inv X pins σ H s) → Q' (.ref a) s5) :
    wpAny (model X.prog X.w) X.A (eval (.GeneratorExp elt [⟨.Name x px, iter, [], 0⟩] scope gpos) X.env) Q' X.xe s := by
  have hfree : ∀ y ∈ scope.names, y.2 = .free → ∃ c, X.env.cells.lookup y.1 = some c := fun y hy e => by
    rcases S.blk.free y hy e with k | k
    · exact I.ok.has _ (.inl k)
    · exact I.ok.has _ (.inr k)
  refine wpAny_GeneratorExp_make S.co (closure_ok hfree) S.cell S.dot S.blk.kind (by have := hr.dp; omega) ?_ hs
  refine thn (hi.run pins s σ H _ I h) fun xv s1 hx => thn hx fun itv s2 h2 => ?_
  obtain ⟨it, fp, tn, J, H2, rfl, I2, T, st2, f2, ⟨ps, hP, ht⟩, q⟩ := h2
  refine ⟨I2.nolimit, ?_⟩
  have hPs : s2.heap.get? P = some { cls := .none, data := .fields ps } := I2.hok P _ hP
  have cd : PySem.W.CodeHd s2.heap c P := TB.code.keeps fun b u e => I2.bk b u e
  have nfP : ∀ b ∈ fp, b ≠ P := fun b hb z => by
    have := (f2 b hb).1
    rw [z, hP] at this; cases this
  have cont : ∀ (code : Value) (s3 : Shared) (H3 : Hp), Tabbed P H2 H3 → Inv X pins σ H3 s3 → (∀ b o, b ≠ P → s2.heap.get? b = some o → s3.heap.get? b = some o) →
      wpAny (model X.prog X.w) X.A (builtinsFor X.env.globals X.env.builtins) (fun bi s₄ =>
        ∀ h', h'.Ns s₄.heap.objs.size (fun y => if y = ".0" then some (.ref it) else none) → Heap.SameBut s₄.heap.objs.size (s₄.heap.push { cls := .type "frame", data := .dict #[] }) h' →
          Q' (.ref h'.objs.size) { s₄ with
            gens := s₄.gens.push (.fresh (.compStart (.GeneratorExp elt [⟨.Name x px, iter, [], 0⟩] scope gpos) 0 (.ref it) .none (genEnv scope (cloFrom X.env.cells scope.names []) s₄.heap.objs.size code bi X.env))),
            toks := s₄.toks + 1 + 1 + 1,
            heap := h'.push { cls := .type "generator", data := .fields #[.int s₄.gens.size 0, .str "<genexpr>" (s₄.toks + 1), .str (X.env.qual ++ "<genexpr>") (s₄.toks + 1 + 1)] } }) X.xe s3 := by
    intro code s3 H3 tb I3 keep3
    obtain ⟨bm, ob, e1, e2, e3, e4, e5, e6, e7, e8⟩ := TB.bm
    refine wpAny_builtinsFor (m := X.mg) (by rw [I3.ok.glob]; exact I3.mod.glob.keeps I3.bk) e1 e2 (I3.bk _ _ e5) e6 e7 e8 ?_
    intro h' hn' hs'
    obtain ⟨W, ⟨m0, w0⟩, turn⟩ := q H3 tb
    have hsz : h'.objs.size = s3.heap.objs.size + 1 := by rw [hs'.1, Heap.size_push]
    have keep' : ∀ b o, s3.heap.get? b = some o → h'.get? b = some o := fun b o e => hs'.extBut b o (Nat.ne_of_lt (Heap.lt_size e)) (Heap.get?_push_of_some _ e)
    generalize hgo : ({ cls := .type "generator", data := .fields #[.int s3.gens.size 0, .str "<genexpr>" (s3.toks + 1), .str (X.env.qual ++ "<genexpr>") (s3.toks + 1 + 1)] } : Obj) = go
    have hG : ∀ h : Heap, h.get? h'.objs.size = some go → h.IsGen h'.objs.size s3.gens.size := fun h e => ⟨go, _, _, e, by rw [← hgo], by rw [← hgo], by rw [← hgo]⟩
    have keep5 : ∀ b o, s3.heap.get? b = some o → (h'.push go).get? b = some o := fun b o e => Heap.get?_push_of_some _ (keep' b o e)
    have gob : (h'.push go).get? h'.objs.size = some go := Heap.get?_push_size _ (by rw [← hgo]; rfl)
    have f3 : ∀ b ∈ fp, FpOk X pins H3 b ∧ b < s3.heap.objs.size := fun b hb => by
      obtain ⟨o, e, _⟩ := T.obj _ _ st2 b hb
      exact ⟨⟨by rw [tb.2 b (nfP b hb)]; exact (f2 b hb).1, (f2 b hb).2⟩, Heap.lt_size (keep3 b o (nfP b hb) e)⟩
    generalize hs5 : ({ s3 with
            gens := s3.gens.push (.fresh (.compStart (.GeneratorExp elt [⟨.Name x px, iter, [], 0⟩] scope gpos) 0 (.ref it) .none (genEnv scope (cloFrom X.env.cells scope.names []) s3.heap.objs.size code builtinsNs X.env))),
            toks := s3.toks + 1 + 1 + 1,
            heap := h'.push go } : Shared) = s5
    have eh : s5.heap = h'.push go := by rw [← hs5]
    have eo : s5.os = s3.os := by rw [← hs5]
    have eb : AllBare s5.gens := by rw [← hs5]; exact I3.bare.push rfl
    have I5 := gen_start (s' := s5) (code := code) I3 S f3 (by rw [eh]; exact hn'.push _) (fun b o e => by rw [eh]; exact keep5 b o e) eo eb
    have aL : h'.objs.size ≠ s3.heap.objs.size := by omega
    have aF : h'.objs.size ∉ frs X.stack := fun hm => by
      obtain ⟨_, o, ho, _⟩ := I3.stack.mem hm
      have h9 : h'.objs.size < s3.heap.objs.size := Heap.lt_size ho
      omega
    have aH : H3 h'.objs.size = none := I3.hok.fresh (by omega)
    have I6 : Inv (Cx.gen X s3 H3 (gEnv X scope s3.heap.objs.size code) fp x) [(h'.objs.size, go)] (σ ++ [none]) H3 s5 := I5.pins_of fun p hp => by
      rw [List.mem_singleton.mp hp]
      exact ⟨by rw [eh]; exact gob, aH, aL, aF, fun v z => by rw [← hgo] at z; cases z⟩
    have st5 : tn 0 s5.heap := T.keep _ _ _ st2 fun b hb o e => by rw [eh]; exact keep5 b o (keep3 b o (nfP b hb) e)
    refine hQ h'.objs.size s3.gens.size s5 _ [(h'.objs.size, go)] (σ ++ [none]) fp tn W go (m0 + 1) (List.mem_singleton.mpr rfl) hG (hG _ (by rw [eh]; exact gob)) ⟨⟨H3, I6⟩, hG _ (by rw [eh]; exact gob),
      .fresh (.compStart (.GeneratorExp elt [⟨.Name x px, iter, [], 0⟩] scope gpos) 0 (.ref it) .none (gEnv X scope s3.heap.objs.size code)), ?_, fun s'' e1 e2 e3 => ⟨rfl, ?_⟩⟩ fun H' s' I' => ?_
    · rw [← hs5]; exact Array.getElem?_push_size ..
    · refine seg_first (cenv := gEnv X scope s3.heap.objs.size code) hc T ?_ S.nd S.loc S.co (he s3 H3 _ code fp) turn (m0 + 1) m0 s'' s'' H3 (Nat.lt_succ_self _) (Inv.regen I6 e1 e2 e3) (by rw [e1]; exact st5) (fun b hb => (f3 b hb).1.1) w0
      intro p hp b hb z
      rw [List.mem_singleton.mp hp] at z
      have h9 : b < s3.heap.objs.size := (f3 b hb).2
      have h8 : h'.objs.size < s3.heap.objs.size := Eq.mp (congrArg (fun (n : Nat) => n < s3.heap.objs.size) (show b = h'.objs.size from z.symm)) h9
      omega
    · exact I3.call' (ch := fp) I'.os I'.base I'.hok I'.bare fun b hb => ⟨(f3 b hb).1.2.2.2.1, (f3 b hb).1.2.1, (f3 b hb).1.2.2.2.2.1, (f3 b hb).1.2.2.2.2.2⟩
  cases hf : codeAmong gpos ps.toList with
  | none =>
    refine wpAny_genexprCodeX hcode (cd.code hPs ht) (cd.tab hPs) hf fun c' h' tk hx hge hlt hco' _ htab' _ => ?_
    obtain ⟨o1, vs, f1, tf, fl, tg, inF, tx, tt, op, _, _, _, _, _, _, _, _, _, htr, _⟩ := hco'
    have J3 := inv_tab (more := #[rawInt gpos.line, rawInt gpos.col, .ref c']) (h' := h') (g' := s2.gens) (d' := s2.drawn) (t' := tk) I2 hP (fun b o hb e => hx b o hb e) htab'.2 I2.bare
    exact cont _ _ _ ⟨⟨_, upd_same, htr⟩, fun b hb => upd_ne hb⟩ J3 fun b o hb e => hx b o hb e
  | some cv =>
    refine wpAny_genexprCode_hit hcode (cd.code hPs ht) hf ?_
    exact cont cv s2 H2 ⟨⟨ps, hP, ht⟩, fun b _ => rfl⟩ I2 fun b o _ e => e

theorem pe_anyE {c P : Addr} {elt iter : Expr} {x : Str} {px p pos gpos : Pos} {scope : Scope} {wi : TI} {te : TE} {k : Nat}
    (hc : X.calm = true) (hr : Room k X.A) (hg : Gl X "any") (hm : X.mg "any" = none) (TB : TabB X.base X.mg c P) (hcode : X.env.code = .ref c) (S : GSc X.N X.env.scope scope x) (hi : PI X (.Name x px) iter wi)
    (he : ∀ (s : Shared) (H : Hp) (C : Addr) (code : Value) (fp : List Addr), PE (Cx.gen X s H (gEnv X scope C code) fp x) elt te)
    (hs : ∀ v, genFold iter X.env v = pure v)
    (hst : starEach [.GeneratorExp elt [⟨.Name x px, iter, [], 0⟩] scope gpos] X.env = (false, eval (.GeneratorExp elt [⟨.Name x px, iter, [], 0⟩] scope gpos) X.env) :: starEach [] X.env := by rfl) :
    PE X (.Call (.Name "any" p) [.GeneratorExp elt [⟨.Name x px, iter, [], 0⟩] scope gpos] [] pos) (tQuant true P wi te) := by
  refine ⟨fun pins s σ H Q I h => ?_⟩
  refine wpAny_Call_Name_kw (ld_blt I hg hm boot_any ?_)
  refine PyProof.Rows.callWith_builtin1 ?_ hst (by rfl)
  rw [hst]
  show wpAny _ _ (spliced ((false, eval (.GeneratorExp elt [⟨.Name x px, iter, [], 0⟩] scope gpos) X.env) :: backTo pos (starEach [] X.env))) _ _ s
  refine Calls.spliced_cons (gen_made hc hr TB hcode S hi he hs I h fun a g s5 XG pn σ0 fp tn W go n hgo hG hg5 j back => ?_)
  refine Calls.spliced_nil ?_
  refine call_function_tree PySem.F.kind_any PySem.F.plain_any PySem.F.entry_any (PySem.F.args_any1 _) ?_
  unfold Builtin.«any»
  refine wpAny_bind (m := oneArg "any" _) (wpAny_pure ?_)
  refine wpAny_bind (wpAny_pyIter_gen hg5 ?_)
  exact wpAny_pure ⟨plainId_quiet PySem.F.plain_any_loop _, any_turns (I.ok.hd hc) hr.depth hgo hG (fun H' s' I' q => ⟨.bl true, H', back H' s' I', rfl, q⟩) (fun H' s' I' q => ⟨.bl false, H', back H' s' I', rfl, q⟩) n s5 j⟩
theorem pe_allE {c P : Addr} {elt iter : Expr} {x : Str} {px p pos gpos : Pos} {scope : Scope} {wi : TI} {te : TE} {k : Nat}
    (hc : X.calm = true) (hr : Room k X.A) (hg : Gl X "all") (hm : X.mg "all" = none) (TB : TabB X.base X.mg c P) (hcode : X.env.code = .ref c) (S : GSc X.N X.env.scope scope x) (hi : PI X (.Name x px) iter wi)
    (he : ∀ (s : Shared) (H : Hp) (C : Addr) (code : Value) (fp : List Addr), PE (Cx.gen X s H (gEnv X scope C code) fp x) elt te)
    (hs : ∀ v, genFold iter X.env v = pure v)
    (hst : starEach [.GeneratorExp elt [⟨.Name x px, iter, [], 0⟩] scope gpos] X.env = (false, eval (.GeneratorExp elt [⟨.Name x px, iter, [], 0⟩] scope gpos) X.env) :: starEach [] X.env := by rfl) :
    PE X (.Call (.Name "all" p) [.GeneratorExp elt [⟨.Name x px, iter, [], 0⟩] scope gpos] [] pos) (tQuant false P wi te) := by
  refine ⟨fun pins s σ H Q I h => ?_⟩
  refine wpAny_Call_Name_kw (ld_blt I hg hm boot_all ?_)
  refine PyProof.Rows.callWith_builtin1 ?_ hst (by rfl)
  rw [hst]
  show wpAny _ _ (spliced ((false, eval (.GeneratorExp elt [⟨.Name x px, iter, [], 0⟩] scope gpos) X.env) :: backTo pos (starEach [] X.env))) _ _ s
  refine Calls.spliced_cons (gen_made hc hr TB hcode S hi he hs I h fun a g s5 XG pn σ0 fp tn W go n hgo hG hg5 j back => ?_)
  refine Calls.spliced_nil ?_
  refine call_function_tree PySem.F.kind_all PySem.F.plain_all PySem.F.entry_all (PySem.F.args_all1 _) ?_
  unfold Builtin.«all»
  refine wpAny_bind (m := oneArg "all" _) (wpAny_pure ?_)
  refine wpAny_bind (wpAny_pyIter_gen hg5 ?_)
  exact wpAny_pure ⟨plainId_quiet PySem.F.plain_all_loop _, all_turns (I.ok.hd hc) hr.depth hgo hG (fun H' s' I' q => ⟨.bl false, H', back H' s' I', rfl, q⟩) (fun H' s' I' q => ⟨.bl true, H', back H' s' I', rfl, q⟩) n s5 j⟩
end
end GE
set_option Elab.async false
set_option linter.all false
set_option maxRecDepth 100000
set_option maxHeartbeats 4000000
/-! rules that the layer lacks -/
namespace GE
open PySem PySem.Spec PyProof.Rows L2
/-- the signs of a text, each with its place, in a new pair -/
def Ites (x : Str) : It :=
  ⟨fun i _ => i < x.cps.size, fun i H v H' => ∃ T c, v = .ref T ∧ H T = none ∧ H' = upd H T (.tup [.int (i : Nat), .str ⟨#[c]⟩]) ∧ x.cps[i]? = some c, fun i _ => i = x.cps.size⟩
theorem draws_sign {prog : Program} {w : World} {A : Around} (hh : A.handled = none) (it : Addr) (x : Str) (t : Tok) : Draws prog w A it [it] x.cps.size (SignAt x) (fun i h => h.IsStrIter it (strIterType x) x t i) := by
  by_cases ha : strIterType x = "str_ascii_iterator"
  · rw [ha]; exact Draws.strAscii hh it x t
  · have : strIterType x = "str_iterator" := by
      unfold strIterType at ha ⊢
      split
      · rename_i h; rw [if_pos h] at ha; exact absurd rfl ha
      · rfl
    rw [this]; exact Draws.strWide hh it x t
theorem turn_enumS {P : Program} {w : World} {K : PySem.W.Frag} {elts : List Expr} {kk : Nat} {tpos : Pos} (x : Str) (t : Tok) (e it : Addr) (hne : e ≠ it) :
    Turn P w K (.Tuple elts kk tpos) (Ites x) [e, it] e (fun i h => (∃ old, IsEnum h e it ((i : Nat) : Int) old) ∧ h.IsStrIter it (strIterType x) x t i) where
  mem := by simp
  obj := fun i h st b hb => by
    obtain ⟨⟨old, he⟩, ⟨o, ho, hc, hd⟩⟩ := st
    have e' : b = e ∨ b = it := by simpa using hb
    rcases e' with z | z
    · rw [z]; exact ⟨_, he, fun v q => nomatch q⟩
    · rw [z]; exact ⟨o, ho, fun v q => by rw [hd] at q; cases q⟩
  keep := fun i h h' st k => by
    obtain ⟨⟨old, he⟩, ⟨o, ho, r⟩⟩ := st
    exact ⟨⟨old, k e (by simp) _ he⟩, o, k it (by simp) o ho, r⟩
  item := by
    intro X hP hw hK hc i pins s σ H E I hf st hg
    subst hP hw hK
    obtain ⟨⟨old, he⟩, hit⟩ := st
    have hel : e < s.heap.objs.size := Heap.lt_size he
    have hil : it < s.heap.objs.size := by obtain ⟨_, q, _⟩ := hit; exact Heap.lt_size q
    have D := draws_sign (prog := X.prog) (w := X.w) (A := X.A.in1) (I.ok.hd hc) it x t
    refine wpAny_pyNext_enum_itemD D he hit hg hne (by simpa using hne) fun v h' tk hv ho hit' hT hsz hk => ?_
    obtain ⟨c, u, hcx, rfl⟩ := hv
    refine ⟨_, rfl, wpAny_letOwnedTupleGo_enum (s := { s with heap := h', toks := tk + 1 }) ho fun h'' he' sb => ?_⟩
    have hT2 : h''.get? s.heap.objs.size = some { cls := .type "tuple", data := .seq #[.int i tk, .str ⟨#[c]⟩ u] } := (sb.2 _ (Nat.ne_of_gt hel)).trans hT
    have new : ObjOk X.prog X.w (upd H s.heap.objs.size (.tup [.int (i : Nat), .str ⟨#[c]⟩])) h'' s.heap.objs.size (.tup [.int (i : Nat), .str ⟨#[c]⟩]) :=
      ⟨by show 2 ≤ sizeLine; decide, [.int i tk, .str ⟨#[c]⟩ u], .cons ⟨_, rfl⟩ (.cons ⟨_, rfl⟩ .nil), ⟨_, hT2, rfl, _, rfl⟩⟩
    have I1 : Inv X pins σ (upd H s.heap.objs.size (.tup [.int (i : Nat), .str ⟨#[c]⟩])) { s with heap := h'', toks := tk + 1 } :=
      I.turnedNew (ch := [e, it]) (fun b ob hb q => (sb.2 b (fun z => hb (by simp [z]))).trans (hk b ob (fun z => hb (by simp [z])) (fun z => hb (by simp [z])) q)) hf (Nat.le_refl _) new
    refine ⟨.ref s.heap.objs.size, _, I1, rfl, ⟨_, c, rfl, I.hok.fresh (Nat.le_refl _), rfl, hcx⟩, ⟨⟨.str ⟨#[c]⟩ u, ?_⟩, ?_⟩, fun b hb => ?_⟩
    · have e1 : ((i + 1 : Nat) : Int) = (i : Int) + 1 := by omega
      rw [e1]; exact he'
    · obtain ⟨o, q, r⟩ := hit'
      exact ⟨o, (sb.2 it (Ne.symm hne)).trans q, r⟩
    · have hb' : b < s.heap.objs.size := by
        have e' : b = e ∨ b = it := by simpa using hb
        rcases e' with z | z
        · rw [z]; exact hel
        · rw [z]; exact hil
      rw [upd_ne (Nat.ne_of_lt hb')]
      exact (hf b hb).1
  done := by
    intro X hP hw hK hc i pins s σ H E I hf st hg
    subst hP hw hK
    obtain ⟨⟨old, he⟩, hit⟩ := st
    obtain ⟨f0, f1, f2, f3, f4, f5⟩ := hf it (by simp)
    have D := draws_sign (prog := X.prog) (w := X.w) (A := X.A.in1) (I.ok.hd hc) it x t
    obtain rfl : i = x.cps.size := hg
    exact wpAny_pyNext_enum_endD D he hit fun h' eb => ⟨rfl, I.turned (t' := s.toks) (fun b o hb q => eb b o hb q) f0 f1 f3 f4 f5⟩
  self := fun A i s Q E st h => let ⟨⟨_, he⟩, _⟩ := st; wpAny_pyIter_enum he h
def iEnumS (ta : TA) : TI := fun σ H R => ta σ H fun vs H1 => ∃ x : Str, vs = [.str x] ∧ R (Ites x) H1
theorem pi_enumS {X : Cx} {e : Expr} {ta : TA} {p pos tpos : Pos} {elts : List Expr} {kk : Nat} (hg : Gl X "enumerate") (hm : X.mg "enumerate" = none) (ha : PA X [e] ta) (hs : starEach [e] X.env = [(false, eval e X.env)] := by rfl) :
    PI X (.Tuple elts kk tpos) (.Call (.Name "enumerate" p) [e] [] pos) (iEnumS ta) := by
  refine ⟨fun pins s σ H R I h => ?_⟩
  refine Call_ (ld_blt I hg hm boot_enumerate (PyProof.Rows.callWith_type1 (thn (ha.run pos pins s σ H _ I h) fun us s1 ⟨vs, H1, I1, r1, q1⟩ => ?_) hs rfl))
  obtain ⟨x, ex, q⟩ := q1
  subst ex
  cases r1 with
  | cons r rr =>
    cases rr
    obtain ⟨t, rfl⟩ := r
    refine call_enumerate_str fun h' he hit hsz hk => wpAny_pyIter_enum he ?_
    have I2 : Inv X pins σ H1 { s1 with heap := h' } := I1.kept (t' := s1.toks) hk
    refine ⟨s1.heap.objs.size + 1, [s1.heap.objs.size + 1, s1.heap.objs.size], _, _, H1, rfl, I2, turn_enumS x t (s1.heap.objs.size + 1) s1.heap.objs.size (Nat.succ_ne_self _), ⟨⟨.none, he⟩, hit⟩, fun b hb => ?_, q⟩
    have hle : s1.heap.objs.size ≤ b := by
      rcases List.mem_cons.mp hb with z | z
      · rw [z]; exact Nat.le_add_right _ _
      · rw [List.mem_singleton.mp z]; exact Nat.le_refl _
    exact I1.fpOk hle (I1.hok.fresh hle)

/-! ### len(set(text)) -/
def sig (a : Str) (i : Nat) : Str := ⟨#[a.cps.getD i 0]⟩
/-- is k among the first i signs of a -/
def seenS (a : Str) : Nat → Str → Bool
  | 0, _ => false
  | i + 1, k => seenS a i k || decide (k = sig a i)
/-- how many unlike signs the first i are -/
def unlike (a : Str) : Nat → Nat
  | 0 => 0
  | i + 1 => if seenS a i (sig a i) = true then unlike a i else unlike a i + 1
theorem unlike_le (a : Str) : ∀ i, unlike a i ≤ i
  | 0 => Nat.le_refl _
  | i + 1 => by have := unlike_le a i; unfold unlike; split <;> omega
section
variable {prog : Program} {w : World} {A : Around} {R : Result → Shared → Prop} {I S : Addr}
theorem set_turns {a : Str} {t : Tok} (W : WalksS prog w A.in1 I [I] [I] (fun a b => b = a) a.cps.size (SignAt a) (fun i s => s.heap.IsStrIter I (strIterType a) a t i)) (hSI : S ≠ I) (hm : a.cps.size ≤ 100) :
    ∀ (k i : Nat) (s : Shared), a.cps.size - i = k → i ≤ a.cps.size → s.heap.IsStrIter I (strIterType a) a t i → s.heap.SetOf (PySem.strKind prog w) S (seenS a i) (unlike a i) →
      (∀ s', Moved [S, I] (fun a b => b = a) s s' → s'.heap.SetOf (PySem.strKind prog w) S (seenS a a.cps.size) (unlike a a.cps.size) → R (.ok (.ret .none)) s') →
      codeAny (model prog w) A (.builtin "set.update.loop" ⟨[.ref S, .ref I], []⟩) R s := by
  have hSw : S ∉ [I] := by simpa using hSI
  have sub : ∀ b ∈ [I], b ∈ [S, I] := fun b hb => List.mem_cons_of_mem _ hb
  have keepS : ∀ {s s' : Shared} {T : Str → Bool} {n : Nat}, Moved [I] (fun a b => b = a) s s' → s.heap.SetOf (PySem.strKind prog w) S T n → s'.heap.SetOf (PySem.strKind prog w) S T n := fun hm ⟨o, es, ep, tb, ho, rest⟩ => ⟨o, es, ep, tb, hm.heap S _ hSw ho, rest⟩
  intro k
  induction k with
  | zero =>
    intro i s hk hi hst hS hR
    obtain rfl : i = a.cps.size := by omega
    refine codeAny_builtin PyProof.Rows.F.entry_set_update_loop ?_
    rw [Around.under_plainId PyProof.Rows.F.plain_set_update_loop _]
    show wpAny _ A.in1 (pyNext (.ref I) >>= _) _ _ s
    refine wpAny_bind (W.done s _ _ hst fun s' hm => ?_)
    exact wpAny_pure (hR s' (hm.mono sub) (keepS hm hS))
  | succ k ih =>
    intro i s hk hi hst hS hR
    have hlt : i < a.cps.size := by omega
    refine codeAny_builtin PyProof.Rows.F.entry_set_update_loop ?_
    rw [Around.under_plainId PyProof.Rows.F.plain_set_update_loop _]
    show wpAny _ A.in1 (pyNext (.ref I) >>= _) _ _ s
    refine wpAny_bind (W.item i s _ _ hlt hst fun v s' hP hst' hm => ?_)
    obtain ⟨c, u, hc, rfl⟩ := hP
    have ec : (⟨#[c]⟩ : Str) = sig a i := by
      unfold sig
      obtain ⟨h1, h2⟩ := Array.getElem?_eq_some_iff.mp hc
      simp [Array.getD, h1, h2]
    rw [ec]
    show wpAny _ A.in1 (holding [Value.str (sig a i) u] (setAdd S (.str (sig a i) u)) >>= _) _ _ s'
    refine wpAny_bind (wpAny_holding ?_)
    unfold setAdd
    refine wpAny_holding ?_
    refine wpAny_bind ((PySem.strKind prog w).pyHash (k := sig a i) (strKind_is _ _ _ _) ?_)
    have hu := unlike_le a i
    refine wpAny_setAddHashed_of (knd := PySem.strKind prog w) (s := { s' with toks := s'.toks + 1 }) (strKind_is _ _ _ _) rfl (show s'.heap.SetOf _ _ _ _ from keepS hm hS) (by unfold scanBound; omega) fun h' hsb hS2 => ?_
    refine wpAny_pure ⟨plainId_quiet PyProof.Rows.F.plain_set_update_loop _, ih (i + 1) _ (by omega) hlt ?_ hS2 fun s'' hm'' hS'' => ?_⟩
    · obtain ⟨o, ho, r⟩ := hst'
      exact ⟨o, (hsb.2 I (Ne.symm hSI)).trans ho, r⟩
    · refine hR s'' (Moved.trans (fun _ _ _ x y => y.trans x) ((hm.mono sub).then_heap (Nat.le_succ _) fun b o hb e => ?_) hm'') hS''
      exact (hsb.2 b (fun h => hb (by rw [h]; exact List.mem_cons_self))).trans e
end

section
variable {prog : Program} {w : World} {A : Around} {E : Value → Shared → Prop} {s : Shared}
theorem sub_str_set : isSubtype (.type "str") (.type "set") = pure false := by rw [isSubtype_type]; kernel_rfl
theorem sub_str_frozenset : isSubtype (.type "str") (.type "frozenset") = pure false := by rw [isSubtype_type]; kernel_rfl
theorem call_set_text {a : Str} {t : Tok} {Q : Value → Shared → Prop} (hh : A.handled = none) (hm : a.cps.size ≤ 100)
    (h : ∀ (h' : Heap) (tk : Nat), h'.SetOf (PySem.strKind prog w) s.heap.objs.size (seenS a a.cps.size) (unlike a a.cps.size) →
      (∀ b o, b < s.heap.objs.size → s.heap.get? b = some o → h'.get? b = some o) → Q (.ref s.heap.objs.size) { s with heap := h', toks := tk }) :
    wpAny (model prog w) A (call (.type "set") [.str a t]) Q E s := by
  obtain ⟨c, tl, hmro⟩ := PySem.F.called_set.mro
  have made := PySem.F.called_set.made
  have ofT := PySem.F.called_set.sub
  refine wpAny_call (codeAny_of_tree ?_)
  show wpAny _ _ (callAny (.type "set") _) _ _ _
  refine wpAny_pure ⟨Code.quiet_builtin _ (by decide +kernel), codeAny_builtin PySem.F.entry_type_call ?_⟩
  rw [Around.under_plain (weight_type_call_type "set" [.str a t] []) rfl]
  have notT := PySem.F.called_set.notType
  have can := PySem.F.called_set.canCreate
  have chk := PySem.F.typeCall_set_1 (.str a t)
  repeat (any_goals (first | assumption | wp_step))
  refine codeAny_mono (code_set_new_1 (.str a t) (E := E) (Q₁ := fun obj s₁ => ∃ led : Bool, obj = .ref s.heap.objs.size ∧ s₁ = { s with heap := s.heap.push { cls := .type "set", dict := none, data := .set #[] 0 (.fresh 0 0 led) } }) fun led => ⟨led, rfl, rfl⟩) fun r s₁ hr => ?_
  cases r with
  | error e => exact hr
  | ok fl =>
    cases fl with
    | ret obj =>
      obtain ⟨led, rfl, rfl⟩ := hr
      generalize hob : ({ cls := .type "set", dict := none, data := .set #[] 0 (.fresh 0 0 led) } : Obj) = ob
      have at0 : (s.heap.push ob).get? s.heap.objs.size = some ob := Heap.get?_push_size _ (by rw [← hob]; rfl)
      have ty0 : Shared.TypeIs { s with heap := s.heap.push ob } (.ref s.heap.objs.size) "set" := ⟨_, at0, by rw [← hob]⟩
      have look := PySem.F.called_set.init.lookup
      have bnd := PySem.F.called_set.init.bind (.ref s.heap.objs.size)
      repeat (any_goals (first | assumption | wp_step))
      refine codeAny_mono (codeAny_call_builtin (R := wants (fun r s₂ => r = .none ∧ ∃ h' tk, s₂ = { s with heap := h', toks := tk } ∧
          h'.SetOf (PySem.strKind prog w) s.heap.objs.size (seenS a a.cps.size) (unlike a a.cps.size) ∧
          (∀ b o, b < s.heap.objs.size → s.heap.get? b = some o → h'.get? b = some o)) E) PySem.F.called_set.init.plain PySem.F.entry_set_init (check_set_init_1 ty0 ?_)) fun r₂ s₂ hr₂ => ?_
      · have s1 := sub_str_set
        have s2 := sub_str_frozenset
        have nd : (Value.type "str" == Value.type "dict") = false := by decide
        subst hob
        unfold Builtin.«set.__init__» noKeywords Builtin.Frozenset.updateFrom
        generalize hPI : pyIter = PI
        wp_walk
        subst hPI
        generalize hob : ({ cls := .type "set", dict := none, data := .set #[] 0 (.fresh 0 0 led) } : Obj) = ob at at0 ty0 ⊢
        refine wpAny_pyIter_strU ?_
        refine wpAny_bind (wpAny_runValue ?_)
        have hh3 : A.in1.in1.in1.handled = none := by simp [hh]
        have hIe : (s.heap.push ob).objs.size = s.heap.objs.size + 1 := Heap.size_push ..
        have W : Walks prog w A.in1.in1.in1 (s.heap.push ob).objs.size [(s.heap.push ob).objs.size] [(s.heap.push ob).objs.size] a.cps.size (SignAt a) (fun i h => h.IsStrIter (s.heap.push ob).objs.size (strIterType a) a t i) := by
          by_cases ha : strIterType a = "str_ascii_iterator"
          · rw [ha]; exact Walks.strAscii hh3 _ a t
          · have : strIterType a = "str_iterator" := by
              unfold strIterType at ha ⊢
              split
              · rename_i h; rw [if_pos h] at ha; exact absurd rfl ha
              · rfl
            rw [this]; exact Walks.strWide hh3 _ a t
        refine set_turns W.toS (by rw [hIe]; exact Nat.ne_of_lt (Nat.lt_succ_self _)) hm (a.cps.size - 0) 0 _ rfl (Nat.zero_le _) ⟨_, Heap.get?_push_size _ rfl, rfl, rfl⟩ ?hS0 ?hR
        case hS0 =>
          have at1 : ((s.heap.push ob).push { cls := .type (strIterType a), data := .fields #[.str a t, .int 0 0] }).get? s.heap.objs.size = some ob := Heap.get?_push_of_some _ at0
          subst hob
          exact PyProof.Rows.SetOf_congr ((PyProof.Rows.setObjOf_fresh (knd := PySem.strKind prog w) led).setOf at1 (by unfold scanBound; omega)) (fun _ => rfl) rfl
        case hR =>
          intro s' hm hS'
          obtain ⟨h', g', d', tk', os'⟩ := s'
          obtain rfl : g' = s.gens := hm.gens
          obtain rfl : d' = s.drawn := hm.drawn
          obtain rfl : os' = s.os := hm.os
          show wpAny _ _ _ _ _ _
          refine wpAny_pure ?_
          show wpAny _ _ (ret Value.none) _ _ _
          refine wpAny_pure ⟨rfl, h', tk', rfl, hS', fun b o hb e => ?_⟩
          refine hm.heap b o (fun hmem => ?_) (Heap.get?_push_of_some _ (Heap.get?_push_of_some _ e))
          rcases List.mem_cons.mp hmem with z | z
          · exact absurd hb (by rw [z]; exact Nat.lt_irrefl _)
          · rw [List.mem_singleton.mp z, hIe] at hb
            exact absurd (Nat.lt_of_succ_lt hb) (Nat.lt_irrefl _)
      · cases r₂ with
        | error e => exact hr₂
        | ok fl₂ =>
          cases fl₂ with
          | ret r =>
            obtain ⟨rfl, h', tk, rfl, hS', hk'⟩ := hr₂
            repeat (any_goals (first | assumption | wp_step))
            exact h _ _ hS' hk'
          | _ => exact hr₂.elim
    | _ => exact hr.elim
end
section
variable {X : Cx}
def tLenSetT (ta : TE) : TE := fun σ H Q => ta σ H fun x H1 => ∃ a : Str, x = .str a ∧ a.cps.size ≤ 100 ∧ Q (.int (unlike a a.cps.size : Nat)) H1
theorem pe_lenSetT {a : Expr} {ta : TE} {p p2 q pos : Pos} (hc : X.calm = true) (hg : Gl X "len") (hm : X.mg "len" = none) (hg2 : Gl X "set") (hm2 : X.mg "set" = none) (ha : PE X a ta)
    (na : starEach [a] X.env = (false, eval a X.env) :: starEach [] X.env := by rfl) : PE X (.Call (.Name "len" p) [.Call (.Name "set" p2) [a] [] q] [] pos) (tLenSetT ta) := by
  refine ⟨fun pins s σ H Q I h => ?_⟩
  refine Call_ (ld_blt I hg hm boot_len ?_)
  refine PyProof.Rows.callWith_builtin1 (PyProof.Rows.args_cons ?_ rfl) rfl rfl
  refine Call_ (ld_blt I hg2 hm2 boot_set ?_)
  refine PyProof.Rows.callWith_type1 (PyProof.Rows.args_cons (thn (ha.run pins s σ H _ I h) fun v s1 ⟨x, H1, I1, r1, a, ea, hz, q1⟩ => PyProof.Rows.args_nil ?_) na) na rfl
  subst ea
  obtain ⟨t, rfl⟩ := r1
  refine call_set_text (I1.ok.hd hc) hz fun h' tk hS hk => ?_
  refine PyProof.Rows.args_nil ?_
  obtain ⟨o, es, ep, tb, ho, hex, hd, _, _, _, hf, hn⟩ := hS
  have I2 : Inv X pins σ H1 { s1 with heap := h', toks := tk } := I1.kept fun b o e => hk b o (Heap.lt_size e) e
  have hu := unlike_le a a.cps.size
  refine call_len_set ho hex hd hf (by rw [hn] <;> omega) ⟨.int _, H1, I2.tok _, ⟨_, by rw [hn]⟩, q1⟩
end
end GE
set_option Elab.async false
set_option linter.all false
set_option maxRecDepth 100000
/-! patterns, and which stretches of a text fit them -/
namespace Bo
open PySem L2
inductive Pat where
  | none | empty
  | sign (c : Nat)
  | row (ps : List Pat) | or (ps : List Pat) | and (ps : List Pat)
  | many (p : Pat) | not (p : Pat)
mutual
def Pat.dep : Pat → Nat
  | .row ps => depL ps + 1
  | .or ps => depL ps + 1
  | .and ps => depL ps + 1
  | .many p => p.dep + 1
  | .not p => p.dep + 1
  | _ => 1
def depL : List Pat → Nat
  | [] => 0
  | p :: ps => max p.dep (depL ps)
end
mutual
def Pat.size : Pat → Nat
  | .row ps => sizeL ps + 1
  | .or ps => sizeL ps + 1
  | .and ps => sizeL ps + 1
  | .many p => p.size + 1
  | .not p => p.size + 1
  | _ => 1
def sizeL : List Pat → Nat
  | [] => 0
  | p :: ps => p.size + sizeL ps
end
mutual
theorem dep_le_size : ∀ p : Pat, p.dep ≤ p.size
  | .row ps => Nat.succ_le_succ (depL_le_size ps)
  | .or ps => Nat.succ_le_succ (depL_le_size ps)
  | .and ps => Nat.succ_le_succ (depL_le_size ps)
  | .many p => Nat.succ_le_succ (dep_le_size p)
  | .not p => Nat.succ_le_succ (dep_le_size p)
  | .none => Nat.le_refl _
  | .empty => Nat.le_refl _
  | .sign _ => Nat.le_refl _
theorem depL_le_size : ∀ ps : List Pat, depL ps ≤ sizeL ps
  | [] => Nat.le_refl _
  | p :: ps => Nat.max_le.mpr ⟨Nat.le_trans (dep_le_size p) (Nat.le_add_right _ _), Nat.le_trans (depL_le_size ps) (Nat.le_add_left _ _)⟩
end
theorem dep_pos (p : Pat) : 1 ≤ p.dep := by cases p <;> simp [Pat.dep]
theorem size_pos (p : Pat) : 1 ≤ p.size := by cases p <;> simp [Pat.size]
theorem dep_mem {p : Pat} : ∀ {ps : List Pat}, p ∈ ps → p.dep ≤ depL ps
  | q :: ps, h => by
    rcases List.mem_cons.mp h with e | h
    · rw [e]; exact Nat.le_max_left _ _
    · exact Nat.le_trans (dep_mem h) (Nat.le_max_right _ _)
/-- from i to j by steps of R -/
inductive Star (R : Nat → Nat → Prop) : Nat → Nat → Prop
  | refl (i : Nat) : Star R i i
  | step {i j k : Nat} : R i j → Star R j k → Star R i k
theorem Star.trans {R : Nat → Nat → Prop} {i j k : Nat} (a : Star R i j) (b : Star R j k) : Star R i k := by
  induction a with
  | refl => exact b
  | step h _ ih => exact .step h (ih b)
theorem Star.snoc {R : Nat → Nat → Prop} {i j k : Nat} (a : Star R i j) (b : R j k) : Star R i k := a.trans (.step b (.refl _))
mutual
/-- the stretch of t from i to j fits the pattern -/
def M (t : List Nat) : Pat → Nat → Nat → Prop
  | .none => fun _ _ => False
  | .empty => fun i j => i = j
  | .sign c => fun i j => t[i]? = some c ∧ j = i + 1
  | .row ps => fun i j => MRow t ps i j
  | .or ps => fun i j => MOr t ps i j
  | .and ps => fun i j => i ≤ j ∧ j ≤ t.length ∧ MAnd t ps i j
  | .many p => fun i j => Star (fun a b => M t p a b) i j
  | .not p => fun i j => i ≤ j ∧ j ≤ t.length ∧ ¬ M t p i j
def MRow (t : List Nat) : List Pat → Nat → Nat → Prop
  | [] => fun i j => i = j
  | p :: ps => fun i j => ∃ k, M t p i k ∧ MRow t ps k j
def MOr (t : List Nat) : List Pat → Nat → Nat → Prop
  | [] => fun _ _ => False
  | p :: ps => fun i j => M t p i j ∨ MOr t ps i j
def MAnd (t : List Nat) : List Pat → Nat → Nat → Prop
  | [] => fun _ _ => True
  | p :: ps => fun i j => M t p i j ∧ MAnd t ps i j
end
theorem star_bound {R : Nat → Nat → Prop} {n : Nat} (h : ∀ i j, i ≤ n → R i j → i ≤ j ∧ j ≤ n) {i j : Nat} (s : Star R i j) : i ≤ n → i ≤ j ∧ j ≤ n := by
  induction s with
  | refl => intro hi; exact ⟨Nat.le_refl _, hi⟩
  | step r _ ih =>
    intro hi
    obtain ⟨h1, h2⟩ := h _ _ hi r
    obtain ⟨h3, h4⟩ := ih h2
    exact ⟨Nat.le_trans h1 h3, h4⟩
mutual
theorem M_bound (t : List Nat) : ∀ (p : Pat) (i j : Nat), i ≤ t.length → M t p i j → i ≤ j ∧ j ≤ t.length
  | .none, i, j, hi, h => by simp [M] at h
  | .empty, i, j, hi, h => by
    have h : i = j := h
    subst h; exact ⟨Nat.le_refl _, hi⟩
  | .sign c, i, j, hi, h => by
    obtain ⟨h1, h2⟩ : t[i]? = some c ∧ j = i + 1 := h
    have := (List.getElem?_eq_some_iff.mp h1).1
    omega
  | .row ps, i, j, hi, h => MRow_bound t ps i j hi h
  | .or ps, i, j, hi, h => MOr_bound t ps i j hi h
  | .and ps, i, j, hi, h => ⟨h.1, h.2.1⟩
  | .many p, i, j, hi, h => star_bound (R := fun a b => M t p a b) (fun a b ha hab => M_bound t p a b ha hab) h hi
  | .not p, i, j, hi, h => ⟨h.1, h.2.1⟩
theorem MRow_bound (t : List Nat) : ∀ (ps : List Pat) (i j : Nat), i ≤ t.length → MRow t ps i j → i ≤ j ∧ j ≤ t.length
  | [], i, j, hi, h => by
    have h : i = j := h
    subst h; exact ⟨Nat.le_refl _, hi⟩
  | p :: ps, i, j, hi, h => by
    obtain ⟨k, h1, h2⟩ := h
    obtain ⟨a, b⟩ := M_bound t p i k hi h1
    obtain ⟨c, d⟩ := MRow_bound t ps k j b h2
    exact ⟨Nat.le_trans a c, d⟩
theorem MOr_bound (t : List Nat) : ∀ (ps : List Pat) (i j : Nat), i ≤ t.length → MOr t ps i j → i ≤ j ∧ j ≤ t.length
  | [], i, j, hi, h => by simp [MOr] at h
  | p :: ps, i, j, hi, h => by
    rcases h with h | h
    · exact M_bound t p i j hi h
    · exact MOr_bound t ps i j hi h
end
mutual
/-- the value stands for the pattern -/
def PatAt (H : Hp) : Pat → V → Prop
  | .none => fun v => ∃ a, v = .ref a ∧ H a = some (.tup [.str "none"])
  | .empty => fun v => ∃ a, v = .ref a ∧ H a = some (.tup [.str "empty"])
  | .sign c => fun v => ∃ a, v = .ref a ∧ H a = some (.tup [.str "sign", .str ⟨#[c]⟩])
  | .row ps => fun v => ∃ a b vs, v = .ref a ∧ H a = some (.tup [.str "row", .ref b]) ∧ H b = some (.tup vs) ∧ PatsAt H ps vs
  | .or ps => fun v => ∃ a b vs, v = .ref a ∧ H a = some (.tup [.str "or", .ref b]) ∧ H b = some (.tup vs) ∧ PatsAt H ps vs
  | .and ps => fun v => ∃ a b vs, v = .ref a ∧ H a = some (.tup [.str "and", .ref b]) ∧ H b = some (.tup vs) ∧ PatsAt H ps vs
  | .many p => fun v => ∃ a u, v = .ref a ∧ H a = some (.tup [.str "many", u]) ∧ PatAt H p u
  | .not p => fun v => ∃ a u, v = .ref a ∧ H a = some (.tup [.str "not", u]) ∧ PatAt H p u
def PatsAt (H : Hp) : List Pat → List V → Prop
  | [] => fun vs => vs = []
  | p :: ps => fun vs => ∃ v r, vs = v :: r ∧ PatAt H p v ∧ PatsAt H ps r
end
/-- all but the tables of code stays; the tables may grow -/
structure Ext (H H' : Hp) : Prop where
  keep : ∀ b o, H b = some o → (∀ ps, o ≠ .tbl ps) → H' b = some o
  tab : ∀ b, GxR.TabG H b → GxR.TabG H' b
  there : ∀ b o, H b = some o → ∃ o', H' b = some o'
theorem Ext.refl (H : Hp) : Ext H H := ⟨fun _ _ h _ => h, fun _ h => h, fun _ o h => ⟨o, h⟩⟩
theorem Ext.trans {H H1 H2 : Hp} (a : Ext H H1) (b : Ext H1 H2) : Ext H H2 := ⟨fun c o h n => b.keep c o (a.keep c o h n) n, fun c h => b.tab c (a.tab c h), fun c o h => let ⟨o', h'⟩ := a.there c o h; b.there c o' h'⟩
theorem Ext.new {H : Hp} {p : Addr} {o : HO} (h : H p = Option.none) : Ext H (upd H p o) :=
  ⟨fun b u q _ => by rw [upd_ne (ne_of_none q h)]; exact q, fun b ⟨ps, q, t⟩ => ⟨ps, by rw [upd_ne (ne_of_none q h)]; exact q, t⟩, fun b u q => ⟨u, by rw [upd_ne (ne_of_none q h)]; exact q⟩⟩
/-- a list of ours is written -/
theorem Ext.wr {H0 H : Hp} {p : Addr} {o : HO} (e : Ext H0 H) (h : H0 p = Option.none) : Ext H0 (upd H p o) :=
  ⟨fun b u q n => by rw [upd_ne (ne_of_none q h)]; exact e.keep b u q n, fun b q => by
    obtain ⟨ps, z, _⟩ := id q
    obtain ⟨ps', z', t'⟩ := e.tab b q
    exact ⟨ps', by rw [upd_ne (ne_of_none z h)]; exact z', t'⟩, fun b u q => let ⟨u', z⟩ := e.there b u q; ⟨u', by rw [upd_ne (ne_of_none q h)]; exact z⟩⟩
theorem Ext.tabbed {P : Addr} {H H' : Hp} (h0 : GxR.TabG H P) (h : GxR.Tabbed P H H') : Ext H H' :=
  ⟨fun b o q n => by
    by_cases e : b = P
    · subst e
      obtain ⟨ps, z, _⟩ := h0
      rw [q] at z
      exact absurd (Option.some.inj z) (n ps)
    · rw [h.2 b e]; exact q, fun b q => by
    by_cases e : b = P
    · rw [e]; exact h.1
    · obtain ⟨ps, z, t⟩ := q
      exact ⟨ps, by rw [h.2 b e]; exact z, t⟩, fun b o q => by
    by_cases e : b = P
    · obtain ⟨ps, z, _⟩ := h.1
      exact ⟨_, by rw [e]; exact z⟩
    · exact ⟨o, by rw [h.2 b e]; exact q⟩⟩
theorem Ext.free {H H' : Hp} (e : Ext H H') {l : Addr} (h : H' l = Option.none) : H l = Option.none := by
  cases q : H l with
  | none => rfl
  | some o =>
    obtain ⟨o', z⟩ := e.there l o q
    rw [h] at z
    cases z
theorem Ext.tup {H H' : Hp} (e : Ext H H') {a : Addr} {xs : List V} (h : H a = some (.tup xs)) : H' a = some (.tup xs) := e.keep a _ h (fun ps z => by cases z)
theorem Ext.lst {H H' : Hp} (e : Ext H H') {a : Addr} {xs : List V} (h : H a = some (.lst xs)) : H' a = some (.lst xs) := e.keep a _ h (fun ps z => by cases z)
theorem Ext.sqL {K : PySem.W.Frag} {H H' : Hp} (e : Ext H H') {a : Addr} {xs : List V} (h : SqL K H a xs) : SqL K H' a xs := by
  rcases h with (h | ⟨o, h⟩) | h
  · exact .inl (.inl (e.lst h))
  · exact .inl (.inr ⟨o, e.keep _ _ h (fun ps z => by cases z)⟩)
  · exact .inr h
mutual
theorem PatAt.ext {H H' : Hp} (e : Ext H H') : ∀ (p : Pat) (v : V), PatAt H p v → PatAt H' p v
  | .none, v, h => let ⟨a, h1, h2⟩ := h; ⟨a, h1, e.tup h2⟩
  | .empty, v, h => let ⟨a, h1, h2⟩ := h; ⟨a, h1, e.tup h2⟩
  | .sign c, v, h => let ⟨a, h1, h2⟩ := h; ⟨a, h1, e.tup h2⟩
  | .row ps, v, h => let ⟨a, b, vs, h1, h2, h3, h4⟩ := h; ⟨a, b, vs, h1, e.tup h2, e.tup h3, PatsAt.ext e ps vs h4⟩
  | .or ps, v, h => let ⟨a, b, vs, h1, h2, h3, h4⟩ := h; ⟨a, b, vs, h1, e.tup h2, e.tup h3, PatsAt.ext e ps vs h4⟩
  | .and ps, v, h => let ⟨a, b, vs, h1, h2, h3, h4⟩ := h; ⟨a, b, vs, h1, e.tup h2, e.tup h3, PatsAt.ext e ps vs h4⟩
  | .many p, v, h => let ⟨a, u, h1, h2, h3⟩ := h; ⟨a, u, h1, e.tup h2, PatAt.ext e p u h3⟩
  | .not p, v, h => let ⟨a, u, h1, h2, h3⟩ := h; ⟨a, u, h1, e.tup h2, PatAt.ext e p u h3⟩
theorem PatsAt.ext {H H' : Hp} (e : Ext H H') : ∀ (ps : List Pat) (vs : List V), PatsAt H ps vs → PatsAt H' ps vs
  | [], vs, h => h
  | p :: ps, vs, h => let ⟨v, r, h1, h2, h3⟩ := h; ⟨v, r, h1, PatAt.ext e p v h2, PatsAt.ext e ps r h3⟩
end
theorem PatsAt.len {H : Hp} : ∀ {ps : List Pat} {vs : List V}, PatsAt H ps vs → vs.length = ps.length
  | [], _, h => by rw [show _ = [] from h]; rfl
  | p :: ps, _, ⟨v, r, e, _, h⟩ => by rw [e]; show r.length + 1 = ps.length + 1; rw [h.len]
theorem PatsAt.get {H : Hp} : ∀ {ps : List Pat} {vs : List V} {i : Nat} {v : V}, PatsAt H ps vs → vs[i]? = some v → ∃ p, ps[i]? = some p ∧ PatAt H p v
  | [], _, i, v, h, e => by rw [show _ = [] from h] at e; simp at e
  | p :: ps, _, 0, v, ⟨u, r, e1, h1, _⟩, e => by rw [e1] at e; simp at e; exact ⟨p, rfl, e ▸ h1⟩
  | p :: ps, _, i + 1, v, ⟨u, r, e1, _, h2⟩, e => by
    rw [e1] at e
    obtain ⟨q, h3, h4⟩ := PatsAt.get (i := i) h2 (by simpa using e)
    exact ⟨q, by simpa using h3, h4⟩
mutual
def nullb : Pat → Bool
  | .empty => true
  | .many _ => true
  | .row ps => nullAll ps
  | .and ps => nullAll ps
  | .or ps => nullAny ps
  | .not p => !nullb p
  | _ => false
def nullAll : List Pat → Bool
  | [] => true
  | p :: ps => nullb p && nullAll ps
def nullAny : List Pat → Bool
  | [] => false
  | p :: ps => nullb p || nullAny ps
end
theorem nullAll_eq : ∀ ps : List Pat, nullAll ps = ps.all nullb
  | [] => rfl
  | p :: ps => by rw [nullAll, List.all_cons, nullAll_eq ps]
theorem nullAny_eq : ∀ ps : List Pat, nullAny ps = ps.any nullb
  | [] => rfl
  | p :: ps => by rw [nullAny, List.any_cons, nullAny_eq ps]
theorem iffT {c : Bool} {A B : Prop} (h : c = true) (a : A) : if c = true then A else B := by rw [if_pos h]; exact a
theorem iffF {c : Bool} {A B : Prop} (h : c = false) (b : B) : if c = true then A else B := by rw [if_neg (by rw [h]; exact Bool.false_ne_true)]; exact b
end Bo
set_option Elab.async false
set_option linter.all false
set_option maxRecDepth 100000
set_option maxHeartbeats 4000000
/-! readings in short: a pattern's head, its tests -/
namespace Bo
open PySem PySem.Spec PyProof.Rows L2 GE
abbrev FnP (K : PySem.W.Frag) (x : Str) (st : Stmt) (f : Addr) (fd : FuncData) : Prop := FunD K x x (defArgs st) (defBody st) (defScope st) [] [] f fd
section
variable {P : Program} {w : World} {K : PySem.W.Frag} {mg : Str → Option Value} {base : Heap}
/-- FunD.ok where the code object is known -/
theorem okC {CX : CXT} {x qual : Str} {params : Arguments} {body : List Stmt} {scope : Scope} {dvs : List V} {kws : List (Str × V)} {f : Addr} {fd : FuncData} {N ps : List Str} {k : Nat} {sp : Sp} {c : Addr} (F : FunD K x qual params body scope dvs kws f fd) (hc : fd.code = .ref c) (S : FnScope N ps scope) (len : ∀ vs H Q E, sp vs H Q E → vs.length = ps.length)
    (hbody : ∀ (A : Around) (outer : List Env) (s : Shared) (H : Hp) (vs : List V) (Q : VK) (E : XK), Room k (A.deeper (envOfC qual scope s.heap.objs.size f (.ref c))) → sp vs H Q E →
      ∃ t, PSs (cxOf CX P w K mg base N qual scope f (.ref c) A outer s H E) body t ∧ t { nx := fun _ H' => Q .non H', rt := Q } (start N vs) H) : FnOk P w K mg base CX (k + 1) f fd ps sp := by
  obtain ⟨oc, od, dV, kV, doc, pm, an, cdv, ct, osl, e, lk, hcd, _, _⟩ := F.ex
  subst e
  obtain rfl : cdv = .ref c := hc
  exact fn_of lk hcd S len fun A outer s H vs Q E hr hsp => hbody A outer s H vs Q E hr hsp
/-- FunD.ok for a def that lets nothing out -/
theorem okD {x qual : Str} {params : Arguments} {body : List Stmt} {scope : Scope} {dvs : List V} {kws : List (Str × V)} {f : Addr} {fd : FuncData} {N ps : List Str} {k : Nat} {sp : Sp} (F : FunD K x qual params body scope dvs kws f fd) (S : FnScope N ps scope) (len : ∀ vs H Q E, sp vs H Q E → vs.length = ps.length)
    (hbody : ∀ (cdv : Value) (A : Around) (outer : List Env) (s : Shared) (H : Hp) (vs : List V) (Q : VK) (E : XK), Room k (A.deeper (envOfC qual scope s.heap.objs.size f cdv)) → sp vs H Q E →
      ∃ t, PSs (cxOf CX0 P w K mg base N qual scope f cdv A outer s H E).nox body t ∧ t { nx := fun _ H' => Q .non H', rt := Q } (start N vs) H) : FnOk P w K mg base CX0 (k + 1) f fd ps sp :=
  F.ok S len fun cdv A outer s H vs Q E hr h => let ⟨t, a, b⟩ := hbody cdv A outer s H vs Q E hr h; ⟨t, a.nox, b⟩
end
def Pat.kind : Pat → Str
  | .none => "none" | .empty => "empty" | .sign _ => "sign" | .row _ => "row" | .or _ => "or" | .and _ => "and" | .many _ => "many" | .not _ => "not"
theorem PatAt.hd {H : Hp} : ∀ {p : Pat} {v : V}, PatAt H p v → ∃ a xs, v = .ref a ∧ H a = some (.tup (.str p.kind :: xs))
  | .none, _, ⟨a, e, h⟩ => ⟨a, _, e, h⟩
  | .empty, _, ⟨a, e, h⟩ => ⟨a, _, e, h⟩
  | .sign _, _, ⟨a, e, h⟩ => ⟨a, _, e, h⟩
  | .row _, _, ⟨a, b, vs, e, h, _⟩ => ⟨a, _, e, h⟩
  | .or _, _, ⟨a, b, vs, e, h, _⟩ => ⟨a, _, e, h⟩
  | .and _, _, ⟨a, b, vs, e, h, _⟩ => ⟨a, _, e, h⟩
  | .many _, _, ⟨a, u, e, h, _⟩ => ⟨a, _, e, h⟩
  | .not _, _, ⟨a, u, e, h, _⟩ => ⟨a, _, e, h⟩
section
variable {K : PySem.W.Frag} {σ : L2.St} {H : Hp} {a : Addr} {xs : List V} {v : V} {Q : VK} {D : Ends} {t u : TS}
/-- x[j], x a tuple in slot i -/
theorem r_ix {i : Nat} (j : Nat) (h0 : σ[i]? = some (some (.ref a))) (ha : H a = some (.tup xs)) (hx : xs[j]? = some v) (q : Q v H) : tOp (rIxT K) (tVar i) (tC (.int (j : Int))) σ H Q :=
  ⟨_, h0, a, xs, _, v, rfl, rfl, SqT.of ha, atI_nat hx, q⟩
theorem r_kind {i : Nat} {k z : Str} {Q : Bool → Hp → Prop} (h0 : σ[i]? = some (some (.ref a))) (ha : H a = some (.tup (.str k :: xs))) (q : Q (decide (k = z)) H) : tTest (tOp rEq (tOp (rIxT K) (tVar i) (tC (.int 0))) (tC (.str z))) σ H Q := by
  refine r_ix 0 h0 ha rfl ⟨rfl, _, rfl, ?_⟩
  have e : decide (V.str k = V.str z) = decide (k = z) := by rw [dec_str, Bool.beq_eq_decide_eq]
  rw [e]; exact q
theorem if_kT {i : Nat} {z : Str} (h0 : σ[i]? = some (some (.ref a))) (ha : H a = some (.tup (.str z :: xs))) (h : t D σ H) : tIfS (tTest (tOp rEq (tOp (rIxT K) (tVar i) (tC (.int 0))) (tC (.str z)))) t u D σ H :=
  r_kind h0 ha (iffT (decide_eq_true rfl) h)
theorem if_kF {i : Nat} {k z : Str} (h0 : σ[i]? = some (some (.ref a))) (ha : H a = some (.tup (.str k :: xs))) (n : k ≠ z) (h : u D σ H) : tIfS (tTest (tOp rEq (tOp (rIxT K) (tVar i) (tC (.int 0))) (tC (.str z)))) t u D σ H :=
  r_kind h0 ha (iffF (decide_eq_false n) h)
def tCs : List Str → TA
  | [] => tNil
  | z :: zs => tCons (tC (.str z)) (tCs zs)
theorem tCs_go : ∀ (zs : List Str) (Q : List V → Hp → Prop), Q (zs.map V.str) H → tCs zs σ H Q
  | [], Q, h => h
  | z :: zs, Q, h => tCs_go zs (fun ys H1 => Q (.str z :: ys) H1) h
theorem inV_str (k : Str) (zs : List Str) : inV (.str k) (zs.map V.str) = decide (k ∈ zs) := by
  unfold inV
  induction zs with
  | nil => rfl
  | cons z zs ih =>
    rw [List.map_cons, List.any_cons, ih]
    show (z == k || decide (k ∈ zs)) = decide (k ∈ z :: zs)
    rw [Bool.eq_iff_iff, Bool.or_eq_true, beq_iff_eq, decide_eq_true_eq, decide_eq_true_eq, List.mem_cons]
    exact ⟨fun h => h.elim (fun e => .inl e.symm) .inr, fun h => h.elim (fun e => .inl e.symm) .inr⟩
/-- x[0] in ("..", ..) -/
theorem r_in {i : Nat} {k : Str} (zs : List Str) (h0 : σ[i]? = some (some (.ref a))) (ha : H a = some (.tup (.str k :: xs))) (hz : zs.length ≤ 20) (q : ∀ p, H p = none → Q (.bl (decide (k ∈ zs))) (upd H p (.tup (zs.map V.str)))) :
    tOp (rIn K false) (tOp (rIxT K) (tVar i) (tC (.int 0))) (tTup (tCs zs)) σ H Q := by
  refine r_ix 0 h0 ha rfl (tCs_go zs _ ⟨?_, fun p np => ?_⟩)
  · rw [List.length_map]; exact Nat.le_of_lt (small1000 (by omega))
  · refine ⟨p, _, rfl, .inr (SqT.of upd_same), rfl, ?_, ?_⟩
    · rw [List.all_map, List.all_eq_true]; intro z _; rfl
    · rw [inV_str]; exact q p np
theorem if_inT {i : Nat} {k : Str} (zs : List Str) (h0 : σ[i]? = some (some (.ref a))) (ha : H a = some (.tup (.str k :: xs))) (hk : k ∈ zs) (h : ∀ p, H p = none → t D σ (upd H p (.tup (zs.map V.str)))) (hz : zs.length ≤ 20 := by decide) :
    tIfS (tTest (tOp (rIn K false) (tOp (rIxT K) (tVar i) (tC (.int 0))) (tTup (tCs zs)))) t u D σ H :=
  r_in zs h0 ha hz fun p np => ⟨_, rfl, iffT (decide_eq_true hk) (h p np)⟩
theorem if_inF {i : Nat} {k : Str} (zs : List Str) (h0 : σ[i]? = some (some (.ref a))) (ha : H a = some (.tup (.str k :: xs))) (hk : k ∉ zs) (h : ∀ p, H p = none → u D σ (upd H p (.tup (zs.map V.str)))) (hz : zs.length ≤ 20 := by decide) :
    tIfS (tTest (tOp (rIn K false) (tOp (rIxT K) (tVar i) (tC (.int 0))) (tTup (tCs zs)))) t u D σ H :=
  r_in zs h0 ha hz fun p np => ⟨_, rfl, iffF (decide_eq_false hk) (h p np)⟩
theorem t_seq {D : Ends} (h : t { D with nx := u D } σ H) : tSeq t u D σ H := h
theorem t_setC {v : V} {i : Nat} {D : Ends} (h : u D (σ.set i (some v)) H) : tSeq (tAsg (tC v) (gName i)) u D σ H := h
theorem t_set {te : TE} {i : Nat} {D : Ends} (h : te σ H fun x H1 => u D (σ.set i (some x)) H1) : tSeq (tAsg te (gName i)) u D σ H := h
/-- any, all over a tuple -/
theorem quant_tup {stopv : Bool} {T a : Addr} {xs : List V} {te : TE} {σ : L2.St} {H1 : Hp} {Q : VK} (h0 : GxR.TabG H1 T) (ha : H1 a = some (.tup xs)) (Pv : Nat → Hp → Prop) (p0 : ∀ H, Ext H1 H → Pv 0 H) (hl : ∀ i H, Pv i H → H a = some (.tup xs))
    (hs : ∀ i v H, xs[i]? = some v → Pv i H → te (σ ++ [some v]) H fun y H3 => ∃ b, y = .bl b ∧ if b = stopv then Q (.bl stopv) H3 else Pv (i + 1) H3) (hd : ∀ H, Pv xs.length H → Q (.bl (!stopv)) H) :
    GxR.TabG H1 T ∧ ∀ H2, GxR.Tabbed T H1 H2 → ∃ W : Nat → Nat → Hp → Prop, (∃ m, W 0 m H2) ∧ ∀ i m H, W i m H →
      ((Itt K a).stop i H ∧ Q (.bl (!stopv)) H) ∨ ((Itt K a).go i H ∧ ∃ Nx : Hp → Prop, (∀ H', Nx H' → ∃ m', m' < m ∧ W (i + 1) m' H') ∧ ∀ v H', (Itt K a).yld i H v H' → te (σ ++ [some v]) H' fun y H3 => ∃ b, y = .bl b ∧ if b = stopv then Q (.bl stopv) H3 else Nx H3) := by
  refine ⟨h0, fun H2 hT => ⟨fun i m H => i ≤ xs.length ∧ m = xs.length - i ∧ Pv i H, ⟨xs.length, Nat.zero_le _, rfl, p0 H2 (Ext.tabbed h0 hT)⟩, ?_⟩⟩
  rintro i m H ⟨hi, rfl, p⟩
  have q := hl i H p
  by_cases hlt : i < xs.length
  · refine .inr ⟨⟨xs, xs[i], SqT.of q, by simp [hlt]⟩, Pv (i + 1), fun H' p' => ⟨xs.length - (i + 1), by omega, hlt, rfl, p'⟩, fun v H' y => ?_⟩
    obtain ⟨e, y⟩ := y
    subst e
    exact hs i v H' (y xs (SqT.of q)) p
  · have e : i = xs.length := by omega
    subst e
    exact .inl ⟨⟨xs, SqT.of q, Nat.le_refl _⟩, hd H p⟩
end
end Bo
set_option Elab.async false
set_option linter.all false
set_option maxRecDepth 100000
/-! sets of places as numbers -/
namespace Bo
open PySem L2
theorem tb_add : ∀ (p y : Nat), y.testBit p = false → ∀ j, (y + 2 ^ p).testBit j = (y.testBit j || decide (j = p))
  | 0, y, h, j => by
    have e : y % 2 = 0 := by
      rw [Nat.testBit_zero] at h
      have := of_decide_eq_false h
      omega
    cases j with
    | zero => rw [Nat.testBit_zero, Nat.testBit_zero]; simp; omega
    | succ j =>
      rw [Nat.testBit_succ, Nat.testBit_succ]
      have : (y + 2 ^ 0) / 2 = y / 2 := by rw [Nat.pow_zero]; omega
      rw [this]; simp
  | p + 1, y, h, j => by
    rw [Nat.testBit_succ] at h
    cases j with
    | zero =>
      rw [Nat.testBit_zero, Nat.testBit_zero]
      have : (y + 2 ^ (p + 1)) % 2 = y % 2 := by rw [Nat.pow_succ]; omega
      rw [this]; simp
    | succ j =>
      rw [Nat.testBit_succ, Nat.testBit_succ]
      have : (y + 2 ^ (p + 1)) / 2 = y / 2 + 2 ^ p := by rw [Nat.pow_succ]; omega
      rw [this, tb_add p (y / 2) h j]
      simp
theorem tb_sub {x p : Nat} (h : x.testBit p = true) (j : Nat) : (x - 2 ^ p).testBit j = (x.testBit j && decide (j ≠ p)) := by
  have hx : 2 ^ p ≤ x := Nat.ge_two_pow_of_testBit h
  have e : x = (x - 2 ^ p) + 2 ^ p := by omega
  have h0 : (x - 2 ^ p).testBit p = false := by
    have := Nat.testBit_two_pow_add_eq (x - 2 ^ p) p
    rw [Nat.add_comm, ← e, h] at this
    cases hc : (x - 2 ^ p).testBit p with
    | false => rfl
    | true => rw [hc] at this; cases this
  have key := tb_add p (x - 2 ^ p) h0 j
  rw [← e] at key
  rw [key]
  by_cases ej : j = p
  · subst ej; rw [h0]; simp
  · simp [ej]
/-- x & ~(1 << p) -/
def clr (x p : Nat) : Nat := if x.testBit p then x - 2 ^ p else x
theorem tb_clr (x p j : Nat) : (clr x p).testBit j = (x.testBit j && decide (j ≠ p)) := by
  unfold clr
  split
  · rename_i h; exact tb_sub h j
  · rename_i h
    by_cases e : j = p
    · subst e; simp at h; simp [h]
    · simp [e]
theorem and_not_bit (x p : Nat) : Builtin.bitAnd (x : Int) (Builtin.bitNot (1 * 2 ^ p)) = (clr x p : Int) := by
  have h2 : (0 : Int) ≤ 2 ^ p := two_pow_nn p
  unfold Builtin.bitAnd
  have e1 : decide (0 ≤ (x : Int)) = true := decide_eq_true (Int.natCast_nonneg x)
  have e2 : decide (0 ≤ Builtin.bitNot (1 * 2 ^ p)) = false := by
    apply decide_eq_false
    unfold Builtin.bitNot
    omega
  rw [e1, e2]
  show (x : Int) - (((x : Int).toNat &&& (Builtin.bitNot (Builtin.bitNot (1 * 2 ^ p))).toNat : Nat) : Int) = _
  have e3 : (Builtin.bitNot (Builtin.bitNot (1 * 2 ^ p))).toNat = 2 ^ p := by
    unfold Builtin.bitNot
    have : (-(-(1 * 2 ^ p : Int) - 1) - 1) = ((2 ^ p : Nat) : Int) := by rw [Int.natCast_pow]; simp; omega
    rw [this]; rfl
  have e4 : x &&& 2 ^ p = (x.testBit p).toNat * 2 ^ p := Nat.eq_of_testBit_eq fun i => by
    rw [Nat.testBit_and, Nat.testBit_two_pow]
    by_cases e : p = i
    · subst e
      cases hx : x.testBit p with
      | true => simp [Nat.testBit_two_pow_self]
      | false => simp
    · cases hx : x.testBit p with
      | true => simp [e, Nat.testBit_two_pow_of_ne e]
      | false => simp [e]
  rw [e3, Int.toNat_natCast, e4]
  unfold clr
  cases h : x.testBit p with
  | true =>
    have := Nat.ge_two_pow_of_testBit h
    simp only [Bool.toNat_true, if_true, Nat.one_mul]
    omega
  | false => simp
theorem or_nat (a b : Nat) : Builtin.bitOr (a : Int) (b : Int) = ((a ||| b : Nat) : Int) := by rw [bitOr_nn (Int.natCast_nonneg _) (Int.natCast_nonneg _)]; simp
theorem xor_nat (a b : Nat) : Builtin.bitXor (a : Int) (b : Int) = ((a ^^^ b : Nat) : Int) := by rw [Bits.bitXor_pp (Int.natCast_nonneg _) (Int.natCast_nonneg _)]; simp
theorem and_nat (a b : Nat) : Builtin.bitAnd (a : Int) (b : Int) = ((a &&& b : Nat) : Int) := by
  unfold Builtin.bitAnd
  rw [decide_eq_true (Int.natCast_nonneg a), decide_eq_true (Int.natCast_nonneg b)]
  show (((a : Int).toNat &&& (b : Int).toNat : Nat) : Int) = _
  rw [Int.toNat_natCast, Int.toNat_natCast]
theorem shl_nat (a p : Nat) : (a : Int) * 2 ^ ((p : Int)).toNat = ((a * 2 ^ p : Nat) : Int) := by
  rw [Int.toNat_natCast, Int.natCast_mul, Int.natCast_pow]; rfl
theorem one_shl (p : Nat) : (1 : Int) * 2 ^ ((p : Int)).toNat = ((2 ^ p : Nat) : Int) := by
  rw [Int.toNat_natCast, Int.one_mul, Int.natCast_pow]; rfl
theorem xor_top_lt {m : Nat} (h : m ≠ 0) : m ^^^ 2 ^ m.log2 < m := by
  refine Nat.lt_of_lt_of_le (m := 2 ^ m.log2) ?_ (Nat.log2_self_le h)
  refine Nat.lt_pow_two_of_testBit _ fun i hi => ?_
  rw [Nat.testBit_xor, Nat.testBit_two_pow]
  by_cases e : m.log2 = i
  · subst e; rw [Nat.testBit_log2 h]; simp
  · have : m.testBit i = false := Nat.testBit_lt_two_pow (Nat.lt_of_lt_of_le Nat.lt_log2_self (Nat.pow_le_pow_right (by omega) (by omega)))
    rw [this]; simp [e]
theorem tb_xor_top {m : Nat} (h : m ≠ 0) (k : Nat) : (m ^^^ 2 ^ m.log2).testBit k = (m.testBit k && decide (k ≠ m.log2)) := by
  rw [Nat.testBit_xor, Nat.testBit_two_pow]
  by_cases e : m.log2 = k
  · subst e; rw [Nat.testBit_log2 h]; simp
  · have : ¬ k = m.log2 := fun z => e z.symm
    simp [e, this]
theorem bits_nat {m : Nat} (h : m ≠ 0) : ((Builtin.Int.intBits (m : Int) : Nat) : Int) - 1 = ((m.log2 : Nat) : Int) := by
  unfold Builtin.Int.intBits
  have : ((m : Int) == 0) = false := by simpa using h
  rw [this]
  simp
/-- the places where a stretch from i ends, for each i -/
def Rep (n : Nat) (R : Nat → Nat → Prop) (E : List Nat) : Prop := E.length = n + 1 ∧ ∀ i, i ≤ n → ∀ j, (E.getD i 0).testBit j = true ↔ R i j
/-- the number of the places that are led to from those of m -/
def Beh (E : List Nat) (m r : Nat) : Prop := ∀ j, r.testBit j = true ↔ ∃ k, m.testBit k = true ∧ (E.getD k 0).testBit j = true
theorem Beh.uniq {E : List Nat} {m r r' : Nat} (a : Beh E m r) (b : Beh E m r') : r = r' := Nat.eq_of_testBit_eq fun j => by rw [Bool.eq_iff_iff, a j, b j]
theorem lt_of_bits {x n : Nat} (h : ∀ j, x.testBit j = true → j < n) : x < 2 ^ n := Nat.lt_pow_two_of_testBit _ fun i hi => by
  cases e : x.testBit i with
  | false => rfl
  | true => have := h i e; omega
theorem bit_of_shift {x n : Nat} (h : x < 2 ^ (n + 1)) : (x / 2 ^ n = 1) ↔ x.testBit n = true := by
  rw [Nat.testBit_eq_decide_div_mod_eq, decide_eq_true_eq]
  have h9 : x / 2 ^ n < 2 := Nat.div_lt_of_lt_mul (by rw [Nat.pow_succ] at h; omega)
  generalize x / 2 ^ n = q at h9 ⊢
  omega
theorem star_iff {R : Nat → Nat → Prop} {i j : Nat} : Star R i j ↔ i = j ∨ ∃ k, k ≠ i ∧ R i k ∧ Star R k j := by
  constructor
  · intro h
    induction h with
    | refl => exact .inl rfl
    | @step a b c r s ih =>
      by_cases e : b = a
      · subst e; exact ih
      · exact .inr ⟨b, e, r, s⟩
  · rintro (rfl | ⟨k, _, r, s⟩)
    · exact .refl _
    · exact .step r s
theorem MRow_snoc (t : List Nat) (p : Pat) : ∀ (ps : List Pat) (i j : Nat), MRow t (ps ++ [p]) i j ↔ ∃ k, MRow t ps i k ∧ M t p k j
  | [], i, j => by
    show (∃ k, M t p i k ∧ k = j) ↔ ∃ k, i = k ∧ M t p k j
    exact ⟨fun ⟨k, h, e⟩ => ⟨i, rfl, e ▸ h⟩, fun ⟨k, e, h⟩ => ⟨j, e ▸ h, rfl⟩⟩
  | q :: ps, i, j => by
    show (∃ k, M t q i k ∧ MRow t (ps ++ [p]) k j) ↔ ∃ k, (∃ l, M t q i l ∧ MRow t ps l k) ∧ M t p k j
    constructor
    · rintro ⟨k, h, h2⟩
      obtain ⟨l, a, b⟩ := (MRow_snoc t p ps k j).mp h2
      exact ⟨l, ⟨k, h, a⟩, b⟩
    · rintro ⟨k, ⟨l, a, b⟩, c⟩
      exact ⟨l, a, (MRow_snoc t p ps l j).mpr ⟨k, b, c⟩⟩
theorem MOr_snoc (t : List Nat) (p : Pat) : ∀ (ps : List Pat) (i j : Nat), MOr t (ps ++ [p]) i j ↔ MOr t ps i j ∨ M t p i j
  | [], i, j => by show (M t p i j ∨ False) ↔ (False ∨ M t p i j); simp
  | q :: ps, i, j => by
    show (M t q i j ∨ MOr t (ps ++ [p]) i j) ↔ (M t q i j ∨ MOr t ps i j) ∨ M t p i j
    rw [MOr_snoc t p ps i j, or_assoc]
theorem MAnd_snoc (t : List Nat) (p : Pat) : ∀ (ps : List Pat) (i j : Nat), MAnd t (ps ++ [p]) i j ↔ MAnd t ps i j ∧ M t p i j
  | [], i, j => by show (M t p i j ∧ True) ↔ (True ∧ M t p i j); simp
  | q :: ps, i, j => by
    show (M t q i j ∧ MAnd t (ps ++ [p]) i j) ↔ (M t q i j ∧ MAnd t ps i j) ∧ M t p i j
    rw [MAnd_snoc t p ps i j, and_assoc]
theorem MAnd_mem {t : List Nat} {i j : Nat} : ∀ {ps : List Pat}, MAnd t ps i j ↔ ∀ p ∈ ps, M t p i j
  | [] => by show True ↔ _; simp
  | q :: ps => by
    show (M t q i j ∧ MAnd t ps i j) ↔ _
    rw [MAnd_mem (ps := ps)]; simp
theorem MOr_mem {t : List Nat} {i j : Nat} : ∀ {ps : List Pat}, MOr t ps i j ↔ ∃ p ∈ ps, M t p i j
  | [] => by show False ↔ _; simp
  | q :: ps => by
    show (M t q i j ∨ MOr t ps i j) ↔ _
    rw [MOr_mem (ps := ps)]; simp
theorem tb_between {N p : Nat} (h : p ≤ N) (j : Nat) : (2 ^ N - 2 ^ p).testBit j = (decide (p ≤ j) && decide (j < N)) := by
  have hp : 1 ≤ 2 ^ p := Nat.one_le_two_pow
  have hN : 2 ^ p ≤ 2 ^ N := Nat.pow_le_pow_right (by omega) h
  have e : 2 ^ N - 2 ^ p = 2 ^ N - ((2 ^ p - 1) + 1) := by omega
  rw [e, Nat.testBit_two_pow_sub_succ (by omega), Nat.testBit_two_pow_sub_one, Bool.and_comm]
  congr 1
  by_cases q : j < p <;> simp [q] <;> omega
end Bo
set_option Elab.async false
set_option linter.all false
set_option maxRecDepth 100000
set_option maxHeartbeats 4000000
/-! list comprehensions that put values in a row -/
namespace Bo
open PySem PySem.Spec PyProof.Rows L2 GE
abbrev nV (x : Nat) : V := V.int (x : Int)
/-- a new list at D holds the first i of some values; what was there before H0 stays -/
def Built (H0 : Hp) (D : Addr) (vals : Nat → V) (i : Nat) (H : Hp) : Prop := Ext H0 H ∧ H D = some (.lst ((List.range i).map vals))
theorem Built.zero {H0 : Hp} {D : Addr} {vals : Nat → V} (h : H0 D = none) : Built H0 D vals 0 (upd H0 D (.lst [])) := ⟨(Ext.refl _).wr h, upd_same⟩
theorem Built.next {H0 H H4 : Hp} {D : Addr} {vals : Nat → V} {i : Nat} {y : V} (h0 : H0 D = none) (b : Built H0 D vals i H) (e : Ext H H4) (ey : y = vals i) (hi : i < sizeLine) :
    ∃ acc, H4 D = some (.lst acc) ∧ acc.length < sizeLine ∧ Built H0 D vals (i + 1) (upd H4 D (.lst (acc ++ [y]))) := by
  refine ⟨_, e.lst b.2, by simpa using hi, (b.1.trans e).wr h0, ?_⟩
  rw [upd_same, ey, List.range_succ, List.map_append]
  rfl
section
variable {K : PySem.W.Frag} {g : TG} {tt : TT} {te : TE} {vs : List Nat} {σ : L2.St} {H1 : Hp} {D : Addr} {Qd : Hp → Prop}
/-- over the signs of a text with their places -/
theorem lc_ites {x : Str} (Pv : Nat → Hp → Prop) (h0 : Pv 0 (upd H1 D (.lst [])))
    (hs : ∀ i c T H, x.cps[i]? = some c → H T = none → Pv i H → g (.ref T) (wipe σ vs) (upd H T (.tup [nV i, .str ⟨#[c]⟩])) fun σ2 H2 => wipe σ2 vs = wipe σ vs ∧ tt σ2 H2 fun b H3 =>
      if b = true then te σ2 H3 fun y H4 => ∃ acc, H4 D = some (.lst acc) ∧ acc.length < sizeLine ∧ Pv (i + 1) (upd H4 D (.lst (acc ++ [y]))) else Pv (i + 1) H3) (hd : ∀ H, Pv x.cps.size H → Qd H) :
    ∃ W : Nat → Nat → Hp → Prop, (∃ m, W 0 m (upd H1 D (.lst []))) ∧ ∀ i m H, W i m H →
      ((Ites x).stop i H ∧ Qd H) ∨ ((Ites x).go i H ∧ ∃ Nx : Hp → Prop, (∀ H', Nx H' → ∃ m', m' < m ∧ W (i + 1) m' H') ∧ ∀ v H', (Ites x).yld i H v H' → g v (wipe σ vs) H' fun σ2 H2 => wipe σ2 vs = wipe σ vs ∧ tt σ2 H2 fun b H3 =>
        if b = true then te σ2 H3 fun y H4 => ∃ acc, H4 D = some (.lst acc) ∧ acc.length < sizeLine ∧ Nx (upd H4 D (.lst (acc ++ [y]))) else Nx H3) := by
  refine ⟨fun i m H => m = x.cps.size - i ∧ i ≤ x.cps.size ∧ Pv i H, ⟨x.cps.size, by simp, Nat.zero_le _, h0⟩, ?_⟩
  rintro i m H ⟨rfl, hi, p⟩
  by_cases hlt : i < x.cps.size
  · refine .inr ⟨hlt, Pv (i + 1), fun H' p' => ⟨x.cps.size - (i + 1), by omega, rfl, hlt, p'⟩, fun v H' y => ?_⟩
    obtain ⟨T, c, rfl, hT, rfl, hc⟩ := y
    exact hs i c T H hc hT p
  · have e : i = x.cps.size := by omega
    subst e
    exact .inl ⟨rfl, hd H p⟩
/-- over a list with places -/
theorem lc_ite {a : Addr} {xs : List V} (Pv : Nat → Hp → Prop) (h0 : Pv 0 (upd H1 D (.lst []))) (hl : ∀ i H, Pv i H → SqL K H a xs)
    (hs : ∀ i x T H, xs[i]? = some x → H T = none → Pv i H → g (.ref T) (wipe σ vs) (upd H T (.tup [nV i, x])) fun σ2 H2 => wipe σ2 vs = wipe σ vs ∧ tt σ2 H2 fun b H3 =>
      if b = true then te σ2 H3 fun y H4 => ∃ acc, H4 D = some (.lst acc) ∧ acc.length < sizeLine ∧ Pv (i + 1) (upd H4 D (.lst (acc ++ [y]))) else Pv (i + 1) H3) (hd : ∀ H, Pv xs.length H → Qd H) :
    ∃ W : Nat → Nat → Hp → Prop, (∃ m, W 0 m (upd H1 D (.lst []))) ∧ ∀ i m H, W i m H →
      ((Ite K a).stop i H ∧ Qd H) ∨ ((Ite K a).go i H ∧ ∃ Nx : Hp → Prop, (∀ H', Nx H' → ∃ m', m' < m ∧ W (i + 1) m' H') ∧ ∀ v H', (Ite K a).yld i H v H' → g v (wipe σ vs) H' fun σ2 H2 => wipe σ2 vs = wipe σ vs ∧ tt σ2 H2 fun b H3 =>
        if b = true then te σ2 H3 fun y H4 => ∃ acc, H4 D = some (.lst acc) ∧ acc.length < sizeLine ∧ Nx (upd H4 D (.lst (acc ++ [y]))) else Nx H3) := by
  refine ⟨fun i m H => m = xs.length - i ∧ i ≤ xs.length ∧ Pv i H, ⟨xs.length, by simp, Nat.zero_le _, h0⟩, ?_⟩
  rintro i m H ⟨rfl, hi, p⟩
  have q := hl i H p
  by_cases hlt : i < xs.length
  · refine .inr ⟨⟨xs, xs[i], q, by simp [hlt]⟩, Pv (i + 1), fun H' p' => ⟨xs.length - (i + 1), by omega, rfl, hlt, p'⟩, fun v H' y => ?_⟩
    obtain ⟨T, x, rfl, hT, rfl, hx⟩ := y
    exact hs i x T H (hx xs q) hT p
  · have e : i = xs.length := by omega
    subst e
    exact .inl ⟨⟨xs, q, Nat.le_refl _⟩, hd H p⟩
/-- over two lists of one length -/
theorem lc_itz {a b : Addr} {xs ys : List V} (hl : xs.length = ys.length) (Pv : Nat → Hp → Prop) (h0 : Pv 0 (upd H1 D (.lst []))) (hq : ∀ i H, Pv i H → SqL K H a xs ∧ SqL K H b ys)
    (hs : ∀ i x y T H, xs[i]? = some x → ys[i]? = some y → H T = none → Pv i H → g (.ref T) (wipe σ vs) (upd H T (.tup [x, y])) fun σ2 H2 => wipe σ2 vs = wipe σ vs ∧ tt σ2 H2 fun b H3 =>
      if b = true then te σ2 H3 fun y H4 => ∃ acc, H4 D = some (.lst acc) ∧ acc.length < sizeLine ∧ Pv (i + 1) (upd H4 D (.lst (acc ++ [y]))) else Pv (i + 1) H3) (hd : ∀ H, Pv xs.length H → Qd H) :
    ∃ W : Nat → Nat → Hp → Prop, (∃ m, W 0 m (upd H1 D (.lst []))) ∧ ∀ i m H, W i m H →
      ((Itz K a b).stop i H ∧ Qd H) ∨ ((Itz K a b).go i H ∧ ∃ Nx : Hp → Prop, (∀ H', Nx H' → ∃ m', m' < m ∧ W (i + 1) m' H') ∧ ∀ v H', (Itz K a b).yld i H v H' → g v (wipe σ vs) H' fun σ2 H2 => wipe σ2 vs = wipe σ vs ∧ tt σ2 H2 fun b H3 =>
        if b = true then te σ2 H3 fun y H4 => ∃ acc, H4 D = some (.lst acc) ∧ acc.length < sizeLine ∧ Nx (upd H4 D (.lst (acc ++ [y]))) else Nx H3) := by
  refine ⟨fun i m H => m = xs.length - i ∧ i ≤ xs.length ∧ Pv i H, ⟨xs.length, by simp, Nat.zero_le _, h0⟩, ?_⟩
  rintro i m H ⟨rfl, hi, p⟩
  obtain ⟨q1, q2⟩ := hq i H p
  by_cases hlt : i < xs.length
  · have hlt2 : i < ys.length := by omega
    refine .inr ⟨⟨xs, ys, xs[i], ys[i], q1, q2, by simp [hlt], by simp [hlt2]⟩, Pv (i + 1), fun H' p' => ⟨xs.length - (i + 1), by omega, rfl, hlt, p'⟩, fun v H' y => ?_⟩
    obtain ⟨T, x, y, rfl, hT, rfl, hx, hy⟩ := y
    exact hs i x y T H (hx xs q1) (hy ys q2) hT p
  · have e : i = xs.length := by omega
    subst e
    exact .inl ⟨⟨xs, ys, q1, q2, .inl (Nat.le_refl _)⟩, hd H p⟩
end
/-- a pair just made taken apart into slots i and j -/
theorem g_pair {K : PySem.W.Frag} {i j : Nat} {T : Addr} {x y : V} {σ : L2.St} {H : Hp} {Q : L2.St → Hp → Prop} (h : H T = some (.tup [x, y])) (q : Q ((σ.set i (some x)).set j (some y)) H) :
    gTup K 2 (gCons (gName i) (gCons (gName j) gNil)) (.ref T) σ H Q := ⟨T, _, rfl, SqT.of h, rfl, x, _, rfl, y, _, rfl, rfl, q⟩
end Bo
set_option Elab.async false
set_option linter.all false
set_option maxRecDepth 100000
set_option maxHeartbeats 0
namespace Bo
open PySem PySem.Spec PyProof.Rows L2
def top (i : Nat) : Stmt := PySem.Challenge.pw_bothreed_k06_rooms_and_partings.main.body.getD i (.Pass ⟨0, 0, 0, 0⟩)
abbrev sNeedLetters : Stmt := top 10
abbrev sNeedText : Stmt := top 11
abbrev sTextAlong : Stmt := top 15
abbrev sRoomOf : Stmt := top 17
abbrev sParting : Stmt := top 18
abbrev sNeedRoom : Stmt := top 19
abbrev sLawCellAt : Stmt := top 21
abbrev sLawLetters : Stmt := top 22
abbrev sLawText : Stmt := top 23
abbrev sLawKind : Stmt := top 24
abbrev sLawMachine : Stmt := top 25
abbrev sLawFar : Stmt := top 26
abbrev sLawDue : Stmt := top 27
abbrev sLawTold : Stmt := top 28
abbrev sLawNoText : Stmt := top 29
abbrev sLawLongest : Stmt := top 30
abbrev sLawRefused : Stmt := top 31
abbrev sLawGood : Stmt := top 32
abbrev sLaw : Stmt := top 33
abbrev sMeetingInit : Stmt := inClass (top 13) 0
abbrev sMeetingFirstOf : Stmt := inClass (top 13) 1
abbrev sMeetingJoinRooms : Stmt := inClass (top 13) 2
def dMeetingInit : He.DefD := ⟨("Meeting", some "__init__"), "__init__", "Meeting.__init__", defArgs sMeetingInit, defBody sMeetingInit, defScope sMeetingInit, [], []⟩
def dMeetingFirstOf : He.DefD := ⟨("Meeting", some "first_of"), "first_of", "Meeting.first_of", defArgs sMeetingFirstOf, defBody sMeetingFirstOf, defScope sMeetingFirstOf, [], []⟩
def dMeetingJoinRooms : He.DefD := ⟨("Meeting", some "join_rooms"), "join_rooms", "Meeting.join_rooms", defArgs sMeetingJoinRooms, defBody sMeetingJoinRooms, defScope sMeetingJoinRooms, [], []⟩
def dNeedLetters : He.DefD := ⟨("need_letters", none), "need_letters", "need_letters", defArgs sNeedLetters, defBody sNeedLetters, defScope sNeedLetters, [], []⟩
def dNeedText : He.DefD := ⟨("need_text", none), "need_text", "need_text", defArgs sNeedText, defBody sNeedText, defScope sNeedText, [], []⟩
def dTextAlong : He.DefD := ⟨("text_along", none), "text_along", "text_along", defArgs sTextAlong, defBody sTextAlong, defScope sTextAlong, [], []⟩
def dRoomOf : He.DefD := ⟨("room_of", none), "room_of", "room_of", defArgs sRoomOf, defBody sRoomOf, defScope sRoomOf, [], []⟩
def dParting : He.DefD := ⟨("parting", none), "parting", "parting", defArgs sParting, defBody sParting, defScope sParting, [], []⟩
def dNeedRoom : He.DefD := ⟨("need_room", none), "need_room", "need_room", defArgs sNeedRoom, defBody sNeedRoom, defScope sNeedRoom, [], []⟩
def dLawCellAt : He.DefD := ⟨("_law_cell_at", none), "_law_cell_at", "_law_cell_at", defArgs sLawCellAt, defBody sLawCellAt, defScope sLawCellAt, [], []⟩
def dLawLetters : He.DefD := ⟨("_law_letters", none), "_law_letters", "_law_letters", defArgs sLawLetters, defBody sLawLetters, defScope sLawLetters, [], []⟩
def dLawText : He.DefD := ⟨("_law_text", none), "_law_text", "_law_text", defArgs sLawText, defBody sLawText, defScope sLawText, [], []⟩
def dLawKind : He.DefD := ⟨("_law_kind", none), "_law_kind", "_law_kind", defArgs sLawKind, defBody sLawKind, defScope sLawKind, [], []⟩
def dLawMachine : He.DefD := ⟨("_law_machine", none), "_law_machine", "_law_machine", defArgs sLawMachine, defBody sLawMachine, defScope sLawMachine, [], []⟩
def dLawFar : He.DefD := ⟨("_law_far", none), "_law_far", "_law_far", defArgs sLawFar, defBody sLawFar, defScope sLawFar, [], []⟩
def dLawDue : He.DefD := ⟨("_law_due", none), "_law_due", "_law_due", defArgs sLawDue, defBody sLawDue, defScope sLawDue, [], []⟩
def dLawTold : He.DefD := ⟨("_law_told", none), "_law_told", "_law_told", defArgs sLawTold, defBody sLawTold, defScope sLawTold, [], []⟩
def dLawNoText : He.DefD := ⟨("_law_no_text", none), "_law_no_text", "_law_no_text", defArgs sLawNoText, defBody sLawNoText, defScope sLawNoText, [], []⟩
def dLawLongest : He.DefD := ⟨("_law_longest", none), "_law_longest", "_law_longest", defArgs sLawLongest, defBody sLawLongest, defScope sLawLongest, [], []⟩
def dLawRefused : He.DefD := ⟨("_law_refused", none), "_law_refused", "_law_refused", defArgs sLawRefused, defBody sLawRefused, defScope sLawRefused, [], []⟩
def dLawGood : He.DefD := ⟨("_law_good", none), "_law_good", "_law_good", defArgs sLawGood, defBody sLawGood, defScope sLawGood, [], []⟩
def dLaw : He.DefD := ⟨("law", none), "law", "law", defArgs sLaw, defBody sLaw, defScope sLaw, [], []⟩
def fn : List He.DefD := [dNeedLetters, dNeedText, dTextAlong, dRoomOf, dParting, dNeedRoom, dLawCellAt, dLawLetters, dLawText, dLawKind, dLawMachine, dLawFar, dLawDue, dLawTold, dLawNoText, dLawLongest, dLawRefused, dLawGood, dLaw, dMeetingInit, dMeetingFirstOf, dMeetingJoinRooms]
def fa : List He.Fa := [.glo "need_letters", .glo "need_text", .glo "text_along", .glo "room_of", .glo "parting", .glo "need_room", .glo "_law_cell_at", .glo "_law_letters", .glo "_law_text", .glo "_law_kind", .glo "_law_machine", .glo "_law_far", .glo "_law_due", .glo "_law_told", .glo "_law_no_text", .glo "_law_longest", .glo "_law_refused", .glo "_law_good", .glo "law", .glo "Meeting", .cls "Meeting", .mkr "Meeting", .noat "Meeting" "ahead", .meth "Meeting" "__init__", .meth "Meeting" "first_of", .meth "Meeting" "join_rooms", .glo "PatternError", .glo "NoLetters", .glo "NoPattern", .glo "TooGreat", .glo "NoText", .glo "NoRoom", .exc "PatternError", .exc "NoLetters", .exc "NoPattern", .exc "TooGreat", .exc "NoText", .exc "NoRoom", .free "ValueError", .free "abs", .free "all", .free "bool", .free "int", .free "isinstance", .free "len", .free "list", .free "range", .free "reversed", .free "set", .free "str", .free "zip", .int "MOST_LETTERS" 4, .int "MOST_SIGNS" 200, .exm "PatternError" "PatternError" true, .exm "NoLetters" "PatternError" true, .exm "NoPattern" "PatternError" true, .exm "TooGreat" "PatternError" true, .exm "NoText" "PatternError" true, .exm "NoRoom" "PatternError" true]
def ts : List He.Tab := []
def tf : List He.Defn := [("need_letters", none), ("need_text", none)]
def names0 : List PySem.Str := ["need_letters", "need_text", "text_along", "room_of", "parting", "need_room", "_law_cell_at", "_law_letters", "_law_text", "_law_kind", "_law_machine", "_law_far", "_law_due", "_law_told", "_law_no_text", "_law_longest", "_law_refused", "_law_good", "PatternError", "NoLetters"]
def names1 : List PySem.Str := ["NoPattern", "TooGreat", "NoText", "NoRoom", "Meeting", "MOST_LETTERS", "MOST_SIGNS"]
def names : List PySem.Str := names0 ++ names1
def cn : Nat → PySem.Str
  | 0 => "NoLetters" | 1 => "NoPattern" | 2 => "TooGreat" | 3 => "NoText" | _ => "NoRoom"
/-- isinstance may ask the instances of the class at D -/
def excB (K : PySem.W.Frag) (D : Addr) : Bool :=
  decide (PySem.W.findIn K (.ref D) "__getattribute__" = some (some (.builtin "BaseException.__getattribute__"))) && decide (PySem.W.findIn K (.ref D) "__getattr__" = some none) && decide (PySem.W.subIn K (.ref D) (.type "BaseException") = some true) && PySem.W.hasDictIn K D &&
  decide (PySem.W.findIn K (.ref D) "__class__" = some (some (.builtin "object.__class__"))) && decide (PySem.W.specialIn K (.builtin "object.__class__") "__get__" = some (some (.builtin "getset_descriptor.__get__"))) && decide (PySem.W.takesIn K (.builtin "object.__class__") = some true) && decide (PySem.W.mroIn K D (.type "object") = some true)
def exE (K : PySem.W.Frag) : Bool :=
  ((List.range 5).all fun i => excB K (He.ga K (cn i))) && ((List.range 5).all fun i => (List.range 5).all fun j => decide (PySem.W.kitOne K (.ref (He.ga K (cn i))) (.ref (He.ga K (cn j))) = some (decide (i = j)))) &&
  (List.range 5).all fun i => decide (PySem.W.kitOne K (.ref (He.ga K (cn i))) (.type "ValueError") = some true)

/-- a tuple of texts of the top -/
def tupB (K : PySem.W.Frag) (a : Addr) (zs : List PySem.Str) : Bool := match K.lookup a with
  | some o => decide (o.cls = .type "tuple") && (match o.data with
    | .seq its _ => decide (its.toList.length ≤ 100) && decide (its.toList.map (fun u => match u with | .str z _ => some z | _ => none) = zs.map some)
    | _ => false)
  | none => false
def strB (K : PySem.W.Frag) (d : Addr) (k z : PySem.Str) : Bool := match PySem.W.nsIn K d k with
  | some (some (.str y _)) => decide (y = z)
  | _ => false
def brA (K : PySem.W.Frag) (d : Addr) (k : PySem.Str) : Addr := match PySem.W.nsIn K d k with
  | some (some (.ref a)) => a
  | _ => 0
def brB (K : PySem.W.Frag) (d : Addr) (k : PySem.Str) (zs : List PySem.Str) : Bool := decide (PySem.W.nsIn K d k = some (some (.ref (brA K d k)))) && tupB K (brA K d k) zs
def exT (K : PySem.W.Frag) : List Bool := []
def ex (K : PySem.W.Frag) : Bool := (exT K).all id && exE K
abbrev R : PySem.W.OpenRow := PySem.W.OpenLaw.row PySem.Challenge.rw_bothreed_k06_rooms_and_partings
abbrev hk : PySem.W.Hook := He.hookX 4 fa fn ts tf ex
def ob (s : PySem.W.SharedT) : He.AlX := He.obsX 4 fa fn ts tf ex (HandSHeadRun.getT s)
theorem ob_eq (s : PySem.W.SharedT) : ob s = hk.obs s.abs := He.obsX_eq (HandSHeadRun.getT_eq s)
theorem runEqF (w : World) (os : PySem.OsState) : (fun w => (HandSHeadRun.endF (HandSHeadRun.stepQ (HandSHeadRun.denQ HandSHeadRun.tabQ) R.prog w) 9000 R.prog w os).map (fun s => (HandSHeadRun.looksF R.prog (PySem.W.boot_heap w.params) s.abs, HandSHeadRun.seenQ (PySem.W.view R.prog [33]) names (PySem.importedModules R.prog.main.body) (fun s => PySem.W.xlAt (PySem.W.view R.prog [33]) [] s && PySem.W.recOk R.toRowW.records s) s.abs, ob s)) = some (true, PySem.W.openGood (PySem.W.view R.prog [33]) names, hk.val w)) (w.withFollow "special-get-raises" false) := by
  kernel_rfl
theorem runEqT (w : World) (os : PySem.OsState) : (fun w => (HandSHeadRun.endF (HandSHeadRun.stepQ (HandSHeadRun.denQ HandSHeadRun.tabQ) R.prog w) 9000 R.prog w os).map (fun s => (HandSHeadRun.looksF R.prog (PySem.W.boot_heap w.params) s.abs, HandSHeadRun.seenQ (PySem.W.view R.prog [33]) names (PySem.importedModules R.prog.main.body) (fun s => PySem.W.xlAt (PySem.W.view R.prog [33]) [] s && PySem.W.recOk R.toRowW.records s) s.abs, ob s)) = some (true, PySem.W.openGood (PySem.W.view R.prog [33]) names, hk.val w)) (w.withFollow "special-get-raises" true) := by
  kernel_rfl
theorem run (w : World) : HandSHeadRun.RunEq R (PySem.W.view R.prog [33]) hk ob 9000 names w :=
  PySem.W.byRow2 "special-get-raises" (P := fun w => HandSHeadRun.RunEq R (PySem.W.view R.prog [33]) hk ob 9000 names w) (fun w os => runEqF w os) (fun w os => runEqT w os) w
end Bo
set_option Elab.async false
set_option linter.all false
set_option maxRecDepth 100000
set_option maxHeartbeats 4000000
namespace Bo
open PySem PySem.Spec PyProof.Rows L2 GE
/-- the text's codes -/
abbrev cds (z : Str) : List Nat := z.cps.toList
/-- an own error class -/
structure EX (K : PySem.W.Frag) (mg : Str → Option Value) (x : Str) (C : Addr) : Prop where
  g : mg x = some (.ref C)
  q : PySem.W.excIn K C He.veBase "ValueError.__new__" = true
  k : PySem.W.keepIn K (.ref C) = true
  s : PySem.W.subIn K (.ref C) (.type "BaseException") = some true
  t : PySem.W.typeIn K (.ref C) = some (.type "type")
def tys : List String := ["NoneType", "bool", "int", "str", "list", "tuple", "dict"]
/-- a value of a known kind -/
def Kn (K : PySem.W.Frag) (H : Hp) (v : V) (T : String) : Prop := TyX K H v (.type T) ∧ T ∈ tys
theorem kn_str {K : PySem.W.Frag} {T : String} (h : T ∈ tys) : PySem.W.kitOne K (.type T) (.type "str") = some (decide (T = "str")) := by
  simp only [tys, List.mem_cons, List.not_mem_nil, or_false] at h
  rcases h with rfl | rfl | rfl | rfl | rfl | rfl | rfl <;> exact kit_ty (by decide +kernel)
theorem kn_tup {K : PySem.W.Frag} {T : String} (h : T ∈ tys) : PySem.W.kitOne K (.type T) (.type "tuple") = some (decide (T = "tuple")) := by
  simp only [tys, List.mem_cons, List.not_mem_nil, or_false] at h
  rcases h with rfl | rfl | rfl | rfl | rfl | rfl | rfl <;> exact kit_ty (by decide +kernel)
def tagS : V → Value → Prop
  | .str _, t => t = .type "str"
  | _, t => t ≠ .type "str"
theorem tag_s {K : PySem.W.Frag} {H : Hp} {v : V} {t : Value} (h : TyX K H v t) : tagS v t := by
  cases h with
  | base b => cases b <;> first | exact rfl | exact fun e => (by injection e with e; exact absurd e (by decide)) | exact fun e => nomatch e
  | _ => exact fun e => (by injection e with e; exact absurd e (by decide))
theorem Kn.str {K : PySem.W.Frag} {H : Hp} {v : V} (h : Kn K H v "str") : ∃ z, v = .str z := by
  have q := tag_s h.1
  cases v <;> first | exact ⟨_, rfl⟩ | exact absurd rfl q
theorem Kn.ofStr (K : PySem.W.Frag) (H : Hp) (z : Str) : Kn K H (.str z) "str" := ⟨.base (.str z), by decide⟩
theorem Kn.notStr {K : PySem.W.Frag} {H : Hp} {v : V} {T : String} (h : Kn K H v T) (n : T ≠ "str") : ∀ z, v ≠ .str z := by
  rintro z rfl
  have q : Value.type T = .type "str" := tag_s h.1
  exact n (by injection q)
def goodS (z : Str) : Bool := decide (1 ≤ z.cps.size) && decide (z.cps.size ≤ 4) && (cds z).all (fun c => decide (97 ≤ c ∧ c ≤ 122)) && decide (unlike z z.cps.size = z.cps.size)
def goodV : V → Bool
  | .str z => goodS z
  | _ => false
theorem goodV_not {v : V} (h : ∀ z, v ≠ .str z) : goodV v = false := by
  cases v <;> first | rfl | exact absurd rfl (h _)
def spNL (K : PySem.W.Frag) (C T : Addr) : Sp := fun vs H Q E => ∃ (v : V) (Ty : String), vs = [v] ∧ Kn K H v Ty ∧ (∀ z, v = .str z → z.cps.size ≤ 100) ∧ GxR.TabG H T ∧ (goodV v = true → ∀ H', Ext H H' → Q .non H') ∧ (goodV v = false → ∀ H', Ext H H' → E (.ref C) none H')
theorem lt_sign (a b : Nat) : (!decide ([a] < [b])) = decide (b ≤ a) := by
  rw [Bool.eq_iff_iff, Bool.not_eq_true', decide_eq_false_iff_not, decide_eq_true_eq, List.cons_lt_cons_iff]
  constructor
  · intro h; apply Nat.not_lt.mp; exact fun e => h (.inl e)
  · rintro h (e | ⟨_, e⟩)
    · omega
    · exact absurd e (List.not_lt_nil _)
theorem get_all {p : Nat → Bool} {l : List Nat} {i : Nat} {c : Nat} (h : l[i]? = some c) : (l.take (i + 1)).all p = ((l.take i).all p && p c) := by
  rw [List.take_succ, List.all_append, h]; simp
theorem all_false {p : Nat → Bool} {l : List Nat} {i : Nat} {c : Nat} (h : l[i]? = some c) (hp : p c = false) : l.all p = false := by
  rw [List.all_eq_false]
  exact ⟨c, List.mem_of_getElem? h, by rw [hp]; exact Bool.false_ne_true⟩
section
variable {P : Program} {w : World} {K : PySem.W.Frag} {mg : Str → Option Value} {base : Heap}
/-- all over a text -/
theorem quant_str {stopv : Bool} {T : Addr} {x : Str} {te : TE} {σ : L2.St} {H1 : Hp} {Q : VK} (h0 : GxR.TabG H1 T) (Pv : Nat → Hp → Prop) (p0 : ∀ H, Ext H1 H → Pv 0 H)
    (hs : ∀ i c H, x.cps[i]? = some c → Pv i H → te (σ ++ [some (.str ⟨#[c]⟩)]) H fun y H3 => ∃ b, y = .bl b ∧ if b = stopv then Q (.bl stopv) H3 else Pv (i + 1) H3) (hd : ∀ H, Pv x.cps.size H → Q (.bl (!stopv)) H) :
    GxR.TabG H1 T ∧ ∀ H2, GxR.Tabbed T H1 H2 → ∃ W : Nat → Nat → Hp → Prop, (∃ m, W 0 m H2) ∧ ∀ i m H, W i m H →
      ((Its x).stop i H ∧ Q (.bl (!stopv)) H) ∨ ((Its x).go i H ∧ ∃ Nx : Hp → Prop, (∀ H', Nx H' → ∃ m', m' < m ∧ W (i + 1) m' H') ∧ ∀ v H', (Its x).yld i H v H' → te (σ ++ [some v]) H' fun y H3 => ∃ b, y = .bl b ∧ if b = stopv then Q (.bl stopv) H3 else Nx H3) := by
  refine ⟨h0, fun H2 hT => ⟨fun i m H => i ≤ x.cps.size ∧ m = x.cps.size - i ∧ Pv i H, ⟨x.cps.size, Nat.zero_le _, rfl, p0 H2 (Ext.tabbed h0 hT)⟩, ?_⟩⟩
  rintro i m H ⟨hi, rfl, p⟩
  by_cases hlt : i < x.cps.size
  · refine .inr ⟨hlt, Pv (i + 1), fun H' p' => ⟨x.cps.size - (i + 1), by omega, hlt, rfl, p'⟩, fun v H' y => ?_⟩
    obtain ⟨e, c, hc, y⟩ := y
    subst e
    subst y
    exact hs i c H' hc p
  · have e : i = x.cps.size := by omega
    subst e
    exact .inl ⟨Nat.le_refl _, hd H p⟩
theorem t_next {D : Ends} {σ : L2.St} {H : Hp} (h : D.nx σ H) : tNext D σ H := h
theorem if_notB {t : TE} {a b : TS} {D : Ends} {σ : L2.St} {H : Hp} (h : t σ H fun x H1 => ∃ c, x = .bl c ∧ if (!c) = true then a D σ H1 else b D σ H1) : tIfS (tNot (tB t)) a b D σ H := h
theorem qs_var {stopv : Bool} {T : Addr} {x : Str} {te : TE} {σ : L2.St} {H1 : Hp} {Q : VK} {j : Nat} (hj : σ[j]? = some (some (.str x))) (h0 : GxR.TabG H1 T) (Pv : Nat → Hp → Prop) (p0 : ∀ H, Ext H1 H → Pv 0 H)
    (hs : ∀ i c H, x.cps[i]? = some c → Pv i H → te (σ ++ [some (.str ⟨#[c]⟩)]) H fun y H3 => ∃ b, y = .bl b ∧ if b = stopv then Q (.bl stopv) H3 else Pv (i + 1) H3) (hd : ∀ H, Pv x.cps.size H → Q (.bl (!stopv)) H) : tQuant stopv T (iStr (tVar j)) te σ H1 Q :=
  ⟨_, hj, x, rfl, quant_str h0 Pv p0 hs hd⟩
theorem scNL : FnScope ["letters"] ["letters"] (defScope sNeedLetters) := ⟨rfl, rfl, rfl, by decide +kernel, rfl, by decide +kernel, by decide +kernel⟩
theorem nl_ok {f : Addr} {fd : FuncData} {c T C : Addr} {tk : Tok} (F : FnP K "need_letters" sNeedLetters f fd) (hc : fd.code = .ref c) (TB : GxR.TabB base mg c T) (X : EX K mg "NoLetters" C) (mi : mg "isinstance" = none) (ms : mg "str" = none) (ml : mg "len" = none) (ma : mg "all" = none) (mset : mg "set" = none) (mL : mg "MOST_LETTERS" = some (.int 4 tk)) :
    FnOk P w K mg base (L2N.CX P w) 3 f fd ["letters"] (spNL K C T) := by
  refine okC F hc scNL (fun vs H Q E h => ?_) (fun A outer s H vs Q E hr h => ?_)
  · obtain ⟨z, _, rfl, _⟩ := h
    rfl
  obtain ⟨v, Ty, rfl, hk, hz, hT, qg, qb⟩ := h
  refine ⟨_, pss_cons (ps_if (pt_not (pt_val (pe_callB call_isi rfl mi (by decide +kernel) (pa_cons (pv 0) (pa_cons (pe_bltn (v := .ty "str") (u := .type "str") rfl ms (by decide +kernel) rfl) pa_nil)))))
      (pss_one (L2N.ps_raise rfl (L2N.takes_of rfl rfl rfl rfl) (L2N.pmk_own PySem.F.excBase_ValueError X.q X.g X.k (raises_own X.s X.t) rfl))) pss_nil)
    (pss_cons (ps_if (pt_not (pt_chain op_le op_le pe_int (pe_callB call_len rfl ml PySem.boot_len (pa_cons (pv 0) pa_nil)) (pe_glob (v := .int 4) rfl mL ⟨_, rfl⟩)))
      (pss_one (L2N.ps_raise rfl (L2N.takes_of rfl rfl rfl rfl) (L2N.pmk_own PySem.F.excBase_ValueError X.q X.g X.k (raises_own X.s X.t) rfl))) pss_nil)
    (pss_cons (ps_if (pt_not (pt_val (pe_allE rfl hr rfl ma TB rfl (gsc_by (N := ["letters"]) (sc := defScope sNeedLetters) (by decide +kernel)) (pi_str (pv 0))
        (fun s H C code fp => pe_chain op_le_str op_le_str pe_str (pv 1) pe_str) (fun _ => rfl))))
      (pss_one (L2N.ps_raise rfl (L2N.takes_of rfl rfl rfl rfl) (L2N.pmk_own PySem.F.excBase_ValueError X.q X.g X.k (raises_own X.s X.t) rfl))) pss_nil)
    (pss_one (ps_if (pt_cmpR op_ne (pe_lenSetT rfl rfl ml rfl mset (pv 0)) (pe_callB call_len rfl ml PySem.boot_len (pa_cons (pv 0) pa_nil)) (nomark _))
      (pss_one (L2N.ps_raise rfl (L2N.takes_of rfl rfl rfl rfl) (L2N.pmk_own PySem.F.excBase_ValueError X.q X.g X.k (raises_own X.s X.t) rfl))) pss_nil)))), ?_⟩
  refine t_seq ⟨v, rfl, v, .ty "str", .type Ty, .type "str", _, rfl, .ty _, hk.1, kn_str hk.2, _, rfl, ?_⟩
  by_cases hs : Ty = "str"
  case neg => exact iffT (by rw [Bool.not_eq_true', decide_eq_false_iff_not]; exact hs) (qb (goodV_not (hk.notStr hs)) _ (Ext.refl _))
  subst hs
  obtain ⟨z, rfl⟩ := hk.str
  have hz := hz z rfl
  have qg : goodS z = true → ∀ H', Ext H H' → Q .non H' := qg
  have qb : goodS z = false → ∀ H', Ext H H' → E (.ref C) none H' := qb
  have ln : z.length ≤ sizeLine := Nat.le_trans hz (by decide)
  have hn : (cds z).length = z.cps.size := Array.length_toList
  refine iffF (by decide) ?_
  refine t_seq ⟨.str z, rfl, .str z, _, rfl, ⟨ln, rfl⟩, _, _, rfl, rfl, _, rfl, ?_⟩
  by_cases h1 : 1 ≤ z.cps.size
  · refine iffT (decide_eq_true (by show (1 : Int) ≤ ((z.cps.size : Nat) : Int); omega)) ⟨_, _, rfl, rfl, _, rfl, ?_⟩
    by_cases h4 : z.cps.size ≤ 4
    · refine iffF (by rw [Bool.not_eq_false', decide_eq_true_eq]; show ((z.cps.size : Nat) : Int) ≤ 4; omega) ?_
      dsimp only [tNext]
      refine t_seq ?_
      refine if_notB ?_
      refine qs_var rfl hT (fun i H' => Ext H H' ∧ ((cds z).take i).all (fun c => decide (97 ≤ c ∧ c ≤ 122)) = true) (fun H' e => ⟨e, rfl⟩) ?_ ?_
      · rintro i c H' hc ⟨e, hall⟩
        have hc' : (cds z)[i]? = some c := by rw [← hc]; exact Array.getElem?_toList
        refine ⟨_, rfl, _, _, rfl, rfl, _, rfl, ?_⟩
        rw [show (!decide ((⟨#[c]⟩ : Str).cps.toList < (Str.ofString "a").cps.toList)) = decide (97 ≤ c) from lt_sign c 97]
        by_cases ha : 97 ≤ c
        · refine iffT (decide_eq_true ha) ⟨_, _, rfl, rfl, _, rfl, ?_⟩
          rw [show (!decide ((Str.ofString "z").cps.toList < (⟨#[c]⟩ : Str).cps.toList)) = decide (c ≤ 122) from lt_sign 122 c]
          by_cases hz : c ≤ 122
          · rw [if_neg (by rw [decide_eq_true hz]; decide)]
            exact ⟨e, by rw [get_all hc', hall, decide_eq_true (And.intro ha hz)]; rfl⟩
          · rw [if_pos (decide_eq_false hz)]
            refine ⟨_, rfl, iffT rfl (qb ?_ _ e)⟩
            rw [goodS, all_false hc' (decide_eq_false (fun e => hz e.2))]; simp
        · refine iffF (decide_eq_false ha) ⟨_, rfl, ?_⟩
          rw [if_pos rfl]
          refine ⟨_, rfl, iffT rfl (qb ?_ _ e)⟩
          rw [goodS, all_false hc' (decide_eq_false (fun e => ha e.1))]; simp
      · rintro H' ⟨e, hall⟩
        rw [← hn, List.take_length] at hall
        refine ⟨_, rfl, iffF rfl ?_⟩
        refine ⟨.str z, rfl, z, rfl, hz, .str z, rfl, .str z, _, rfl, ⟨ln, rfl⟩, rfl, _, rfl, ?_⟩
        rw [dec_int]
        by_cases hu : unlike z z.cps.size = z.cps.size
        · refine iffF (by rw [hu]; simp; rfl) (qg ?_ _ e)
          rw [goodS, hall, decide_eq_true h1, decide_eq_true h4, decide_eq_true hu]; rfl
        · refine iffT (by rw [Bool.not_eq_true', beq_eq_false_iff_ne]; intro h; exact hu (Int.ofNat.inj h)) (qb ?_ _ e)
          rw [goodS, decide_eq_false hu]; simp
    · refine iffT (by rw [Bool.not_eq_true', decide_eq_false_iff_not]; show ¬ ((z.cps.size : Nat) : Int) ≤ 4; omega) ?_
      exact qb (by simp [goodS, h4]) _ (Ext.refl _)
  · refine iffF (decide_eq_false (by show ¬ (1 : Int) ≤ ((z.cps.size : Nat) : Int); omega)) ⟨_, rfl, iffT rfl ?_⟩
    exact qb (by simp [goodS, h1]) _ (Ext.refl _)
end
end Bo
set_option Elab.async false
set_option linter.all false
set_option maxRecDepth 100000
set_option maxHeartbeats 4000000
namespace Bo
open PySem PySem.Spec PyProof.Rows L2 GE
def goodT (L : Str) : V → Bool
  | .str z => decide (z.cps.size ≤ 200) && (cds z).all (fun c => decide (c ∈ cds L))
  | _ => false
theorem goodT_not {L : Str} {v : V} (h : ∀ z, v ≠ .str z) : goodT L v = false := by
  cases v <;> first | rfl | exact absurd rfl (h _)
def spNT (K : PySem.W.Frag) (C T : Addr) : Sp := fun vs H Q E => ∃ (L : Str) (v : V) (Ty : String), vs = [.str L, v] ∧ Kn K H v Ty ∧ (∀ z, v = .str z → z.cps.size ≤ 500) ∧ GxR.TabG H T ∧ (goodT L v = true → ∀ H', Ext H H' → Q .non H') ∧ (goodT L v = false → ∀ H', Ext H H' → E (.ref C) none H')
section
variable {P : Program} {w : World} {K : PySem.W.Frag} {mg : Str → Option Value} {base : Heap}
theorem scNT : FnScope ["letters", "text"] ["letters", "text"] (defScope sNeedText) := ⟨rfl, rfl, rfl, by decide +kernel, rfl, by decide +kernel, by decide +kernel⟩
theorem nt_ok {f : Addr} {fd : FuncData} {c T C : Addr} {tk : Tok} (F : FnP K "need_text" sNeedText f fd) (hc : fd.code = .ref c) (TB : GxR.TabB base mg c T) (X : EX K mg "NoText" C) (mi : mg "isinstance" = none) (ms : mg "str" = none) (ml : mg "len" = none) (ma : mg "all" = none) (mS : mg "MOST_SIGNS" = some (.int 200 tk)) :
    FnOk P w K mg base (L2N.CX P w) 3 f fd ["letters", "text"] (spNT K C T) := by
  refine okC F hc scNT (fun vs H Q E h => ?_) (fun A outer s H vs Q E hr h => ?_)
  · obtain ⟨L, v, Ty, rfl, _⟩ := h
    rfl
  obtain ⟨L, v, Ty, rfl, hk, hz, hT, qg, qb⟩ := h
  refine ⟨_, pss_cons (ps_if (pt_not (pt_val (pe_callB call_isi rfl mi (by decide +kernel) (pa_cons (pv 1) (pa_cons (pe_bltn (v := .ty "str") (u := .type "str") rfl ms (by decide +kernel) rfl) pa_nil)))))
      (pss_one (L2N.ps_raise rfl (L2N.takes_of rfl rfl rfl rfl) (L2N.pmk_own PySem.F.excBase_ValueError X.q X.g X.k (raises_own X.s X.t) rfl))) pss_nil)
    (pss_cons (ps_if (pt_cmpR op_gt (pe_callB call_len rfl ml PySem.boot_len (pa_cons (pv 1) pa_nil)) (pe_glob (v := .int 200) rfl mS ⟨_, rfl⟩) (nomark _))
      (pss_one (L2N.ps_raise rfl (L2N.takes_of rfl rfl rfl rfl) (L2N.pmk_own PySem.F.excBase_ValueError X.q X.g X.k (raises_own X.s X.t) rfl))) pss_nil)
    (pss_one (ps_if (pt_not (pt_val (pe_allE rfl hr rfl ma TB rfl (gsc_by (N := ["letters", "text"]) (sc := defScope sNeedText) (by decide +kernel)) (pi_str (pv 1))
        (fun s H C code fp => pe_cmpR op_in_sign (pv 2) (pv 0) (by rfl)) (fun _ => rfl))))
      (pss_one (L2N.ps_raise rfl (L2N.takes_of rfl rfl rfl rfl) (L2N.pmk_own PySem.F.excBase_ValueError X.q X.g X.k (raises_own X.s X.t) rfl))) pss_nil))), ?_⟩
  refine t_seq ⟨v, rfl, v, .ty "str", .type Ty, .type "str", _, rfl, .ty _, hk.1, kn_str hk.2, _, rfl, ?_⟩
  by_cases hs : Ty = "str"
  · subst hs
    obtain ⟨z, rfl⟩ := hk.str
    have hz := hz z rfl
    have ln : z.length ≤ sizeLine := Nat.le_trans hz (by decide)
    have hn : (cds z).length = z.cps.size := Array.length_toList
    refine iffF (by decide) ?_
    refine t_seq ⟨.str z, rfl, .str z, _, rfl, ⟨ln, rfl⟩, _, _, rfl, rfl, _, rfl, ?_⟩
    by_cases h2 : z.cps.size ≤ 200
    · refine iffF (decide_eq_false (by show ¬ (200 : Int) < ((z.cps.size : Nat) : Int); omega)) ?_
      dsimp only [tNext]
      refine if_notB ?_
      refine qs_var rfl hT (fun i H' => Ext H H' ∧ ((cds z).take i).all (fun c => decide (c ∈ cds L)) = true) (fun H' e => ⟨e, rfl⟩) ?_ ?_
      · rintro i c H' hc ⟨e, hall⟩
        have hc' : (cds z)[i]? = some c := by rw [← hc]; exact Array.getElem?_toList
        refine ⟨_, rfl, _, rfl, c, L, rfl, rfl, _, rfl, ?_⟩
        by_cases hm : c ∈ cds L
        · rw [if_neg (by rw [decide_eq_true hm]; decide)]
          exact ⟨e, by rw [get_all hc', hall, decide_eq_true hm]; rfl⟩
        · rw [if_pos (decide_eq_false hm)]
          refine ⟨_, rfl, iffT rfl (qb ?_ _ e)⟩
          rw [goodT, all_false hc' (decide_eq_false hm)]; simp
      · rintro H' ⟨e, hall⟩
        rw [← hn, List.take_length] at hall
        refine ⟨_, rfl, iffF rfl (qg ?_ _ e)⟩
        rw [goodT, hall, decide_eq_true h2]; rfl
    · refine iffT (decide_eq_true (by show (200 : Int) < ((z.cps.size : Nat) : Int); omega)) ?_
      exact qb (by simp [goodT, h2]) _ (Ext.refl _)
  · exact iffT (by rw [Bool.not_eq_true', decide_eq_false_iff_not]; exact hs) (qb (goodT_not (hk.notStr hs)) _ (Ext.refl _))
end
end Bo
set_option Elab.async false
set_option linter.all false
set_option maxRecDepth 100000
set_option maxHeartbeats 8000000
namespace Bo
open PySem PySem.Spec PyProof.Rows L2 GE
def Tk (K : PySem.W.Frag) (H H' : Hp) : Prop := ∀ a xs, SqT K H a xs → SqT K H' a xs
theorem Tk.refl {K : PySem.W.Frag} (H : Hp) : Tk K H H := fun _ _ h => h
theorem Tk.trans {K : PySem.W.Frag} {H H1 H2 : Hp} (a : Tk K H H1) (b : Tk K H1 H2) : Tk K H H2 := fun x xs h => b x xs (a x xs h)
theorem Ext.sqT {K : PySem.W.Frag} {H H' : Hp} (e : Ext H H') : Tk K H H' := fun a xs h => by
  rcases h with (h | ⟨o, h⟩) | h
  · exact .inl (.inl (e.keep _ _ h (fun ps z => by cases z)))
  · exact .inl (.inr ⟨o, e.keep _ _ h (fun ps z => by cases z)⟩)
  · exact .inr h
theorem tyx_ext {K : PySem.W.Frag} {H H' : Hp} {v : V} {t : Value} (e : Ext H H') (h : TyX K H v t) : TyX K H' v t := by
  cases h with
  | base b =>
    cases b with
    | non => exact .base .non
    | bl x => exact .base (.bl x)
    | int i => exact .base (.int i)
    | str x => exact .base (.str x)
    | flt x => exact .base (.flt x)
    | lst k => exact .base (.lst (e.keep _ _ k (fun ps z => by cases z)))
    | frz k => exact .base (.frz (e.keep _ _ k (fun ps z => by cases z)))
    | tup k => exact .base (.tup (e.keep _ _ k (fun ps z => by cases z)))
    | dK k => exact .base (.dK (e.keep _ _ k (fun ps z => by cases z)))
    | dT k => exact .base (.dT (e.keep _ _ k (fun ps z => by cases z)))
    | ins k a b c d f => exact .base (.ins (e.keep _ _ k (fun ps z => by cases z)) a b c d f)
  | byt b => exact .byt b
  | set k => exact .set (e.keep _ _ k (fun ps z => by cases z))
  | kList k c => exact .kList k c
  | kTuple k c => exact .kTuple k c
  | kDict k c => exact .kDict k c
  | fTuple k => exact .fTuple (e.keep _ _ k (fun ps z => by cases z))
  | fDict k => exact .fDict (e.keep _ _ k (fun ps z => by cases z))
theorem kn_ext {K : PySem.W.Frag} {H H' : Hp} {v : V} {T : String} (e : Ext H H') (h : Kn K H v T) : Kn K H' v T := ⟨tyx_ext e h.1, h.2⟩
theorem kn_tupA {K : PySem.W.Frag} {H : Hp} {a : Addr} {xs : List V} (h : H a = some (.tup xs)) : Kn K H (.ref a) "tuple" := ⟨.base (.tup h), by decide⟩
theorem kn_lstA {K : PySem.W.Frag} {H : Hp} {a : Addr} {xs : List V} (h : H a = some (.lst xs)) : Kn K H (.ref a) "list" := ⟨.base (.lst h), by decide⟩
theorem kn_dicA {K : PySem.W.Frag} {H : Hp} {a : Addr} {xs : List (Key × V)} (h : H a = some (.dK xs)) : Kn K H (.ref a) "dict" := ⟨.base (.dK h), by decide⟩
def LV (K : PySem.W.Frag) (H : Hp) (lv : V) : Prop := (∃ Ty, Kn K H lv Ty) ∧ ∀ z, lv = .str z → z.cps.size ≤ 100
theorem lv_ext {K : PySem.W.Frag} {H H' : Hp} {lv : V} (e : Ext H H') (h : LV K H lv) : LV K H' lv := ⟨let ⟨Ty, k⟩ := h.1; ⟨Ty, kn_ext e k⟩, h.2⟩
def sgn (c : Nat) : Str := ⟨#[c]⟩
def txt (l : List Nat) : Str := ⟨l.toArray⟩
theorem cds_txt (l : List Nat) : cds (txt l) = l := rfl
theorem txt_cds (z : Str) : txt (cds z) = z := by cases z; rfl
theorem txt_inj {a b : List Nat} (h : txt a = txt b) : a = b := congrArg cds h
theorem cutS_nat {z : Str} {i j : Nat} (hi : i ≤ (cds z).length) : cutS z (Option.some (i : Int)) (Option.some (j : Int)) = txt (((cds z).drop i).take (j - i)) := by
  have hl : z.cps.toList.length = z.length := Array.length_toList
  have hi : i ≤ z.cps.toList.length := hi
  unfold cutS
  rw [HT.sIx_nat, HT.sIx_nat, show min i z.length = i by omega]
  refine congrArg txt ?_
  by_cases h : j ≤ z.length
  · rw [Nat.min_eq_left h]
  · rw [Nat.min_eq_right (by omega)]
    rw [List.take_of_length_le (by rw [List.length_drop]; omega), List.take_of_length_le (by show (List.drop i z.cps.toList).length ≤ _; rw [List.length_drop]; omega)]
theorem txt_app (a b : List Nat) : txt a ++ txt b = txt (a ++ b) := by
  show Str.mk (a.toArray ++ b.toArray) = Str.mk (a ++ b).toArray
  rw [List.append_toArray]
theorem joinL_eq (m : List Nat) : ∀ (a : List Nat) (r : List (List Nat)), TL.joinL m (a :: r) = a ++ r.flatMap (fun x => m ++ x)
  | a, [] => by simp [TL.joinL]
  | a, b :: r => by
    show a ++ (m ++ TL.joinL m (b :: r)) = _
    rw [joinL_eq m b r, List.flatMap_cons]
    simp
theorem join_txts (m : List Nat) (a : List Nat) (r : List (List Nat)) : Txt.join (txt m) ((a :: r).map txt) = txt (a ++ r.flatMap (fun x => m ++ x)) := by
  show Builtin.Str.glued _ _ = _
  rw [StrLaws.glued_eq_join]
  have e : TL.tl (Str.join (txt m) ((a :: r).map txt)) = a ++ r.flatMap (fun x => m ++ x) := by
    rw [TL.tl_join, List.map_map]
    show TL.joinL m ((a :: r).map (TL.tl ∘ txt)) = _
    rw [show (TL.tl ∘ txt) = id from rfl, List.map_id]
    exact joinL_eq m a r
  rw [← txt_cds (Str.join _ _)]
  exact congrArg txt e
def rEqS (K : PySem.W.Frag) : R2 := fun x y H Q => ∃ d : PyData, d.canLay0 = true ∧ d.depth ≤ 600 ∧ Dp K H x d ∧ Dp K H y d ∧ Q (.bl true) H
def rNeS (K : PySem.W.Frag) : R2 := fun x y H Q => ∃ d : PyData, d.canLay0 = true ∧ d.depth ≤ 600 ∧ Dp K H x d ∧ Dp K H y d ∧ Q (.bl false) H
theorem op_eqS {X : Cx} (hu : X.A.units + 700 < cLine) : OpR X (compareOp .Eq) (rEqS X.K) := by
  intro pins s σ H x y v u Q I rx ry h
  obtain ⟨d, lay, dd, hx, hy, q⟩ := h
  obtain ⟨as, r1⟩ := Dp.reads I d x v hx rx
  obtain ⟨bs, r2⟩ := Dp.reads I d y u hy ry
  refine SeqAt.compareEq_reads r1 r2 lay lay (by rw [Nat.min_self]; omega) ?_
  rw [SeqAt.eqv_refl d lay]
  exact ⟨.bl true, H, I, rfl, q⟩
theorem op_neS {X : Cx} (hu : X.A.units + 700 < cLine) : OpR X (compareOp .NotEq) (rNeS X.K) := by
  intro pins s σ H x y v u Q I rx ry h
  obtain ⟨d, lay, dd, hx, hy, q⟩ := h
  obtain ⟨as, r1⟩ := Dp.reads I d x v hx rx
  obtain ⟨bs, r2⟩ := Dp.reads I d y u hy ry
  refine SeqAt.compareNe_reads r1 r2 lay lay (by rw [Nat.min_self]; omega) ?_
  rw [SeqAt.eqv_refl d lay]
  exact ⟨.bl false, H, I, rfl, q⟩
theorem join_txt (l : List Nat) : Txt.join (Str.ofString "") (l.map sgn) = txt l := by
  cases l with
  | nil => rfl
  | cons a r =>
    have h := join_txts [] [a] (r.map fun c => [c])
    have e : (a :: r).map sgn = ([a] :: r.map fun c => [c]).map txt := by rw [List.map_cons, List.map_cons, List.map_map]; rfl
    rw [e]
    refine h.trans (congrArg txt ?_)
    show [a] ++ (r.map fun c => [c]).flatMap (fun x => [] ++ x) = a :: r
    rw [List.flatMap_map]
    show a :: r.flatMap (fun c => [c]) = a :: r
    rw [List.flatMap_singleton']
def mkL (r s n : Nat) : Str := txt ((List.range n).map fun k => 97 + (r + k * s) % 26)
theorem mkL_good : ∀ r, r < 26 → ∀ s, s < 12 → ∀ n, n < 4 → goodS (mkL r (s + 1) (n + 1)) = true := by decide +kernel
def lets (z : Int) : Str := mkL ((z / 4) % 26).toNat (1 + (z / 104) % 12).toNat (1 + z % 4).toNat
theorem lets_good (z : Int) : goodS (lets z) = true := by
  have h1 : ((z / 4) % 26).toNat < 26 := by omega
  have h2 : (1 + (z / 104) % 12).toNat = ((z / 104) % 12).toNat + 1 := by omega
  have h3 : (1 + z % 4).toNat = (z % 4).toNat + 1 := by omega
  rw [lets, h2, h3]
  exact mkL_good _ h1 _ (by omega) _ (by omega)
def spCA (K : PySem.W.Frag) : Sp := fun vs H Q _ => ∃ (a : Addr) (ns : List Int) (k : Nat), vs = [.ref a, nV k] ∧ SqL K H a (ns.map V.int) ∧ Q (.int (ns.getD k 0)) H
def spLt : Sp := fun vs H Q _ => ∃ z : Int, vs = [.int z] ∧ ∀ H', Ext H H' → Q (.str (lets z)) H'
def alphabet : Str := "abcdefghijklmnopqrstuvwxyz"
theorem alpha_get : ∀ i, i < 26 → (cds alphabet)[i]? = some (97 + i) := by decide +kernel
theorem okX {P : Program} {w : World} {K : PySem.W.Frag} {mg : Str → Option Value} {base : Heap} {CX : CXT} {x qual : Str} {params : Arguments} {body : List Stmt} {scope : Scope} {dvs : List V} {kws : List (Str × V)} {f : Addr} {fd : FuncData} {N ps : List Str} {k : Nat} {sp : Sp} (F : FunD K x qual params body scope dvs kws f fd) (S : FnScope N ps scope) (len : ∀ vs H Q E, sp vs H Q E → vs.length = ps.length)
    (hbody : ∀ (cdv : Value) (A : Around) (outer : List Env) (s : Shared) (H : Hp) (vs : List V) (Q : VK) (E : XK), Room k (A.deeper (envOfC qual scope s.heap.objs.size f cdv)) → sp vs H Q E →
      ∃ t, PSs (cxOf CX P w K mg base N qual scope f cdv A outer s H E) body t ∧ t { nx := fun _ H' => Q .non H', rt := Q } (start N vs) H) : FnOk P w K mg base CX (k + 1) f fd ps sp := by
  obtain ⟨oc, od, dV, kV, doc, pm, an, cdv, ct, osl, e, lk, hcd, _, _⟩ := F.ex
  subst e
  exact fn_of lk hcd S len fun A outer s H vs Q E hr hsp => hbody _ A outer s H vs Q E hr hsp
section
variable {K : PySem.W.Frag} {σ : L2.St} {H : Hp} {a : Addr} {xs : List V} {v : V} {Q : VK} {D : Ends} {t u : TS}
theorem r_ixQ {i : Nat} (j : Nat) (h0 : σ[i]? = some (some (.ref a))) (ha : SqT K H a xs) (hx : xs[j]? = some v) (q : Q v H) : tOp (rIxT K) (tVar i) (tC (.int (j : Int))) σ H Q :=
  ⟨_, h0, a, xs, _, v, rfl, rfl, ha, atI_nat hx, q⟩
end
theorem str_ne {a b : Str} (h : a ≠ b) : decide (V.str a = V.str b) = false := decide_eq_false fun e => h (V.str.inj e)
theorem seq_to {t u : TS} {D : Ends} {σ : L2.St} {H : Hp} (Pr : L2.St → Hp → Prop) (h : ∀ nx : L2.St → Hp → Prop, (∀ σ' H', Pr σ' H' → nx σ' H') → t { D with nx := nx } σ H) (hr : ∀ σ' H', Pr σ' H' → u D σ' H') : tSeq t u D σ H := h _ hr
theorem seq_fall {c : TT} {t rest : TS} {D : Ends} {σ : L2.St} {H : Hp} {cond : Prop} (hc : ∀ Q : Bool → Hp → Prop, (cond → ∀ H1, Ext H H1 → Q true H1) → (¬ cond → ∀ H1, Ext H H1 → Q false H1) → c σ H Q)
    (ht : cond → ∀ H1, Ext H H1 → t { D with nx := rest D } σ H1) (hr : ¬ cond → ∀ H1, Ext H H1 → rest D σ H1) : tSeq (tIfS c t tNext) rest D σ H :=
  hc _ (fun k H1 e => iffT rfl (ht k H1 e)) (fun k H1 e => iffF rfl (hr k H1 e))
theorem sl1 {z : List Nat} {i : Nat} (hi : i ≤ z.length) : cutS (txt z) (some (i : Int)) (some ((i : Int) + 1)) = txt ((z.drop i).take 1) := by
  have h := cutS_nat (z := txt z) (i := i) (j := i + 1) hi
  rw [Int.natCast_add] at h
  rw [show ((1 : Nat) : Int) = 1 from rfl] at h
  rw [h, show i + 1 - i = 1 by omega]
  rfl
theorem sl2 {z : List Nat} {i : Nat} (hi : i ≤ z.length) : cutS (txt z) (some (i : Int)) (some ((i : Int) + 2)) = txt ((z.drop i).take 2) := by
  have h := cutS_nat (z := txt z) (i := i) (j := i + 2) hi
  rw [Int.natCast_add] at h
  rw [show ((2 : Nat) : Int) = 2 from rfl] at h
  rw [h, show i + 2 - i = 2 by omega]
  rfl
theorem fold_signs (c : Nat) : ∀ (m : Nat) (acc : Array Nat), ((List.replicate m (sgn c).cps).foldl (· ++ ·) acc).toList = acc.toList ++ List.replicate m c
  | 0, acc => by simp
  | m + 1, acc => by
    rw [List.replicate_succ, List.foldl_cons, fold_signs c m, List.replicate_succ]
    simp [sgn]
theorem mul_sgn (c n : Nat) : Txt.mul (sgn c) (n : Int) = txt (List.replicate n c) := by
  unfold Txt.mul
  by_cases h : n = 0
  · subst h; rfl
  rw [if_neg (by omega)]
  by_cases h1 : n = 1
  · subst h1; rfl
  rw [if_neg (by
    rw [show (sgn c).length = 1 from rfl, Bool.or_eq_true, beq_iff_eq, beq_iff_eq]
    omega)]
  refine congrArg Str.mk ?_
  rw [← Array.toArray_toList (xs := (List.replicate (n : Int).toNat (sgn c).cps).foldl (· ++ ·) #[])]
  refine congrArg List.toArray ?_
  rw [Int.toNat_natCast]
  exact fold_signs c n #[]
def rRepS : R2 := fun x y H Q => ∃ c n : Nat, x = .str (sgn c) ∧ y = .int (n : Int) ∧ n ≤ 500 ∧ Q (.str (txt (List.replicate n c))) H
theorem op_repS {X : Cx} : OpR X (binaryOp .Mult) rRepS := by
  intro pins s σ H x y v u Q I rx ry h
  obtain ⟨c, n, rfl, rfl, hn, q⟩ := h
  obtain ⟨t, rfl⟩ := rx
  obtain ⟨t', rfl⟩ := ry
  refine SB.mul (mulOk_of 1 500 (Nat.le_refl _) (by omega) (by omega) (by decide) (by decide)) fun t2 k => ?_
  rw [mul_sgn]
  exact ⟨.str _, H, I.tok _, ⟨_, rfl⟩, q⟩
theorem slen (a b : Str) : (a ++ b).length = a.length + b.length := (Array.size_append : (a.cps ++ b.cps).size = _)
theorem txt_len (l : List Nat) : (txt l).length = l.length := List.size_toArray
theorem good_len {L : Str} (h : goodS L = true) : 1 ≤ L.cps.size ∧ L.cps.size ≤ 4 := by
  unfold goodS at h
  simp only [Bool.and_eq_true, decide_eq_true_eq] at h
  exact ⟨h.1.1.1, h.1.1.2⟩
theorem cut_last1 {vs : List V} {v : V} : cutV (vs ++ [v]) none (Option.some (-1)) = vs := by
  unfold cutV
  rw [HT.sIx_none, List.drop_zero]
  have e : HT.sIx (vs ++ [v]).length (vs ++ [v]).length (Option.some (-1)) = vs.length := by
    show (if (-1 : Int) < 0 then ((-1 : Int) + ((vs ++ [v]).length : Int)).toNat else min (-1 : Int).toNat (vs ++ [v]).length) = vs.length
    rw [if_pos (by decide), List.length_append, List.length_singleton]
    omega
  rw [e, Nat.sub_zero, List.take_left]
theorem atI_last2 {α : Type} (xs : List α) (u v : α) : atI (xs ++ [u, v]) (-2) = some u := by
  have hl : (xs ++ [u, v]).length = xs.length + 2 := by simp
  have e : ixN (xs ++ [u, v]).length (-2) = some xs.length := by
    unfold ixN
    rw [hl, if_neg (by decide), if_pos (by omega)]
    congr 1
    omega
  unfold atI
  rw [e]
  simp
theorem lc_signs {g : TG} {tt : TT} {te : TE} {vs : List Nat} {σ : L2.St} {H1 : Hp} {D : Addr} {Qd : Hp → Prop} {x : Str} (Pv : Nat → Hp → Prop) (h0 : Pv 0 (upd H1 D (.lst [])))
    (hs : ∀ i c H, x.cps[i]? = Option.some c → Pv i H → g (.str ⟨#[c]⟩) (wipe σ vs) H fun σ2 H2 => wipe σ2 vs = wipe σ vs ∧ tt σ2 H2 fun b H3 =>
      if b = true then te σ2 H3 fun y H4 => ∃ acc, H4 D = Option.some (.lst acc) ∧ acc.length < sizeLine ∧ Pv (i + 1) (upd H4 D (.lst (acc ++ [y]))) else Pv (i + 1) H3) (hd : ∀ H, Pv x.cps.size H → Qd H) :
    ∃ W : Nat → Nat → Hp → Prop, (∃ m, W 0 m (upd H1 D (.lst []))) ∧ ∀ i m H, W i m H →
      ((Its x).stop i H ∧ Qd H) ∨ ((Its x).go i H ∧ ∃ Nx : Hp → Prop, (∀ H', Nx H' → ∃ m', m' < m ∧ W (i + 1) m' H') ∧ ∀ v H', (Its x).yld i H v H' → g v (wipe σ vs) H' fun σ2 H2 => wipe σ2 vs = wipe σ vs ∧ tt σ2 H2 fun b H3 =>
        if b = true then te σ2 H3 fun y H4 => ∃ acc, H4 D = Option.some (.lst acc) ∧ acc.length < sizeLine ∧ Nx (upd H4 D (.lst (acc ++ [y]))) else Nx H3) := by
  refine ⟨fun i m H => m = x.cps.size - i ∧ i ≤ x.cps.size ∧ Pv i H, ⟨x.cps.size, by simp, Nat.zero_le _, h0⟩, ?_⟩
  rintro i m H ⟨rfl, hi, p⟩
  by_cases hlt : i < x.cps.size
  · refine .inr ⟨hlt, Pv (i + 1), fun H' p' => ⟨x.cps.size - (i + 1), by omega, rfl, hlt, p'⟩, fun v H' y => ?_⟩
    obtain ⟨e, c, hc, rfl⟩ := y
    subst e
    exact hs i c H' hc p
  · have e : i = x.cps.size := by omega
    subst e
    exact .inl ⟨Nat.le_refl _, hd H p⟩
theorem cds_len (z : Str) : (cds z).length = z.cps.size := Array.length_toList
def offs (L : Str) : List Nat := (cds alphabet).filter fun c => !decide (c ∈ cds L)
theorem offs_ne {L : Str} (h : goodS L = true) : 0 < (offs L).length := by
  rcases Nat.eq_zero_or_pos (offs L).length with h0 | h0
  · have h1 : offs L = [] := List.length_eq_zero_iff.mp h0
    have h2 : ∀ c ∈ cds alphabet, c ∈ cds L := fun c hc => by
      have := List.filter_eq_nil_iff.mp h1 c hc
      simpa using this
    have h3 := nat_nodup_len (cds alphabet) (cds L) (by decide +kernel) h2
    rw [cds_len, cds_len] at h3
    have := (good_len h).2
    have h4 : alphabet.cps.size = 26 := by decide +kernel
    omega
  · exact h0
mutual
theorem dp_ext {K : PySem.W.Frag} {H H' : Hp} (e : Ext H H') : ∀ (d : PyData) (v : V), Dp K H v d → Dp K H' v d
  | .none, _, h => by cases h; exact .non
  | .bool b, _, h => by cases h; exact .bl b
  | .int i, _, h => by cases h; exact .int i
  | .str x, _, h => by cases h; exact .str x
  | .list ds, _, h => by
    cases h with
    | lst hs ha => exact .lst (e.sqL hs) (dpAll_ext e ds _ ha)
  | .tuple ds, _, h => by
    cases h with
    | tup hs ha => exact .tup (e.sqT _ _ hs) (dpAll_ext e ds _ ha)
  | .dict _, _, h => by cases h
theorem dpAll_ext {K : PySem.W.Frag} {H H' : Hp} (e : Ext H H') : ∀ (ds : List PyData) (vs : List V), DpAll K H vs ds → DpAll K H' vs ds
  | [], _, h => by cases h; exact .nil
  | d :: ds, _, h => by
    cases h with
    | cons h1 h2 => exact .cons (dp_ext e d _ h1) (dpAll_ext e ds _ h2)
end
theorem r_asg {σ : L2.St} {H : Hp} {D : Ends} {i : Nat} {te : TE} (h : te σ H fun x H1 => D.nx (σ.set i (some x)) H1) : tAsg te (gName i) D σ H := h
theorem txt_sgn (a : List Nat) (c : Nat) : txt a ++ sgn c = txt (a ++ [c]) := txt_app a [c]
theorem sgn_txt (a : List Nat) (c : Nat) : sgn c ++ txt a = txt (c :: a) := txt_app [c] a
def dLetters : PyData := .list [.str "letters"]
def dText : PyData := .list [.str "text"]
def DOk (d : PyData) : Prop := d.canLay0 = true ∧ d.depth ≤ 600
theorem dok_text : DOk dText := ⟨by decide +kernel, by decide +kernel⟩
theorem dok_letters : DOk dLetters := ⟨by decide +kernel, by decide +kernel⟩
theorem dp_word {K : PySem.W.Frag} {H : Hp} {r : Addr} {x : Str} (h : H r = some (.lst [.str x])) : Dp K H (.ref r) (.list [.str x]) := .lst (SqL.of h) (.cons (.str _) .nil)
section
variable {P : Program} {w : World} {K : PySem.W.Frag} {mg : Str → Option Value} {base : Heap}
theorem scCA : FnScope ["_law_script", "_law_k"] ["_law_script", "_law_k"] (defScope sLawCellAt) := ⟨rfl, rfl, rfl, by decide +kernel, rfl, by decide +kernel, by decide +kernel⟩
theorem scLt : FnScope ["_law_cell", "_law_some", "_law_k"] ["_law_cell"] (defScope sLawLetters) := ⟨rfl, rfl, rfl, by decide +kernel, rfl, by decide +kernel, by decide +kernel⟩
theorem ca_ok {f : Addr} {fd : FuncData} (F : FnP K "_law_cell_at" sLawCellAt f fd) (ml : mg "len" = none) : FnOk P w K mg base CX0 1 f fd ["_law_script", "_law_k"] (spCA K) := by
  refine okD F scCA (fun vs H Q E h => ?_) (fun cdv A outer s H vs Q E hr h => ?_)
  · obtain ⟨a, ns, k, rfl, _⟩ := h
    rfl
  obtain ⟨a, ns, k, rfl, hS, q⟩ := h
  refine ⟨_, pss_cons (ps_if (pt_cmpR op_lt (pv 1) (pe_callB call_len rfl ml PySem.boot_len (pa_cons (pv 0) pa_nil)) (nomark _)) (pss_one (ps_ret (pe_ix ix_list (pv 0) (pv 1) (fun _ _ => rfl)))) pss_nil)
    (pss_one (ps_ret pe_int)), ?_⟩
  refine t_seq ⟨_, rfl, _, rfl, .ref a, _, rfl, .inl ⟨_, hS, rfl⟩, _, _, rfl, rfl, _, rfl, ?_⟩
  rw [List.length_map]
  by_cases h : k < ns.length
  · refine iffT (decide_eq_true (by omega)) ⟨_, rfl, _, rfl, a, _, _, _, rfl, rfl, hS, atI_nat (v := .int (ns.getD k 0)) ?_, q⟩
    rw [List.getElem?_map, List.getElem?_eq_getElem h]
    simp [List.getD, List.getElem?_eq_getElem h]
  · refine iffF (decide_eq_false (by omega)) ?_
    have e : ns.getD k 0 = 0 := by rw [List.getD_eq_getElem?_getD, List.getElem?_eq_none (by omega)]; rfl
    rw [e] at q
    exact q
theorem lt_ok {f : Addr} {fd : FuncData} (F : FnP K "_law_letters" sLawLetters f fd) (mr : mg "range" = none) : FnOk P w K mg base CX0 1 f fd ["_law_cell"] spLt := by
  refine okD F scLt (fun vs H Q E h => ?_) (fun cdv A outer s H vs Q E hr h => ?_)
  · obtain ⟨z, rfl, _⟩ := h
    rfl
  obtain ⟨z, rfl, q⟩ := h
  refine ⟨_, pss_cons (ps_set (i := 1) scLt.nd rfl (Or.inr rfl) pe_str)
    (pss_one (ps_ret (pe_join pe_str (pe_lc (own := [("_law_k", 2)]) (g := gName 2) (tt := tYes) rfl scLt.nd (pi_range1 rfl mr (pa_cons (pe_op op_add pe_int (pe_op op_mod (pv 0) pe_int)) pa_nil))
      (blkOk_by (N := ["_law_cell", "_law_some", "_law_k"]) (sc := defScope sLawLetters) (by decide +kernel))
      (fun _ _ _ _ _ => pg_name (i := 2) scLt.nd rfl (Or.inl rfl) (Or.inr rfl)) (fun _ _ _ _ _ => pts_nil)
      (fun _ _ _ _ _ => pe_ix ix_str (pv 1) (pe_op op_mod (pe_op op_add (pe_op op_fdiv (pv 0) pe_int) (pe_op op_mul (pv 2) (pe_op op_add pe_int (pe_op op_mod (pe_op op_fdiv (pv 0) pe_int) pe_int)))) pe_int) (fun _ _ => rfl)))))), ?_⟩
  refine t_setC ⟨⟨_, rfl⟩, ?_⟩
  refine ⟨_, rfl, _, _, rfl, rfl, show (0 : Int) < 4 by decide, _, _, rfl, rfl, _, rfl, by omega, by omega, fun D hD => ?_⟩
  have hn : (1 + z % 4).toNat ≤ 4 := by omega
  refine lc_range (Built H D fun k => .str (sgn (97 + (((z / 4) % 26).toNat + k * (1 + (z / 104) % 12).toNat) % 26))) (Built.zero hD) ?_ ?_
  · intro k H' hk b
    refine ⟨rfl, ?_⟩
    refine ⟨_, rfl, _, rfl, _, _, rfl, rfl, show (0 : Int) < 4 ∧ (4 : Int) < 1073741824 by decide, _, rfl, _, rfl, _, _, rfl, rfl, show (0 : Int) < 104 ∧ (104 : Int) < 1073741824 by decide, _, _, rfl, rfl, show (0 : Int) < 12 by decide, _, _, rfl, rfl, _, _, rfl, rfl, ?_⟩
    have k4 : k < 4 := by omega
    have eS : 1 + z / 104 % 12 = (((1 + z / 104 % 12).toNat : Nat) : Int) := by omega
    have e : (z / 4 + (0 + (k : Int)) * (1 + z / 104 % 12)) % 26 = (((((z / 4) % 26).toNat + k * (1 + (z / 104) % 12).toNat) % 26 : Nat) : Int) := by
      rw [eS, Int.zero_add, ← Int.natCast_mul]
      rw [show (((1 + z / 104 % 12).toNat : Nat) : Int).toNat = (1 + z / 104 % 12).toNat from Int.toNat_natCast _]
      generalize k * (1 + z / 104 % 12).toNat = m'
      omega
    refine ⟨.inl ⟨by omega, by omega⟩, _, _, rfl, rfl, _, _, rfl, rfl, show (0 : Int) < 26 by decide, alphabet, _, 97 + (((z / 4) % 26).toNat + k * (1 + (z / 104) % 12).toNat) % 26, rfl, congrArg V.int e, by decide, atI_nat (alpha_get _ (by omega)), ?_⟩
    exact b.next hD (Ext.refl _) rfl (Nat.lt_trans k4 (by decide))
  · intro H' b
    refine ⟨_, _, (List.range (1 + z % 4).toNat).map (fun k => sgn (97 + (((z / 4) % 26).toNat + k * (1 + (z / 104) % 12).toNat) % 26)), rfl, rfl, .inl ?_, ?_, ?_⟩
    · rw [List.map_map]; exact SqL.of b.2
    · have : ((List.range (1 + z % 4).toNat).map (fun k => sgn (97 + (((z / 4) % 26).toNat + k * (1 + (z / 104) % 12).toNat) % 26))).map (·.length) = List.replicate (1 + z % 4).toNat 1 := by
        rw [List.map_map]
        exact List.eq_replicate_iff.mpr ⟨by simp, fun b hb => by obtain ⟨k, _, rfl⟩ := List.mem_map.mp hb; rfl⟩
      rw [this, List.sum_replicate_nat]
      rw [show (Str.ofString "").length = 0 by decide]
      simp
      omega
    · have e : (List.range (1 + z % 4).toNat).map (fun k => sgn (97 + (((z / 4) % 26).toNat + k * (1 + (z / 104) % 12).toNat) % 26)) = ((List.range (1 + z % 4).toNat).map (fun k => 97 + (((z / 4) % 26).toNat + k * (1 + (z / 104) % 12).toNat) % 26)).map sgn := by
        rw [List.map_map]; rfl
      rw [e, join_txt]
      exact q _ b.1
end
end Bo
set_option linter.all false
namespace Bo
/-! the mathematics of partings -/
/-- ahead in the order of the letters, of one length -/
def lx : List Nat → List Nat → Prop
  | a :: u, b :: v => a < b ∨ (a = b ∧ lx u v)
  | _, _ => False
theorem lx_irr : ∀ u, ¬ lx u u
  | [], h => h
  | a :: u, h => h.elim (fun h => Nat.lt_irrefl _ h) (fun h => lx_irr u h.2)
theorem lx_trans : ∀ {u v w : List Nat}, lx u v → lx v w → lx u w
  | a :: u, b :: v, c :: w, h, g => by
    rcases h with h | ⟨rfl, h⟩
    · rcases g with g | ⟨rfl, g⟩
      · exact .inl (Nat.lt_trans h g)
      · exact .inl h
    · rcases g with g | ⟨rfl, g⟩
      · exact .inl g
      · exact .inr ⟨rfl, lx_trans h g⟩
  | [], _, _, h, _ => h.elim
  | _ :: _, [], _, h, _ => h.elim
  | _ :: _, _ :: _, [], _, g => g.elim
theorem lx_app : ∀ {u v : List Nat} (r s : List Nat), lx u v → lx (u ++ r) (v ++ s)
  | a :: u, b :: v, r, s, h => h.elim .inl fun h => .inr ⟨h.1, lx_app r s h.2⟩
  | [], _, _, _, h => h.elim
  | _ :: _, [], _, _, h => h.elim
theorem lx_last : ∀ (u : List Nat) {a b : Nat}, a < b → lx (u ++ [a]) (u ++ [b])
  | [], a, b, h => .inl h
  | c :: u, a, b, h => .inr ⟨rfl, lx_last u h⟩
/-- shorter, or as long and ahead -/
def sl (u v : List Nat) : Prop := u.length < v.length ∨ (u.length = v.length ∧ lx u v)
theorem sl_irr (u : List Nat) : ¬ sl u u := fun h => h.elim (Nat.lt_irrefl _) (fun h => lx_irr u h.2)
theorem sl_trans {u v w : List Nat} (h : sl u v) (g : sl v w) : sl u w := by
  rcases h with h | ⟨h1, h2⟩
  · rcases g with g | ⟨g1, g2⟩
    · exact .inl (Nat.lt_trans h g)
    · exact .inl (g1 ▸ h)
  · rcases g with g | ⟨g1, g2⟩
    · exact .inl (h1 ▸ g)
    · exact .inr ⟨h1.trans g1, lx_trans h2 g2⟩
theorem sl_le {u v : List Nat} (h : sl u v) : u.length ≤ v.length := h.elim Nat.le_of_lt (fun h => Nat.le_of_eq h.1)
theorem sl_app {u v : List Nat} {a b : Nat} (h : sl u v) : sl (u ++ [a]) (v ++ [b]) := by
  rcases h with h | ⟨h1, h2⟩
  · exact .inl (by simp; exact h)
  · exact .inr ⟨by simp; exact h1, lx_app _ _ h2⟩
theorem sl_apps {u v : List Nat} (r : List Nat) (h : sl u v) : sl (u ++ r) (v ++ r) := by
  rcases h with h | ⟨h1, h2⟩
  · exact .inl (by simp; exact h)
  · exact .inr ⟨by simp; exact h1, lx_app _ _ h2⟩
theorem sl_last {u : List Nat} {a b : Nat} (h : a < b) : sl (u ++ [a]) (u ++ [b]) := .inr ⟨by simp, lx_last u h⟩
theorem lx_total : ∀ (u v : List Nat), u.length = v.length → lx u v ∨ u = v ∨ lx v u
  | [], [], _ => .inr (.inl rfl)
  | a :: u, b :: v, h => by
    rcases Nat.lt_trichotomy a b with k | rfl | k
    · exact .inl (.inl k)
    · rcases lx_total u v (Nat.succ.inj h) with q | rfl | q
      · exact .inl (.inr ⟨rfl, q⟩)
      · exact .inr (.inl rfl)
      · exact .inr (.inr (.inr ⟨rfl, q⟩))
    · exact .inr (.inr (.inl k))
  | [], _ :: _, h => by cases h
  | _ :: _, [], h => by cases h
/-- a machine: steps, ends, how many letters, how many rooms -/
structure Mac where
  st : Nat → Nat → Nat
  e : Nat → Bool
  l : Nat
  n : Nat
structure Mac.Ok (m : Mac) : Prop where
  st : ∀ r k, r < m.n → k < m.l → m.st r k < m.n
  n : 0 < m.n
  l : 0 < m.l
def Mac.run (m : Mac) (r : Nat) (w : List Nat) : Nat := w.foldl m.st r
theorem Mac.run_app (m : Mac) (r : Nat) (u v : List Nat) : m.run r (u ++ v) = m.run (m.run r u) v := by unfold Mac.run; rw [List.foldl_append]
theorem Mac.run_cons (m : Mac) (r k : Nat) (v : List Nat) : m.run r (k :: v) = m.run (m.st r k) v := rfl
theorem Mac.Ok.run {m : Mac} (o : m.Ok) : ∀ (w : List Nat) {r : Nat}, r < m.n → (∀ k ∈ w, k < m.l) → m.run r w < m.n
  | [], r, h, _ => h
  | k :: w, r, h, hw => o.run w (o.st r k h (hw k List.mem_cons_self)) (fun j hj => hw j (List.mem_cons_of_mem _ hj))
/-- the word leads from just one of a and b to an end -/
def Mac.Pt (m : Mac) (a b : Nat) (w : List Nat) : Prop := (∀ k ∈ w, k < m.l) ∧ m.e (m.run a w) ≠ m.e (m.run b w)
/-- the first of the shortest such words -/
def Mac.Least (m : Mac) (a b : Nat) (w : List Nat) : Prop := m.Pt a b w ∧ ∀ v, m.Pt a b v → ¬ sl v w
/-- how long the shortest are -/
def Mac.Dist (m : Mac) (a b d : Nat) : Prop := (∃ w, m.Pt a b w ∧ w.length = d) ∧ ∀ w, m.Pt a b w → d ≤ w.length
section
variable {m : Mac}
theorem Mac.Pt.symm {a b : Nat} {w : List Nat} (h : m.Pt a b w) : m.Pt b a w := ⟨h.1, fun e => h.2 e.symm⟩
theorem Mac.Least.symm {a b : Nat} {w : List Nat} (h : m.Least a b w) : m.Least b a w := ⟨h.1.symm, fun v hv => h.2 v hv.symm⟩
theorem Mac.Dist.symm {a b d : Nat} (h : m.Dist a b d) : m.Dist b a d := ⟨let ⟨w, p, q⟩ := h.1; ⟨w, p.symm, q⟩, fun w hw => h.2 w hw.symm⟩
theorem Mac.Dist.inj {a b d d' : Nat} (h : m.Dist a b d) (g : m.Dist a b d') : d = d' := by
  obtain ⟨w, p, q⟩ := h.1
  obtain ⟨w', p', q'⟩ := g.1
  have h1 := h.2 w' p'
  have h2 := g.2 w p
  omega
theorem pt_nil {a b : Nat} : m.Pt a b [] ↔ m.e a ≠ m.e b := ⟨fun h => h.2, fun h => ⟨fun k hk => (by cases hk), h⟩⟩
theorem pt_cons {a b k : Nat} {w : List Nat} : m.Pt a b (k :: w) ↔ k < m.l ∧ m.Pt (m.st a k) (m.st b k) w :=
  ⟨fun h => ⟨h.1 k List.mem_cons_self, fun j hj => h.1 j (List.mem_cons_of_mem _ hj), h.2⟩, fun h => ⟨fun j hj => (List.mem_cons.mp hj).elim (fun e => e ▸ h.1) (h.2.1 j), h.2.2⟩⟩
theorem pt_app {a b : Nat} {u w : List Nat} (h : ∀ k ∈ u, k < m.l) : m.Pt a b (u ++ w) ↔ m.Pt (m.run a u) (m.run b u) w := by
  unfold Mac.Pt
  rw [m.run_app, m.run_app]
  exact ⟨fun p => ⟨fun k hk => p.1 k (List.mem_append_right _ hk), p.2⟩, fun p => ⟨fun k hk => (List.mem_append.mp hk).elim (h k) (p.1 k), p.2⟩⟩
theorem dist0 {a b : Nat} : m.Dist a b 0 ↔ m.e a ≠ m.e b := by
  constructor
  · rintro ⟨⟨w, p, q⟩, _⟩
    cases w with
    | nil => exact pt_nil.mp p
    | cons k w => cases q
  · exact fun h => ⟨⟨[], pt_nil.mpr h, rfl⟩, fun w _ => Nat.zero_le _⟩
/-- a shortest word's first sign leads on -/
theorem dist_next {a b d : Nat} (h : m.Dist a b (d + 1)) : ∃ k, k < m.l ∧ m.Dist (m.st a k) (m.st b k) d := by
  obtain ⟨⟨w, p, q⟩, hmin⟩ := h
  cases w with
  | nil => cases q
  | cons k w =>
    obtain ⟨hk, p⟩ := pt_cons.mp p
    refine ⟨k, hk, ⟨w, p, Nat.succ.inj q⟩, fun v hv => ?_⟩
    have := hmin (k :: v) (pt_cons.mpr ⟨hk, hv⟩)
    simp at this
    exact this
theorem dist_le {a b d k : Nat} (h : m.Dist (m.st a k) (m.st b k) d) (hk : k < m.l) : ∃ d', d' ≤ d + 1 ∧ m.Dist a b d' := by
  obtain ⟨⟨w, p, q⟩, _⟩ := h
  have hp : m.Pt a b (k :: w) := pt_cons.mpr ⟨hk, p⟩
  have : ∃ d', m.Dist a b d' := by
    have : ∀ n, ∀ w, m.Pt a b w → w.length ≤ n → ∃ d', m.Dist a b d' := by
      intro n
      induction n with
      | zero => exact fun w hw hl => ⟨0, ⟨w, hw, by omega⟩, fun v _ => Nat.zero_le _⟩
      | succ n ih =>
        intro w hw hl
        by_cases h : ∃ v, m.Pt a b v ∧ v.length ≤ n
        · obtain ⟨v, hv, hl⟩ := h; exact ih v hv hl
        · refine ⟨w.length, ⟨w, hw, rfl⟩, fun v hv => ?_⟩
          by_cases hlt : w.length ≤ v.length
          · exact hlt
          · exact absurd ⟨v, hv, by omega⟩ h
    exact this _ _ hp (Nat.le_refl _)
  obtain ⟨d', hd⟩ := this
  exact ⟨d', by have := hd.2 _ hp; simp at this; omega, hd⟩
theorem pt_dist {a b : Nat} {w : List Nat} (h : m.Pt a b w) : ∃ d, d ≤ w.length ∧ m.Dist a b d := by
  cases w with
  | nil => exact ⟨0, Nat.le_refl _, dist0.mpr (pt_nil.mp h)⟩
  | cons k w =>
    obtain ⟨hk, p⟩ := pt_cons.mp h
    obtain ⟨d, h1, h2⟩ := pt_dist p
    obtain ⟨d', h3, h4⟩ := dist_le h2 hk
    exact ⟨d', by simp; omega, h4⟩
termination_by w.length
theorem dist_step {a b t k : Nat} (no : ∀ d, m.Dist a b d → t < d) (hk : k < m.l) (h : m.Dist (m.st a k) (m.st b k) t) : m.Dist a b (t + 1) := by
  obtain ⟨d', h1, h2⟩ := dist_le h hk
  have := no d' h2
  have e : d' = t + 1 := by omega
  exact e ▸ h2
/-- from farther off one comes by every lesser distance -/
theorem dist_between {a b d t : Nat} (o : m.Ok) (ha : a < m.n) (hb : b < m.n) (h : m.Dist a b d) (ht : t ≤ d) : ∃ a' b', a' < m.n ∧ b' < m.n ∧ m.Dist a' b' t := by
  induction d generalizing a b with
  | zero => exact ⟨a, b, ha, hb, (by rw [show t = 0 by omega]; exact h)⟩
  | succ d ih =>
    by_cases e : t = d + 1
    · exact ⟨a, b, ha, hb, e ▸ h⟩
    · obtain ⟨k, hk, hd⟩ := dist_next h
      exact ih (o.st a k ha hk) (o.st b k hb hk) hd (by omega)
theorem least_nil {a b : Nat} (h : m.e a ≠ m.e b) : m.Least a b [] := ⟨pt_nil.mpr h, fun v _ s => by
  rcases s with s | ⟨s, t⟩
  · cases s
  · cases v with
    | nil => exact t
    | cons => cases s⟩
theorem Mac.Least.len {a b d : Nat} {w : List Nat} (h : m.Least a b w) (hd : m.Dist a b d) : w.length = d := by
  have h1 := hd.2 w h.1
  obtain ⟨v, p, q⟩ := hd.1
  have h2 := h.2 v p
  by_cases e : w.length = d
  · exact e
  · exact absurd (.inl (by omega)) h2
theorem least_cons {a b d k : Nat} {w : List Nat} (h : m.Dist a b (d + 1)) (hk : k < m.l) (hd : m.Dist (m.st a k) (m.st b k) d) (hmin : ∀ j, j < k → ¬ m.Dist (m.st a j) (m.st b j) d) (hw : m.Least (m.st a k) (m.st b k) w) : m.Least a b (k :: w) := by
  have hl := hw.len hd
  refine ⟨pt_cons.mpr ⟨hk, hw.1⟩, fun v hv s => ?_⟩
  have h1 := h.2 v hv
  have h2 := sl_le s
  rw [List.length_cons] at h2
  cases v with
  | nil => simp at h1
  | cons j v =>
    rw [List.length_cons] at h1 h2
    obtain ⟨hj, pv⟩ := pt_cons.mp hv
    have hvl : v.length = d := by omega
    rcases s with s | ⟨_, s | ⟨rfl, s⟩⟩
    · simp at s; omega
    · refine hmin j s ⟨⟨v, pv, hvl⟩, fun u hu => ?_⟩
      have := h.2 (j :: u) (pt_cons.mpr ⟨hj, hu⟩)
      rw [List.length_cons] at this; omega
    · exact hw.2 v pv (.inr ⟨by omega, s⟩)
end
theorem Mac.Least.unique {m : Mac} {a b : Nat} {v w : List Nat} (hv : m.Least a b v) (hw : m.Least a b w) : v = w := by
  have h1 := hw.2 v hv.1
  have h2 := hv.2 w hw.1
  have hl : v.length = w.length := by
    rcases Nat.lt_trichotomy v.length w.length with k | k | k
    · exact absurd (.inl k) h1
    · exact k
    · exact absurd (.inl k) h2
  rcases lx_total v w hl with k | k | k
  · exact absurd (.inr ⟨hl, k⟩) h1
  · exact k
  · exact absurd (.inr ⟨hl.symm, k⟩) h2
/-! what is joined -/
def Conn (S : List (Nat × Nat)) (a b : Nat) : Prop := ∀ R : Nat → Nat → Prop, Equivalence R → (∀ p ∈ S, R p.1 p.2) → R a b
theorem Conn.equiv (S : List (Nat × Nat)) : Equivalence (Conn S) :=
  ⟨fun a R h _ => h.refl a, fun h R e s => e.symm (h R e s), fun h g R e s => e.trans (h R e s) (g R e s)⟩
theorem Conn.mem {S : List (Nat × Nat)} {a b : Nat} (h : (a, b) ∈ S) : Conn S a b := fun R _ s => s (a, b) h
theorem Conn.mono {S T : List (Nat × Nat)} {a b : Nat} (h : Conn S a b) (g : ∀ p ∈ S, p ∈ T) : Conn T a b := fun R e s => h R e fun p hp => s p (g p hp)
theorem Conn.cut {m : Mac} {S : List (Nat × Nat)} {a b : Nat} {w : List Nat} (h : Conn S a b) (p : m.Pt a b w) : ∃ q ∈ S, m.Pt q.1 q.2 w := by
  refine Classical.byContradiction fun no => ?_
  refine p.2 (h (fun x y => m.e (m.run x w) = m.e (m.run y w)) ⟨fun _ => rfl, fun h => h.symm, fun h g => h.trans g⟩ fun q hq => ?_)
  refine Classical.byContradiction fun n => no ⟨q, hq, p.1, n⟩
/-- the going from pair to pair: qs the pairs with their words; those at places ahead of c are gone through, at c the letters ahead of k -/
structure Bfs (m : Mac) (a b : Nat) (qs : List ((Nat × Nat) × List Nat)) (c k : Nat) : Prop where
  z : qs[0]? = some ((a, b), [])
  run : ∀ q ∈ qs, (∀ j ∈ q.2, j < m.l) ∧ q.1 = (m.run a q.2, m.run b q.2)
  ord : qs.Pairwise fun p q => sl p.2 q.2
  from_ : ∀ q ∈ qs, q.2 ≠ [] → ∃ (i : Nat) (p : (Nat × Nat) × List Nat) (j : Nat), qs[i]? = some p ∧ q.2 = p.2 ++ [j] ∧ (i < c ∨ (i = c ∧ j < k))
  gone : ∀ i p j, qs[i]? = some p → j < m.l → (i < c ∨ (i = c ∧ j < k)) → (∃ q ∈ qs, q.2 = p.2 ++ [j]) ∨
    ∃ S : List (Nat × Nat), (∀ x ∈ S, ∃ q ∈ qs, q.1 = x ∧ sl q.2 (p.2 ++ [j])) ∧ Conn S (m.st p.1.1 j) (m.st p.1.2 j)
  same : ∀ i p, qs[i]? = some p → (i < c ∨ (i = c ∧ 0 < k)) → m.e p.1.1 = m.e p.1.2
section
variable {m : Mac} {a b c : Nat} {qs : List ((Nat × Nat) × List Nat)}
theorem Bfs.start (m : Mac) (a b : Nat) : Bfs m a b [((a, b), [])] 0 0 where
  z := rfl
  run := fun q hq => by rw [List.mem_singleton.mp hq]; exact ⟨fun j hj => (by cases hj), rfl⟩
  ord := List.pairwise_singleton _ _
  from_ := fun q hq n => by rw [List.mem_singleton.mp hq] at n; exact absurd rfl n
  gone := fun i p j _ _ h => by omega
  same := fun i p _ h => by omega
/-- all letters at c are gone through -/
theorem Bfs.next (h : Bfs m a b qs c m.l) (hl : 0 < m.l) : Bfs m a b qs (c + 1) 0 where
  z := h.z
  run := h.run
  ord := h.ord
  from_ := fun q hq n => by
    obtain ⟨i, p, j, h1, h2, h3⟩ := h.from_ q hq n
    exact ⟨i, p, j, h1, h2, .inl (by omega)⟩
  gone := fun i p j hi hj ho => h.gone i p j hi hj (by omega)
  same := fun i p hi ho => h.same i p hi (by omega)
theorem Bfs.begin (h : Bfs m a b qs c 0) {p : (Nat × Nat) × List Nat} (hp : qs[c]? = some p) (e : m.e p.1.1 = m.e p.1.2) {Q : Prop} (q : (∀ i p, qs[i]? = some p → i ≤ c → m.e p.1.1 = m.e p.1.2) → Q) : Q :=
  q fun i p' hi hc => by
    by_cases h9 : i = c
    · subst h9; cases hp.symm.trans hi; exact e
    · exact h.same i p' hi (.inl (by omega))
theorem getElem?_mem {α : Type} {l : List α} {i : Nat} {x : α} (h : l[i]? = some x) : x ∈ l := List.mem_of_getElem? h
/-- a letter that leads to what is joined already -/
theorem Bfs.skip {k : Nat} (h : Bfs m a b qs c k) {p : (Nat × Nat) × List Nat} (hp : qs[c]? = some p) (hk : k < m.l) (e : ∀ i p, qs[i]? = some p → i ≤ c → m.e p.1.1 = m.e p.1.2)
    (hc : Conn (qs.map Prod.fst) (m.st p.1.1 k) (m.st p.1.2 k)) : Bfs m a b qs c (k + 1) where
  z := h.z
  run := h.run
  ord := h.ord
  from_ := fun q hq n => by
    obtain ⟨i, p', j, h1, h2, h3⟩ := h.from_ q hq n
    exact ⟨i, p', j, h1, h2, by omega⟩
  gone := fun i p' j hi hj ho => by
    by_cases h9 : i = c ∧ j = k
    · obtain ⟨rfl, rfl⟩ := h9
      cases hp.symm.trans hi
      refine .inr ⟨qs.map Prod.fst, fun x hx => ?_, hc⟩
      obtain ⟨q, hq, rfl⟩ := List.mem_map.mp hx
      refine ⟨q, hq, rfl, ?_⟩
      by_cases n : q.2 = []
      · rw [n]; exact .inl (by simp)
      · obtain ⟨i', p'', j', h1, h2, h3⟩ := h.from_ q hq n
        rw [h2]
        rcases h3 with h3 | ⟨rfl, h3⟩
        · refine sl_app ?_
          have hilt := (List.getElem?_eq_some_iff.mp h1)
          have hclt := (List.getElem?_eq_some_iff.mp hp)
          have := List.pairwise_iff_getElem.mp h.ord i' i hilt.1 hclt.1 h3
          rw [hilt.2, hclt.2] at this
          exact this
        · cases hp.symm.trans h1
          exact sl_last h3
    · exact h.gone i p' j hi hj (by omega)
  same := fun i p' hi ho => e i p' hi (by omega)
/-- a letter that leads to a new pair -/
theorem Bfs.push {k : Nat} (h : Bfs m a b qs c k) {p : (Nat × Nat) × List Nat} (hp : qs[c]? = some p) (hk : k < m.l) (e : ∀ i p, qs[i]? = some p → i ≤ c → m.e p.1.1 = m.e p.1.2) :
    Bfs m a b (qs ++ [((m.st p.1.1 k, m.st p.1.2 k), p.2 ++ [k])]) c (k + 1) := by
  have hclt := (List.getElem?_eq_some_iff.mp hp)
  have hpm := getElem?_mem hp
  have hcl := hclt.1
  have old : ∀ {i : Nat} {q : (Nat × Nat) × List Nat}, qs[i]? = some q → (qs ++ [((m.st p.1.1 k, m.st p.1.2 k), p.2 ++ [k])])[i]? = some q := fun {i q} hq => by
    rw [List.getElem?_append_left (List.getElem?_eq_some_iff.mp hq).1]; exact hq
  have back : ∀ {i : Nat} {q : (Nat × Nat) × List Nat}, (qs ++ [((m.st p.1.1 k, m.st p.1.2 k), p.2 ++ [k])])[i]? = some q → i ≤ c → qs[i]? = some q := fun {i q} hq hi => by
    rw [List.getElem?_append_left (by omega)] at hq; exact hq
  refine ⟨?_, fun q hq => ?_, ?_, fun q hq n => ?_, fun i p' j hi hj ho => ?_, fun i p' hi ho => ?_⟩
  · exact old h.z
  · rcases List.mem_append.mp hq with hq | hq
    · exact h.run q hq
    · rw [List.mem_singleton.mp hq]
      obtain ⟨r1, r2⟩ := h.run p hpm
      refine ⟨fun j hj => ?_, ?_⟩
      · rcases List.mem_append.mp hj with hj | hj
        · exact r1 j hj
        · rw [List.mem_singleton.mp hj]; exact hk
      · show (m.st p.1.1 k, m.st p.1.2 k) = _
        rw [m.run_app, m.run_app, r2]; rfl
  · refine List.pairwise_append.mpr ⟨h.ord, List.pairwise_singleton _ _, fun q hq r hr => ?_⟩
    rw [List.mem_singleton.mp hr]
    show sl q.2 (p.2 ++ [k])
    by_cases n : q.2 = []
    · rw [n]; exact .inl (by simp)
    · obtain ⟨i', p'', j', h1, h2, h3⟩ := h.from_ q hq n
      rw [h2]
      rcases h3 with h3 | ⟨rfl, h3⟩
      · refine sl_app ?_
        have hilt := (List.getElem?_eq_some_iff.mp h1)
        have := List.pairwise_iff_getElem.mp h.ord i' c hilt.1 hclt.1 h3
        rw [hilt.2, hclt.2] at this
        exact this
      · cases hp.symm.trans h1
        exact sl_last h3
  · rcases List.mem_append.mp hq with hq | hq
    · obtain ⟨i, p', j, h1, h2, h3⟩ := h.from_ q hq n
      exact ⟨i, p', j, old h1, h2, by omega⟩
    · rw [List.mem_singleton.mp hq]
      exact ⟨c, p, k, old hp, rfl, .inr ⟨rfl, Nat.lt_succ_self _⟩⟩
  · have hi' := back hi (by omega)
    by_cases h9 : i = c ∧ j = k
    · obtain ⟨rfl, rfl⟩ := h9
      cases hp.symm.trans hi'
      exact .inl ⟨_, List.mem_append_right _ (List.mem_singleton.mpr rfl), rfl⟩
    · rcases h.gone i p' j hi' hj (by omega) with ⟨q, hq, e⟩ | ⟨S, h1, h2⟩
      · exact .inl ⟨q, List.mem_append_left _ hq, e⟩
      · exact .inr ⟨S, fun x hx => let ⟨q, hq, r⟩ := h1 x hx; ⟨q, List.mem_append_left _ hq, r⟩, h2⟩
  · exact e i p' (back hi (by omega)) (by omega)
/-- the least word's beginnings are all come to -/
theorem Bfs.reach (h : Bfs m a b qs c 0) {w : List Nat} (hw : m.Least a b w) (hq : ∀ i p, qs[i]? = some p → p.2.length < w.length → i < c) : ∀ (j : Nat), j ≤ w.length → ∃ q ∈ qs, q.2 = w.take j
  | 0, _ => ⟨_, getElem?_mem h.z, by simp⟩
  | j + 1, hj => by
    obtain ⟨q, hm, e⟩ := h.reach hw hq j (by omega)
    obtain ⟨i, hi, rfl⟩ := List.getElem_of_mem hm
    have hi? : qs[i]? = some qs[i] := List.getElem?_eq_getElem hi
    have hjl : j < w.length := by omega
    have hc : i < c := hq i _ hi? (by rw [e, List.length_take]; omega)
    have etk : w.take (j + 1) = qs[i].2 ++ [w[j]] := by rw [e, List.take_succ, List.getElem?_eq_getElem hjl]; rfl
    have hwj : w[j] < m.l := hw.1.1 _ (List.getElem_mem hjl)
    rw [etk]
    rcases h.gone i qs[i] w[j] hi? hwj (.inl hc) with ⟨q, hm, e⟩ | ⟨S, h1, h2⟩
    · exact ⟨q, hm, e⟩
    · exfalso
      have ew : w = (qs[i].2 ++ [w[j]]) ++ w.drop (j + 1) := by rw [← etk, List.take_append_drop]
      obtain ⟨r1, r2⟩ := h.run _ hm
      have hp : m.Pt a b ((qs[i].2 ++ [w[j]]) ++ w.drop (j + 1)) := ew ▸ hw.1
      have hpre : ∀ k ∈ qs[i].2 ++ [w[j]], k < m.l := fun k hk => (List.mem_append.mp hk).elim (r1 k) (fun e => by rw [List.mem_singleton.mp e]; exact hwj)
      have hp := (pt_app hpre).mp hp
      rw [m.run_app, m.run_app] at hp
      have e1 : m.run a qs[i].2 = qs[i].1.1 := by rw [r2]
      have e2 : m.run b qs[i].2 = qs[i].1.2 := by rw [r2]
      rw [e1, e2] at hp
      obtain ⟨x, hx, px⟩ := h2.cut (w := w.drop (j + 1)) hp
      obtain ⟨q, hq9, rfl, sq⟩ := h1 x hx
      obtain ⟨s1, s2⟩ := h.run q hq9
      refine hw.2 (q.2 ++ w.drop (j + 1)) ((pt_app s1).mpr ?_) ?_
      · have : q.1 = (m.run a q.2, m.run b q.2) := s2
        rw [this] at px
        exact px
      · have := sl_apps (w.drop (j + 1)) sq
        rwa [← ew] at this
/-- what is found where the ends differ -/
theorem Bfs.found (h : Bfs m a b qs c 0) {p : (Nat × Nat) × List Nat} (hp : qs[c]? = some p) (e : m.e p.1.1 ≠ m.e p.1.2) {w : List Nat} (hw : m.Least a b w) : p.2 = w := by
  obtain ⟨r1, r2⟩ := h.run p (getElem?_mem hp)
  have pp : m.Pt a b p.2 := by
    refine ⟨r1, ?_⟩
    have e1 : m.run a p.2 = p.1.1 := by rw [r2]
    have e2 : m.run b p.2 = p.1.2 := by rw [r2]
    rw [e1, e2]; exact e
  have np := hw.2 _ pp
  have hclt := (List.getElem?_eq_some_iff.mp hp)
  have before : ∀ {i : Nat} {q : (Nat × Nat) × List Nat}, qs[i]? = some q → c < i → sl p.2 q.2 := fun {i q} hq hlt => by
    have hilt := (List.getElem?_eq_some_iff.mp hq)
    have := List.pairwise_iff_getElem.mp h.ord c i hclt.1 hilt.1 hlt
    rwa [hilt.2, hclt.2] at this
  obtain ⟨q, hm, eq⟩ := h.reach hw (fun i q hq hl => by
    refine Classical.byContradiction fun n => ?_
    by_cases h9 : i = c
    · subst h9; cases hp.symm.trans hq; exact np (.inl hl)
    · exact np (.inl (Nat.lt_of_le_of_lt (sl_le (before hq (by omega))) hl))) w.length (Nat.le_refl _)
  rw [List.take_length] at eq
  obtain ⟨i, hi, rfl⟩ := List.getElem_of_mem hm
  have hi? : qs[i]? = some qs[i] := List.getElem?_eq_getElem hi
  have s2 := (h.run _ hm).2
  have ne : m.e qs[i].1.1 ≠ m.e qs[i].1.2 := by
    rw [s2, eq]; exact hw.1.2
  by_cases h1 : i < c
  · exact absurd (h.same i _ hi? (.inl h1)) ne
  · by_cases h2 : i = c
    · subst h2; cases hp.symm.trans hi?; exact eq
    · exact absurd (eq ▸ before hi? (by omega)) np
/-- where all are gone through nothing parts -/
theorem Bfs.none (h : Bfs m a b qs qs.length 0) {w : List Nat} (hw : m.Least a b w) : False := by
  obtain ⟨q, hm, eq⟩ := h.reach hw (fun i q hq hl => (List.getElem?_eq_some_iff.mp hq).1) w.length (Nat.le_refl _)
  rw [List.take_length] at eq
  obtain ⟨i, hi, rfl⟩ := List.getElem_of_mem hm
  have hi? : qs[i]? = some qs[i] := List.getElem?_eq_getElem hi
  have s2 := (h.run _ hm).2
  refine absurd (h.same i _ hi? (.inl hi)) ?_
  rw [s2, eq]; exact hw.1.2
end
/-! the rooms joined -/
structure Uf (n : Nat) (u : List Nat) : Prop where
  len : u.length = n
  lt : ∀ (r x : Nat), u[r]? = some x → x < n
  rank : ∃ f : Nat → Nat, ∃ M, ∀ (r x : Nat), u[r]? = some x → f r ≤ M ∧ (x ≠ r → f r < f x)
/-- each room is related to the one ahead of it -/
def UR (u : List Nat) (R : Nat → Nat → Prop) : Prop := ∀ (r x : Nat), u[r]? = some x → R r x
/-- how many lead to themselves -/
def roots (u : List Nat) : Nat := ((List.range u.length).filter fun r => decide (u[r]? = some r)).length
theorem uf_start (n : Nat) : Uf n (List.range n) where
  len := List.length_range
  lt := fun r x h => by
    have := (List.getElem?_eq_some_iff.mp h)
    obtain ⟨h1, h2⟩ := this
    rw [List.getElem_range] at h2
    rw [List.length_range] at h1
    omega
  rank := ⟨fun _ => 0, 0, fun r x h => by
    obtain ⟨h1, h2⟩ := (List.getElem?_eq_some_iff.mp h)
    rw [List.getElem_range] at h2
    exact ⟨Nat.le_refl _, fun n => absurd h2.symm n⟩⟩
theorem ur_start (n : Nat) {R : Nat → Nat → Prop} (e : Equivalence R) : UR (List.range n) R := fun r x h => by
  obtain ⟨h1, h2⟩ := (List.getElem?_eq_some_iff.mp h)
  rw [List.getElem_range] at h2
  rw [← h2]; exact e.refl _
theorem set_get {u : List Nat} {i x r y : Nat} (h : (u.set i x)[r]? = some y) : (r = i ∧ y = x ∧ i < u.length) ∨ (r ≠ i ∧ u[r]? = some y) := by
  rw [List.getElem?_set] at h
  by_cases e : i = r
  · subst e
    rw [if_pos rfl] at h
    split at h
    · exact .inl ⟨rfl, (Option.some.inj h).symm, by assumption⟩
    · cases h
  · rw [if_neg e] at h
    exact .inr ⟨fun k => e k.symm, h⟩
/-- the step of the search: a room is led two on -/
structure Half (u u' : List Nat) : Prop where
  same : ∀ (r : Nat), u'[r]? = some r ↔ u[r]? = some r
  ur : ∀ R, Equivalence R → UR u R → UR u' R
  len : u'.length = u.length
theorem Half.refl (u : List Nat) : Half u u := ⟨fun _ => Iff.rfl, fun _ _ h => h, rfl⟩
theorem Half.trans {u v w : List Nat} (a : Half u v) (b : Half v w) : Half u w := ⟨fun r => (b.same r).trans (a.same r), fun R e h => b.ur R e (a.ur R e h), b.len.trans a.len⟩
theorem half_step {n : Nat} {u : List Nat} {f : Nat → Nat} {M : Nat} {r x y : Nat} (lt : ∀ (r x : Nat), u[r]? = some x → x < n) (rk : ∀ (r x : Nat), u[r]? = some x → f r ≤ M ∧ (x ≠ r → f r < f x)) (hr : u[r]? = some x) (hx : u[x]? = some y) (nr : x ≠ r) :
    Half u (u.set r y) ∧ (∀ (q z : Nat), (u.set r y)[q]? = some z → z < n) ∧ (∀ (q z : Nat), (u.set r y)[q]? = some z → f q ≤ M ∧ (z ≠ q → f q < f z)) ∧ f r < f y := by
  have h1 := (rk r x hr).2 nr
  have h2 : f x ≤ f y := by
    by_cases e : y = x
    · rw [e]; exact Nat.le_refl _
    · exact Nat.le_of_lt ((rk x y hx).2 e)
  have hry : f r < f y := Nat.lt_of_lt_of_le h1 h2
  have hyr : y ≠ r := fun e => by rw [e] at hry; exact Nat.lt_irrefl _ hry
  refine ⟨⟨fun q => ?_, fun R e h q z hq => ?_, List.length_set⟩, fun q z hq => ?_, fun q z hq => ?_, hry⟩
  · constructor
    · intro hq
      rcases set_get hq with ⟨rfl, e, _⟩ | ⟨_, h⟩
      · exact absurd e.symm hyr
      · exact h
    · intro hq
      have : q ≠ r := fun e => by subst e; exact nr (Option.some.inj (hr.symm.trans hq))
      rw [List.getElem?_set_ne (Ne.symm this)]; exact hq
  · rcases set_get hq with ⟨rfl, rfl, _⟩ | ⟨_, h'⟩
    · exact e.trans (h _ _ hr) (h _ _ hx)
    · exact h _ _ h'
  · rcases set_get hq with ⟨rfl, rfl, _⟩ | ⟨_, h'⟩
    · exact lt _ _ hx
    · exact lt _ _ h'
  · rcases set_get hq with ⟨rfl, rfl, _⟩ | ⟨_, h'⟩
    · exact ⟨(rk _ _ hr).1, fun _ => hry⟩
    · exact rk _ _ h'
theorem Half.roots {u v : List Nat} (h : Half u v) : roots v = roots u := by
  unfold Bo.roots
  rw [h.len]
  congr 1
  refine List.filter_congr fun r _ => ?_
  have := h.same r
  by_cases e : u[r]? = some r
  · rw [decide_eq_true e, decide_eq_true (this.mpr e)]
  · rw [decide_eq_false e, decide_eq_false (fun k => e (this.mp k))]
/-- one root led to another -/
theorem uf_join {n : Nat} {u : List Nat} (U : Uf n u) {o t : Nat} (ho : u[o]? = some o) (ht : u[t]? = some t) (ne : o ≠ t) : Uf n (u.set o t) ∧ roots (u.set o t) + 1 = roots u := by
  obtain ⟨f, M, rk⟩ := U.rank
  have hol := (List.getElem?_eq_some_iff.mp ho).1
  refine ⟨⟨List.length_set.trans U.len, fun r x h => ?_, fun r => if r = t then max (f t) (f o + 1) else f r, M + 1, fun r x h => ?_⟩, ?_⟩
  · rcases set_get h with ⟨rfl, rfl, _⟩ | ⟨_, h'⟩
    · exact U.lt _ _ ht
    · exact U.lt _ _ h'
  · have hot := (rk o o ho).1
    have htt := (rk t t ht).1
    rcases set_get h with ⟨rfl, rfl, _⟩ | ⟨n1, h'⟩
    · refine ⟨?_, fun _ => ?_⟩
      · show (if r = x then _ else f r) ≤ M + 1
        rw [if_neg ne]; omega
      · show (if r = x then _ else f r) < (if x = x then _ else f x)
        rw [if_neg ne, if_pos rfl]; omega
    · obtain ⟨h1, h2⟩ := rk r x h'
      refine ⟨?_, fun nx => ?_⟩
      · show (if r = t then _ else f r) ≤ M + 1
        split <;> omega
      · have h2 := h2 nx
        show (if r = t then _ else f r) < (if x = t then _ else f x)
        by_cases er : r = t
        · subst er
          exact absurd (Option.some.inj (ht.symm.trans h')).symm nx
        · rw [if_neg er]
          split
          · rename_i ex; subst ex; omega
          · exact h2
  · unfold Bo.roots
    rw [List.length_set]
    have key : ∀ (l : List Nat), l.Nodup → o ∈ l → (l.filter fun r => decide ((u.set o t)[r]? = some r)).length + 1 = (l.filter fun r => decide (u[r]? = some r)).length := by
      intro l
      induction l with
      | nil => intro _ h; cases h
      | cons q l ih =>
        intro nd hm
        obtain ⟨nq, nd⟩ := List.nodup_cons.mp nd
        by_cases e : q = o
        · subst e
          have h1 : decide ((u.set q t)[q]? = some q) = false := decide_eq_false (by rw [List.getElem?_set_self hol]; exact fun k => ne (Option.some.inj k).symm)
          have h2 : decide (u[q]? = some q) = true := decide_eq_true ho
          rw [List.filter_cons, List.filter_cons, h1, h2]
          simp only [Bool.false_eq_true, if_false, if_true, List.length_cons]
          congr 1
          congr 1
          refine List.filter_congr fun r hr => ?_
          have : r ≠ q := fun e => nq (e ▸ hr)
          rw [List.getElem?_set_ne (Ne.symm this)]
        · have hm : o ∈ l := (List.mem_cons.mp hm).elim (fun k => absurd k.symm e) id
          rw [List.filter_cons, List.filter_cons, List.getElem?_set_ne (fun k => e k.symm)]
          have := ih nd hm
          split
          · rw [List.length_cons, List.length_cons]; omega
          · exact this
    exact key _ List.nodup_range (List.mem_range.mpr hol)
theorem ur_join {u : List Nat} {o t : Nat} {R : Nat → Nat → Prop} (h : UR u R) (r : R o t) : UR (u.set o t) R := fun q z hq => by
  rcases set_get hq with ⟨rfl, rfl, _⟩ | ⟨_, h'⟩
  · exact r
  · exact h _ _ h'
theorem roots_le (u : List Nat) : roots u ≤ u.length := by
  unfold roots
  have := List.length_filter_le (fun r => decide (u[r]? = some r)) (List.range u.length)
  rwa [List.length_range] at this
end Bo
set_option Elab.async false
set_option linter.all false
set_option maxRecDepth 100000
set_option maxHeartbeats 4000000
namespace Bo
open PySem PySem.Spec PyProof.Rows L2 GE
abbrev MtP (K : PySem.W.Frag) (x q : Str) (st : Stmt) (f : Addr) (fd : FuncData) : Prop := FunD K x q (defArgs st) (defBody st) (defScope st) [] [] f fd
theorem upd_self {H : Hp} {a : Addr} {o : HO} (h : H a = some o) : upd H a o = H := by
  funext b
  unfold upd
  by_cases e : b = a
  · rw [if_pos e, e, h]
  · rw [if_neg e]
def nVs (ns : List Nat) : List V := ns.map nV
theorem nVs_len (ns : List Nat) : (nVs ns).length = ns.length := List.length_map _
theorem nVs_get {ns : List Nat} {i x : Nat} (h : ns[i]? = some x) : (nVs ns)[i]? = some (nV x) := by unfold nVs; rw [List.getElem?_map, h]; rfl
theorem nVs_set (ns : List Nat) (i x : Nat) : (nVs ns).set i (nV x) = nVs (ns.set i x) := by unfold nVs; rw [List.map_set]
theorem nVs_at {ns : List Nat} {i x : Nat} (h : ns[i]? = some x) : atI (nVs ns) (i : Int) = some (nV x) := atI_nat (nVs_get h)
theorem ix_nat {n i : Nat} (h : i < n) : ixN n (i : Int) = some i := by
  unfold ixN
  rw [if_pos (by omega)]
  simp [h]
def mf (u : Addr) : List (Str × V) := [("ahead", .ref u)]
structure MTx (K : PySem.W.Frag) (C : Addr) : Prop where
  cl : Cls K C
  na : NoAttr K C "ahead"
theorem mins_ne {H : Hp} {a b C dx : Addr} {fs : List (Str × V)} {xs : List V} (h1 : H a = some (.ins C dx fs)) (h2 : H b = some (.lst xs)) : a ≠ b := ne_of h1 h2 (by intro z; cases z)
def spMi (C : Addr) : Sp := fun vs H Q _ => ∃ (p dx : Addr) (n : Nat), vs = [.ref p, nV n] ∧ n ≤ 1000 ∧ H p = some (.ins C dx []) ∧ ∀ u, H u = none → Q .non (upd (upd H u (.lst (nVs (List.range n)))) p (.ins C dx (mf u)))
def spFo (C : Addr) : Sp := fun vs H Q _ => ∃ (p dx u : Addr) (n r : Nat) (ns : List Nat), vs = [.ref p, nV r] ∧ H p = some (.ins C dx (mf u)) ∧ H u = some (.lst (nVs ns)) ∧ Uf n ns ∧ r < n ∧
  ∀ ns' r', Uf n ns' → Half ns ns' → ns'[r']? = some r' → (∀ R, Equivalence R → UR ns R → R r r') → Q (nV r') (upd H u (.lst (nVs ns')))
def spJm (C : Addr) : Sp := fun vs H Q _ => ∃ (p dx u : Addr) (n a b : Nat) (ns : List Nat), vs = [.ref p, nV a, nV b] ∧ H p = some (.ins C dx (mf u)) ∧ H u = some (.lst (nVs ns)) ∧ Uf n ns ∧ a < n ∧ b < n ∧
  ∀ ns' o, Uf n ns' → (o = true → roots ns' + 1 = roots ns ∧ ∀ R, Equivalence R → UR ns R → R a b → UR ns' R) → (o = false → roots ns' = roots ns ∧ ∀ R, Equivalence R → UR ns R → R a b ∧ UR ns' R) → Q (.bl o) (upd H u (.lst (nVs ns')))
section
variable {P : Program} {w : World} {K : PySem.W.Frag} {mg : Str → Option Value} {base : Heap} {C : Addr}
theorem scMi : FnScope ["self", "many"] ["self", "many"] (defScope sMeetingInit) := ⟨rfl, rfl, rfl, by decide +kernel, rfl, by decide +kernel, by decide +kernel⟩
theorem mi_ok {f : Addr} {fd : FuncData} (F : MtP K "__init__" "Meeting.__init__" sMeetingInit f fd) (T : MTx K C) (mlist : mg "list" = none) (mr : mg "range" = none) : FnOk P w K mg base CX0 1 f fd ["self", "many"] (spMi C) := by
  refine okD F scMi (fun vs H Q E h => ?_) (fun cdv A outer s H vs Q E hr h => ?_)
  · obtain ⟨p, dx, n, rfl, _⟩ := h
    rfl
  obtain ⟨p, dx, n, rfl, hn, hp, q⟩ := h
  refine ⟨_, (pss_one (ps_fld (pv 0) (pe_listRg rfl rfl mlist (prg_1 rfl mr (pv 1))) rfl)), ?_⟩
  refine ⟨_, rfl, _, rfl, RgOk.of_le (by omega) (by omega) (by omega) (by omega), fun u xu => ⟨_, rfl, p, C, dx, _, rfl, by rw [upd_ne (ne_of_none hp xu)]; exact hp, T.cl, T.na, (by show 0 < 1000; decide), ?_⟩⟩
  have e : rgV 0 (n : Int) = nVs (List.range n) := by
    unfold rgV nVs
    rw [show ((n : Int) - 0).toNat = n by omega]
    refine List.map_congr_left fun i _ => ?_
    show V.int (0 + (i : Int)) = V.int (i : Int)
    rw [Int.zero_add]
  rw [e]
  exact q u xu
theorem scFo : FnScope ["self", "room"] ["self", "room"] (defScope sMeetingFirstOf) := ⟨rfl, rfl, rfl, by decide +kernel, rfl, by decide +kernel, by decide +kernel⟩
theorem fo_ok {f : Addr} {fd : FuncData} (F : MtP K "first_of" "Meeting.first_of" sMeetingFirstOf f fd) (T : MTx K C) : FnOk P w K mg base CX0 1 f fd ["self", "room"] (spFo C) := by
  refine okD F scFo (fun vs H Q E h => ?_) (fun cdv A outer s H vs Q E hr h => ?_)
  · obtain ⟨p, dx, u, n, r, ns, rfl, _⟩ := h
    rfl
  obtain ⟨p, dx, u, n, r, ns, rfl, hp, hu, U, hr0, q⟩ := h
  refine ⟨_, (pss_cons (ps_while PassesOwn.never (pt_cmpR op_ne (pe_ix ix_list (pe_fld (pv 0) rfl) (pv 1) (fun _ _ => rfl)) (pv 1) (nomark _))
      (pss_cons (ps_asg (pe_ix ix_list (pe_fld (pv 0) rfl) (pe_ix ix_list (pe_fld (pv 0) rfl) (pv 1) (fun _ _ => rfl)) (fun _ _ => rfl)) (pg_sub (pe_fld (pv 0) rfl) (pv 1) set_list)) (pss_one (ps_set (i := 1) scFo.nd rfl (Or.inl rfl) (pe_ix ix_list (pe_fld (pv 0) rfl) (pv 1) (fun _ _ => rfl)))))) (pss_one (ps_ret (pv 1)))), ?_⟩
  have pu := mins_ne hp hu
  obtain ⟨g, M, rk⟩ := U.rank
  refine t_seq ⟨fun m σ H2 => ∃ r' ns', m = M - g r' ∧ σ = [some (.ref p), some (nV r')] ∧ H2 = upd H u (.lst (nVs ns')) ∧ r' < n ∧ Half ns ns' ∧ (∀ (q z : Nat), ns'[q]? = some z → z < n) ∧ (∀ (q z : Nat), ns'[q]? = some z → g q ≤ M ∧ (z ≠ q → g q < g z)) ∧ (∀ R, Equivalence R → UR ns R → R r r'),
    ⟨_, r, ns, rfl, rfl, (upd_self hu).symm, hr0, Half.refl _, U.lt, rk, fun R e _ => e.refl r⟩, ?_⟩
  rintro m σ H2 ⟨r', ns', rfl, rfl, rfl, hr', hh, hlt, hrk, hR⟩
  have hl : ns'.length = n := hh.len.trans U.len
  have hx? : ns'[r']? = some ns'[r'] := List.getElem?_eq_getElem (by omega)
  generalize ns'[r'] = x at hx?
  have hxn := hlt _ _ hx?
  have hy? : ns'[x]? = some ns'[x] := List.getElem?_eq_getElem (by omega)
  generalize ns'[x] = y at hy?
  have hp' : ∀ o, upd H u o p = some (.ins C dx (mf u)) := fun o => by rw [upd_ne pu]; exact hp
  refine ⟨_, rfl, p, C, dx, mf u, .ref u, rfl, hp' _, T.cl, T.na, rfl, _, rfl, u, _, _, _, rfl, rfl, SqL.of upd_same, nVs_at hx?, _, rfl, rfl, _, rfl, ?_⟩
  by_cases e : x = r'
  · subst e
    refine iffF (by simp) ?_
    refine ⟨_, rfl, q ns' x ⟨hl, hlt, g, M, hrk⟩ hh hx? hR⟩
  · refine iffT (by rw [Bool.not_eq_true', decide_eq_false_iff_not]; intro k; injection k with k; exact e (by omega)) ⟨fun σ' H3 => ∃ m' < M - g r', ∃ r' ns', m' = M - g r' ∧ σ' = [some (.ref p), some (nV r')] ∧ H3 = upd H u (.lst (nVs ns')) ∧ r' < n ∧ Half ns ns' ∧ (∀ (q z : Nat), ns'[q]? = some z → z < n) ∧ (∀ (q z : Nat), ns'[q]? = some z → g q ≤ M ∧ (z ≠ q → g q < g z)) ∧ (∀ R, Equivalence R → UR ns R → R r r'), fun σ' H' ⟨m', h1, h2⟩ => ⟨m', h1, h2⟩, ?_⟩
    obtain ⟨s1, s2, s3, s4⟩ := half_step hlt hrk hx? hy? e
    refine t_seq ?_
    refine ⟨_, rfl, p, C, dx, mf u, .ref u, rfl, hp' _, T.cl, T.na, rfl, _, rfl, p, C, dx, mf u, .ref u, rfl, hp' _, T.cl, T.na, rfl, _, rfl, u, _, _, _, rfl, rfl, SqL.of upd_same, nVs_at hx?, u, _, _, _, rfl, rfl, SqL.of upd_same, nVs_at hy?, _, rfl, p, C, dx, mf u, .ref u, rfl, hp' _, T.cl, T.na, rfl, _, rfl, u, _, _, r', rfl, rfl, upd_same, ix_nat (by rw [nVs_len]; omega), ?_⟩
    rw [nVs_set, upd_upd]
    have hg : (ns'.set r' y)[r']? = some y := List.getElem?_set_self (by omega)
    refine ⟨_, rfl, p, C, dx, mf u, .ref u, rfl, hp' _, T.cl, T.na, rfl, _, rfl, u, _, _, _, rfl, rfl, SqL.of upd_same, nVs_at hg, ?_⟩
    have hym := (s3 y _ (List.getElem?_eq_getElem (by rw [List.length_set, hl]; exact hlt _ _ hy?))).1
    refine ⟨M - g y, by omega, y, ns'.set r' y, rfl, rfl, rfl, hlt _ _ hy?, hh.trans s1, s2, s3, fun R eR h => ?_⟩
    have h' := hh.ur R eR h
    exact eR.trans (hR R eR h) (eR.trans (h' _ _ hx?) (h' _ _ hy?))
theorem scJm : FnScope ["self", "room", "other", "one", "two"] ["self", "room", "other"] (defScope sMeetingJoinRooms) := ⟨rfl, rfl, rfl, by decide +kernel, rfl, by decide +kernel, by decide +kernel⟩
theorem jm_ok {f g : Addr} {fd gd : FuncData} (F : MtP K "join_rooms" "Meeting.join_rooms" sMeetingJoinRooms f fd) (T : MTx K C) (G : FnOk P w K mg base CX0 1 g gd ["self", "room"] (spFo C)) (bG : Binds K gd ["self", "room"] []) (m : Meth K C "first_of" g) :
    FnOk P w K mg base CX0 2 f fd ["self", "room", "other"] (spJm C) := by
  refine okD F scJm (fun vs H Q E h => ?_) (fun cdv A outer s H vs Q E hr h => ?_)
  · obtain ⟨p, dx, u, n, a, b, ns, rfl, _⟩ := h
    rfl
  obtain ⟨p, dx, u, n, a, b, ns, rfl, hp, hu, U, ha, hb, q⟩ := h
  refine ⟨_, (pss_cons (ps_set (i := 3) scJm.nd rfl (Or.inl rfl) (pe_meth (pv 0) T.cl m G hr bG .nil pass0 (pa_cons (pv 1) pa_nil))) (pss_cons (ps_set (i := 4) scJm.nd rfl (Or.inl rfl) (pe_meth (pv 0) T.cl m G hr bG .nil pass0 (pa_cons (pv 2) pa_nil))) (pss_cons (ps_asg (pv 4) (pg_sub (pe_fld (pv 0) rfl) (pv 3) set_list)) (pss_one (ps_ret (pe_cmpR op_ne (pv 3) (pv 4) (nomark _))))))), ?_⟩
  have pu := mins_ne hp hu
  have hp' : ∀ o, upd H u o p = some (.ins C dx (mf u)) := fun o => by rw [upd_ne pu]; exact hp
  refine t_set ⟨_, rfl, p, dx, mf u, rfl, hp, rfl, _, rfl, p, dx, u, n, a, ns, rfl, hp, hu, U, ha, fun n1 o1 U1 h1 r1 R1 => ?_⟩
  refine t_set ⟨_, rfl, p, dx, mf u, rfl, hp' _, rfl, _, rfl, p, dx, u, n, b, n1, rfl, hp' _, upd_same, U1, hb, fun n2 o2 U2 h2 r2 R2 => ?_⟩
  rw [upd_upd]
  have hl2 : o1 < n2.length := by
    have := (List.getElem?_eq_some_iff.mp r1).1
    rw [h2.len]; exact this
  refine t_seq ⟨_, rfl, _, rfl, p, C, dx, mf u, .ref u, rfl, hp' _, T.cl, T.na, rfl, _, rfl, u, _, _, o1, rfl, rfl, upd_same, ix_nat (by rw [nVs_len]; exact hl2), ?_⟩
  dsimp only
  rw [nVs_set, upd_upd]
  have r1' : n2[o1]? = some o1 := (h2.same o1).mpr r1
  have h12 := h1.trans h2
  refine ⟨_, rfl, _, rfl, rfl, ?_⟩
  by_cases e : o1 = o2
  · subst e
    have es : n2.set o1 o1 = n2 := by
      refine List.ext_getElem? fun i => ?_
      by_cases h9 : o1 = i
      · subst h9; rw [List.getElem?_set_self hl2, r1']
      · rw [List.getElem?_set_ne h9]
    rw [es]
    have : (!decide (nV o1 = nV o1)) = false := by simp
    rw [this]
    refine q n2 false U2 (fun h => by cases h) fun _ => ⟨h12.roots, fun R eR h => ⟨?_, h12.ur R eR h⟩⟩
    exact eR.trans (R1 R eR h) (eR.symm (R2 R eR (h1.ur R eR h)))
  · have : (!decide (nV o1 = nV o2)) = true := by
      rw [Bool.not_eq_true', decide_eq_false_iff_not]
      intro k
      injection k with k
      exact e (by omega)
    rw [this]
    obtain ⟨j1, j2⟩ := uf_join U2 r1' r2 e
    refine q _ true j1 (fun _ => ⟨by rw [j2, h12.roots], fun R eR h hab => ?_⟩) (fun h => by cases h)
    refine ur_join (h12.ur R eR h) ?_
    exact eR.trans (eR.symm (R1 R eR h)) (eR.trans hab (R2 R eR (h1.ur R eR h)))
end
end Bo
set_option Elab.async false
set_option linter.all false
set_option maxRecDepth 100000
set_option maxHeartbeats 4000000
/-! sep.join(reversed(a list of texts)) -/
namespace GE
open PySem PySem.Spec PyProof.Rows L2 RT MpR
section
variable {prog : Program} {w : World} {A : Around} {E : Value → Shared → Prop} {s : Shared}
theorem join_rev {x : Str} {t : Tok} {ys : List Str} {it l : Addr} {items : Array Value} {Q : Value → Shared → Prop} (hh : A.handled = none) (hit : s.heap.IsRevIter it l ((items.size : Int) - 1)) (hl : s.heap.IsList l items) (hne : l ≠ it) (hn : items.size ≤ sizeLine)
    (hP : ∀ acc : Array Value, ItemsOf (fun i v => items[items.size - 1 - i]? = some v) acc items.size → StrsAre acc.toList ys) (hok : (ys.map (·.length)).sum + ys.length * x.length ≤ 16777216)
    (hq : ∀ h', (∀ b o, b ≠ it → s.heap.get? b = some o → h'.get? b = some o) → ∀ t' k, Q (.str (Txt.join x ys) t') { s with heap := h', toks := k }) :
    wpAny (model prog w) A (call (.builtin "str.join") [.str x t, .ref it]) Q E s := by
  refine wpAny_call (codeAny_call_builtin F.slot_str_join.plain F.entry_str_join (F.slot_str_join.check _ _ _ _ _ _ _ _ (typeIs_str _ _ _) (F.args_str_join_2 _ _) ?_))
  rw [join_tree_other]
  refine wpAny_bind (wpAny_typeOf hit.typeIs ?_)
  show wpAny _ A.in1 ((pyIter (.ref it)).tryCatch _ >>= fun it => collect it >>= fun items => joinTail x items) _ _ s
  refine wpAny_bind (wpAny_tryCatch (wpAny_pyIter_revIter hit ?_))
  refine wpAny_bind (collect_rev (A := A.in1) hh hit hl hne hn fun h' tk acc hk hacc => ?_)
  obtain ⟨m, hm, ht⟩ := strsAre_values (hP acc hacc)
  subst ht
  rw [hm]
  have hok' := joinOk_of hok
  unfold JoinOk at hok'
  rw [Bool.not_eq_true'] at hok'
  have g : Gives (joinTail x (strValues m)) (joinMade x m) := by
    have g0 := gives_joinTail x m hok'
    cases m with
    | nil => exact g0
    | cons p r => cases r with
      | nil => exact g0
      | cons q r' => exact g0
  exact g prog w A (wants Q E) { s with heap := h', toks := tk } (post_join m ⟨joinFit_length hok', hq h' hk⟩)
end
section
variable {X : Cx}
theorem strs_rel : ∀ {ys : List Str} {us : List Value}, Vals (ys.map V.str) us → StrsAre us ys
  | [], us, r => by cases r; exact .nil
  | y :: ys, us, r => by
    cases r with
    | cons r1 r2 =>
      obtain ⟨t, rfl⟩ := r1
      exact .cons y t (strs_rel r2)
/-- sep.join(reversed(xs)), xs a list of texts -/
def tJoinRev (K : PySem.W.Frag) (to te : TE) : TE := fun σ H Q => to σ H fun x H1 => (∃ a, x = .str a) ∧ te σ H1 fun v H2 => ∃ (a : Str) (q : Addr) (ys : List Str),
  x = .str a ∧ v = .ref q ∧ SqL K H2 q (ys.map V.str) ∧ (ys.map (·.length)).sum + ys.length * a.length ≤ 16777216 ∧ Q (.str (Txt.join a ys.reverse)) H2
theorem pe_joinRev {o e : Expr} {to te : TE} {apos pos p pos2 : Pos} (hc : X.calm = true) (ho : PE X o to) (hg : Gl X "reversed") (hm : X.mg "reversed" = none) (he : PE X e te)
    (hs1 : starEach [.Call (.Name "reversed" p) [e] [] pos2] X.env = [(false, eval (.Call (.Name "reversed" p) [e] [] pos2) X.env)] := by rfl)
    (hs : starEach [e] X.env = (false, eval e X.env) :: starEach [] X.env := by rfl)
    (hbase : attributeBase o "join" X.env (eval o X.env) = eval o X.env := by rfl) (hline : (apos.endLine == pos.line) = true := by rfl) :
    PE X (.Call (.Attribute o "join" apos) [.Call (.Name "reversed" p) [e] [] pos2] [] pos) (tJoinRev X.K to te) := by
  refine ⟨fun pins s σ H Q I h => ?_⟩
  refine PySem.Call_method1 hbase hs1 hline (thn (ho.run pins s σ H _ I h) fun v s1 ⟨x, H1, I1, r1, q1⟩ => ?_)
  obtain ⟨⟨a, rfl⟩, q1⟩ := q1
  obtain ⟨t, rfl⟩ := _root_.id r1
  refine ⟨"str", _, F.plainAttrs_str, F.slot_str_join, F.type_str_join, typeIs_str _ _ _, (fun _ e => nomatch e), Calls.callWith_builtin rfl (Calls.evalArgs_plain (Calls.spliced_cons ?_))⟩
  refine Call_ (ld_blt I1 hg hm PyProof.Rows.boot_reversed (PyProof.Rows.callWith_type1 (args_cons (thn (he.run pins s1 σ H1 _ I1 q1) fun u s2 ⟨v, H2, I2, r2, q2⟩ => args_nil ?_) hs) hs rfl))
  obtain ⟨a', q, ys, ea, rfl, hq, hz, q2⟩ := q2
  cases ea
  obtain rfl : u = Value.ref q := r2
  obtain ⟨its, rv, p', hsz⟩ := I2.list hq
  refine call_reversed_list p'.isList (Calls.spliced_nil ?_)
  have k0 : ∀ b o, s2.heap.get? b = some o → (s2.heap.push (revObj q ((its.toArray.size : Int) - 1))).get? b = some o := fun b o e => Heap.get?_push_of_some _ e
  have I3 : Inv X pins σ H2 { s2 with heap := s2.heap.push (revObj q ((its.toArray.size : Int) - 1)) } := I2.kept (t' := s2.toks) k0
  obtain ⟨f0, f1, f2, f3, f4, f5⟩ := I2.fpOk (H' := H2) (b := s2.heap.objs.size) (Nat.le_refl _) (I2.hok.fresh (Nat.le_refl _))
  have hl := p'.isList
  obtain ⟨ol, hol, _⟩ := id hl
  have hne : q ≠ s2.heap.objs.size := Nat.ne_of_lt (Heap.lt_size hol)
  have hn : its.toArray.size ≤ sizeLine := by rw [List.size_toArray, ← rv.length]; exact hsz
  refine join_rev (s := { s2 with heap := s2.heap.push (revObj q ((its.toArray.size : Int) - 1)) }) (ys := ys.reverse) (I2.ok.hd hc) ⟨_, Heap.get?_push_size _ rfl, rfl, rfl⟩ (hl.push _) hne hn (fun acc hacc => ?_) ?_ fun h' hk t' k => ?_
  · have r := vals_rev rv hacc
    rw [← List.map_reverse] at r
    exact strs_rel r
  · rw [List.length_reverse, List.map_reverse, List.sum_reverse]; exact hz
  · have I4 : Inv X pins σ H2 { s2 with heap := h', toks := k } := I3.turned (t' := k) (fun b o hb e => hk b o hb e) f0 f1 f3 f4 f5
    exact ⟨.str _, H2, I4, ⟨t', rfl⟩, q2⟩
end
end GE
set_option Elab.async false
set_option linter.all false
set_option maxRecDepth 100000
set_option maxHeartbeats 4000000
/-! zip(a text, a list, a list), its item taken apart -/
namespace GE
open PySem PySem.Spec PyProof.Rows L2
abbrev IsTrip (h : Heap) (T : Addr) (a b c : Value) : Prop := h.get? T = some { cls := .type "tuple", data := .seq #[a, b, c] }
theorem typeCall_zip_3 (a b c : Value) : checkTypeCall "zip" ⟨[a, b, c], []⟩ = pure () := by kernel_rfl
theorem newCall_zip_3 (a b c : Value) : checkBuiltinCall "zip.__new__" ⟨[.type "zip", a, b, c], []⟩ = pure () := by kernel_rfl
theorem args_object_init_4 (a b c d : Value) : argsOk "object.__init__" ⟨[a, b, c, d], []⟩ := by
  unfold argsOk; rw [signature?_of (id := "object.__init__") (n := ['_', '_', 't', 'i', 'n', 'i', '_', '_']) (o := ['t', 'c', 'e', 'j', 'b', 'o']) (by kernel_rfl) F.owner_object]; kernel_rfl
structure Zip3A (z TI TO i0 i1 i2 l1 l2 : Addr) : Prop where
  D : ZipApart z TI TO i1 i2 l1 l2
  i0z : i0 ≠ z
  TIi0 : TI ≠ i0
  TOi0 : TO ≠ i0
  i01 : i0 ≠ i1
  i02 : i0 ≠ i2
  l1i0 : l1 ≠ i0
  l2i0 : l2 ≠ i0
abbrev SIt (x : Str) (t : Tok) (i0 : Addr) (i : Nat) (h : Heap) : Prop := h.IsStrIter i0 (strIterType x) x t i
theorem SIt.ext {x : Str} {t : Tok} {i0 b : Addr} {i : Nat} {h h' : Heap} (st : SIt x t i0 i h) (e : Heap.ExtBut b h h') (n : i0 ≠ b) : SIt x t i0 i h' := by
  obtain ⟨o, ho, r⟩ := st
  exact ⟨o, e _ _ n ho, r⟩
section
variable {prog : Program} {w : World} {A : Around} {E : Value → Shared → Prop} {s : Shared}
theorem wpAny_updateSeq_trip {T : Addr} {a b c x : Value} {k : Nat} {Q : Unit → Shared → Prop} (hT : IsTrip s.heap T a b c)
    (h : ∀ h', h'.get? T = some { cls := .type "tuple", data := .seq ((#[a, b, c] : Array Value).setIfInBounds k x) } → Heap.SameBut T s.heap h' → Q () { s with heap := h' }) :
    wpAny (model prog w) A (updateSeq T (·.setIfInBounds k x)) Q E s := by
  refine wpAny_updateSeq hT rfl (h _ ?_ (Heap.SameBut.update ..))
  rw [Heap.get?_update_self _ hT rfl]
  simp [Obj.mapSeq]
theorem zip3_next_item {z TI TO i0 i1 i2 l1 l2 : Addr} {k : Nat} {tx : Str} {t0 : Tok} {xs ys : Array Value} {x y a b c : Value} {Q : Value → Shared → Prop} (N : Zip3A z TI TO i0 i1 i2 l1 l2)
    (S0 : Draws prog w A i0 [i0] tx.cps.size (SignAt tx) (SIt tx t0 i0)) (hi : k < tx.cps.size)
    (hz : IsZip s.heap z TI TO .none) (hTI : IsTrip s.heap TI (.ref i0) (.ref i1) (.ref i2)) (hTO : IsTrip s.heap TO a b c) (h0 : SIt tx t0 i0 k s.heap)
    (h1 : s.heap.IsListIter i1 l1 k) (h2 : s.heap.IsListIter i2 l2 k) (hl1 : s.heap.IsList l1 xs) (hl2 : s.heap.IsList l2 ys) (hx : xs[k]? = some x) (hy : ys[k]? = some y)
    (hQ : ∀ h' v tk, SignAt tx k v → IsZip h' z TI TO (rawInt s.heap.objs.size) → IsTrip h' TO v x y → SIt tx t0 i0 (k + 1) h' → h'.IsListIter i1 l1 (k + 1) → h'.IsListIter i2 l2 (k + 1) → IsTrip h' s.heap.objs.size v x y → h'.objs.size = s.heap.objs.size + 1 →
      (∀ c o, c ≠ z → c ≠ TO → c ≠ i0 → c ≠ i1 → c ≠ i2 → s.heap.get? c = some o → h'.get? c = some o) → Q (.ref s.heap.objs.size) { s with heap := h', toks := tk }) :
    wpAny (model prog w) A (Builtin.«zip.__next__» ⟨[.ref z], []⟩) (fun fin s' => ∃ v, fin = .done (.ret v) ∧ Q v s') E s := by
  have D := N.D
  show wpAny _ _ (field (.ref z) 2 >>= _) _ _ _
  refine wpAny_bind (wpAny_field hz rfl (x := .bool false) rfl ?_)
  show wpAny _ _ (field (.ref z) 3 >>= _) _ _ _
  refine wpAny_bind (wpAny_field hz rfl (x := .ref TI) rfl ?_)
  refine wpAny_bind (wpAny_seqItems hTI rfl ?_)
  show wpAny _ _ (Builtin.SmallTypes.ownedTupleIsFree (.ref z) >>= _) _ _ _
  refine wpAny_bind ?_
  unfold Builtin.SmallTypes.ownedTupleIsFree
  refine wpAny_bind (wpAny_field hz rfl (x := .none) rfl (wpAny_pure ?_))
  simp only [if_true]
  refine wpAny_bind (wpAny_rule ?_)
  refine wpAny_bind (wpAny_field hz rfl (x := .ref TO) rfl ?_)
  refine wpAny_bind (wpAny_setField_rec hz (by simp) fun h₁ hz₁ hs₁ => ?_)
  replace hz₁ : IsZip h₁ z TI TO .ellipsis := hz₁
  refine wpAny_bind ?_
  simp only [List.zipIdx_cons, List.zipIdx_nil, List.forIn_cons, List.forIn_nil]
  -- the text
  refine wpAny_bind (wpAny_bind (wpAny_onRaise ?_))
  show wpAny _ _ (Builtin.SmallTypes.nextOf (.ref i0) >>= _) _ _ _
  refine wpAny_bind (S0.item k _ _ _ hi (h0.ext hs₁.extBut N.i0z) fun v g₁ tk hv h0' gs => wpAny_pure ?_)
  replace gs : Heap.SameBut i0 h₁ g₁ := gs
  have hTO₁ : IsTrip g₁ TO a b c := gs.extBut _ _ N.TOi0 (hs₁.extBut _ _ D.TOz hTO)
  refine wpAny_bind (wpAny_seqItems hTO₁ rfl ?_)
  refine wpAny_bind (wpAny_updateSeq_trip hTO₁ fun g₂ hTO₂ gs₂ => ?_)
  replace hTO₂ : IsTrip g₂ TO v b c := hTO₂
  replace gs₂ : Heap.SameBut TO g₁ g₂ := gs₂
  refine wpAny_bind (wpAny_letGo (wpAny_pure ?_))
  -- the first list
  refine wpAny_bind (wpAny_bind (wpAny_onRaise ?_))
  show wpAny _ _ (Builtin.SmallTypes.nextOf (.ref i1) >>= _) _ _ _
  refine wpAny_bind (wpAny_nextOf_list_item (((h1.extBut hs₁.extBut D.i1z).extBut gs.extBut N.i01.symm).extBut gs₂.extBut D.TOi1.symm)
    (((hl1.extBut hs₁.extBut D.l1z).extBut gs.extBut N.l1i0).extBut gs₂.extBut D.l1TO) hx fun h₃ h1₃ hs₃ => wpAny_pure ?_)
  replace hs₃ : Heap.SameBut i1 g₂ h₃ := hs₃
  have hTO₃ : IsTrip h₃ TO v b c := hs₃.extBut _ _ D.TOi1 hTO₂
  refine wpAny_bind (wpAny_seqItems hTO₃ rfl ?_)
  refine wpAny_bind (wpAny_updateSeq_trip hTO₃ fun h₄ hTO₄ hs₄ => ?_)
  replace hTO₄ : IsTrip h₄ TO v x c := hTO₄
  replace hs₄ : Heap.SameBut TO h₃ h₄ := hs₄
  refine wpAny_bind (wpAny_letGo (wpAny_pure ?_))
  -- the second list
  refine wpAny_bind (wpAny_bind (wpAny_onRaise ?_))
  show wpAny _ _ (Builtin.SmallTypes.nextOf (.ref i2) >>= _) _ _ _
  refine wpAny_bind (wpAny_nextOf_list_item (((((h2.extBut hs₁.extBut D.i2z).extBut gs.extBut N.i02.symm).extBut gs₂.extBut D.TOi2.symm).extBut hs₃.extBut D.i12.symm).extBut hs₄.extBut D.TOi2.symm)
    (((((hl2.extBut hs₁.extBut D.l2z).extBut gs.extBut N.l2i0).extBut gs₂.extBut D.l2TO).extBut hs₃.extBut D.l2i1).extBut hs₄.extBut D.l2TO) hy fun h₅ h2₅ hs₅ => wpAny_pure ?_)
  replace hs₅ : Heap.SameBut i2 h₄ h₅ := hs₅
  have hTO₅ : IsTrip h₅ TO v x c := hs₅.extBut _ _ D.TOi2 hTO₄
  refine wpAny_bind (wpAny_seqItems hTO₅ rfl ?_)
  refine wpAny_bind (wpAny_updateSeq_trip hTO₅ fun h₆ hTO₆ hs₆ => ?_)
  replace hTO₆ : IsTrip h₆ TO v x y := hTO₆
  replace hs₆ : Heap.SameBut TO h₅ h₆ := hs₆
  refine wpAny_bind (wpAny_letGo (wpAny_pure (wpAny_pure ?_)))
  refine wpAny_bind (wpAny_seqItems hTO₆ rfl ?_)
  refine wpAny_bind (wpAny_newTuple ?_)
  have hsz : h₆.objs.size = s.heap.objs.size := by rw [hs₆.1, hs₅.1, hs₄.1, hs₃.1, gs₂.1, gs.1, hs₁.1]
  have hz₆ : IsZip h₆ z TI TO .ellipsis := hs₆.extBut _ _ D.TOz.symm (hs₅.extBut _ _ D.i2z.symm (hs₄.extBut _ _ D.TOz.symm (hs₃.extBut _ _ D.i1z.symm (gs₂.extBut _ _ D.TOz.symm (gs.extBut _ _ N.i0z.symm hz₁)))))
  have hk₆ : ∀ c o, c ≠ z → c ≠ TO → c ≠ i0 → c ≠ i1 → c ≠ i2 → s.heap.get? c = some o → h₆.get? c = some o := fun c o c1 c2 c0 c3 c4 e =>
    hs₆.extBut _ _ c2 (hs₅.extBut _ _ c4 (hs₄.extBut _ _ c2 (hs₃.extBut _ _ c3 (gs₂.extBut _ _ c2 (gs.extBut _ _ c0 (hs₁.extBut _ _ c1 e))))))
  have h0₆ : SIt tx t0 i0 (k + 1) h₆ := (((h0'.ext gs₂.extBut N.TOi0.symm).ext hs₃.extBut N.i01).ext hs₄.extBut N.TOi0.symm |>.ext hs₅.extBut N.i02).ext hs₆.extBut N.TOi0.symm
  have h1₆ : h₆.IsListIter i1 l1 (k + 1) := ((h1₃.extBut hs₄.extBut D.TOi1.symm).extBut hs₅.extBut D.i12).extBut hs₆.extBut D.TOi1.symm
  have h2₆ : h₆.IsListIter i2 l2 (k + 1) := h2₅.extBut hs₆.extBut D.TOi2.symm
  have hzlt : z < h₆.objs.size := Heap.lt_size hz₆
  show wpAny _ _ (Builtin.SmallTypes.ownedTupleHandOut (.ref z) (.ref h₆.objs.size) >>= _) _ _ _
  refine wpAny_bind ?_
  unfold Builtin.SmallTypes.ownedTupleHandOut
  have hz₇ : IsZip (h₆.push { cls := .type "tuple", data := .seq #[v, x, y] }) z TI TO .ellipsis := Heap.get?_push_of_some _ hz₆
  refine wpAny_bind (wpAny_setField_rec hz₇ (by simp) fun h₈ hz₈ hs₈ => ?_)
  replace hz₈ : IsZip h₈ z TI TO (rawInt h₆.objs.size) := hz₈
  refine wpAny_setField_rec hz₈ (by simp) fun h₉ hz₉ hs₉ => ?_
  replace hz₉ : IsZip h₉ z TI TO (rawInt h₆.objs.size) := hz₉
  have up : ∀ c o, c ≠ z → h₆.get? c = some o → h₉.get? c = some o := fun c o c1 e => hs₉.extBut _ _ c1 (hs₈.extBut _ _ c1 (Heap.get?_push_of_some _ e))
  have hT₉ : IsTrip h₉ h₆.objs.size v x y := hs₉.extBut _ _ (Nat.ne_of_gt hzlt) (hs₈.extBut _ _ (Nat.ne_of_gt hzlt) (Heap.get?_push_size _ rfl))
  have hz9 : h₉.objs.size = h₆.objs.size + 1 := by rw [hs₉.1, hs₈.1, Heap.size_push]
  rw [hsz] at hz₉ hT₉ hz9
  refine wpAny_pure ⟨_, rfl, ?_⟩
  show Q (.ref h₆.objs.size) _
  rw [hsz]
  obtain ⟨o0, e0, r0⟩ := h0₆
  exact hQ h₉ v tk hv hz₉ (up _ _ D.TOz hTO₆) ⟨o0, up _ _ N.i0z e0, r0⟩ (h1₆.at fun o e => up _ o D.i1z e) (h2₆.at fun o e => up _ o D.i2z e) hT₉ hz9 fun c o c1 c2 c0 c3 c4 e => up c o c1 (hk₆ c o c1 c2 c0 c3 c4 e)
/-- all end together -/
theorem zip3_next_end {z TI TO i0 i1 i2 l1 l2 : Addr} {tx : Str} {t0 : Tok} {a b c : Value} {Q : Fin → Shared → Prop} (N : Zip3A z TI TO i0 i1 i2 l1 l2)
    (S0 : Draws prog w A i0 [i0] tx.cps.size (SignAt tx) (SIt tx t0 i0))
    (hz : IsZip s.heap z TI TO .none) (hTI : IsTrip s.heap TI (.ref i0) (.ref i1) (.ref i2)) (h0 : SIt tx t0 i0 tx.cps.size s.heap)
    (hE : ∀ h' e, (∀ c o, c ≠ z → c ≠ i0 → s.heap.get? c = some o → h'.get? c = some o) → (∃ o, h'.get? e = some o ∧ o.cls = .type "StopIteration") → E (.ref e) { s with heap := h' }) :
    wpAny (model prog w) A (Builtin.«zip.__next__» ⟨[.ref z], []⟩) Q E s := by
  have D := N.D
  show wpAny _ _ (field (.ref z) 2 >>= _) _ _ _
  refine wpAny_bind (wpAny_field hz rfl (x := .bool false) rfl ?_)
  show wpAny _ _ (field (.ref z) 3 >>= _) _ _ _
  refine wpAny_bind (wpAny_field hz rfl (x := .ref TI) rfl ?_)
  refine wpAny_bind (wpAny_seqItems hTI rfl ?_)
  show wpAny _ _ (Builtin.SmallTypes.ownedTupleIsFree (.ref z) >>= _) _ _ _
  refine wpAny_bind ?_
  unfold Builtin.SmallTypes.ownedTupleIsFree
  refine wpAny_bind (wpAny_field hz rfl (x := .none) rfl (wpAny_pure ?_))
  simp only [if_true]
  refine wpAny_bind (wpAny_rule ?_)
  refine wpAny_bind (wpAny_field hz rfl (x := .ref TO) rfl ?_)
  refine wpAny_bind (wpAny_setField_rec hz (by simp) fun h₁ hz₁ hs₁ => ?_)
  replace hz₁ : IsZip h₁ z TI TO .ellipsis := hz₁
  refine wpAny_bind ?_
  simp only [List.zipIdx_cons, List.zipIdx_nil, List.forIn_cons, List.forIn_nil]
  refine wpAny_bind (wpAny_bind (wpAny_onRaise ?_))
  show wpAny _ _ (Builtin.SmallTypes.nextOf (.ref i0) >>= _) _ _ _
  refine wpAny_bind (S0.done _ _ _ (h0.ext hs₁.extBut N.i0z) fun h₂ e hs₂ he => ?_)
  obtain ⟨oe, hoe, hce⟩ := he
  have hz₂ : IsZip h₂ z TI TO .ellipsis := hs₂ _ _ N.i0z.symm hz₁
  have hez : e ≠ z := fun x => by subst x; rw [hz₂] at hoe; cases hoe; simp at hce
  exact wpAny_setField_rec hz₂ (by simp) fun h₃ _ hs₃ => hE h₃ e (fun c o c1 c3 x => hs₃.extBut _ _ c1 (hs₂ _ _ c3 (hs₁.extBut _ _ c1 x))) ⟨oe, hs₃.extBut _ _ hez hoe, hce⟩
theorem pyNext_zip3_item {z TI TO i0 i1 i2 l1 l2 : Addr} {k : Nat} {tx : Str} {t0 : Tok} {xs ys : Array Value} {x y a b c : Value} {Q : Option Value → Shared → Prop} (N : Zip3A z TI TO i0 i1 i2 l1 l2)
    (S0 : Draws prog w A.in1 i0 [i0] tx.cps.size (SignAt tx) (SIt tx t0 i0)) (hi : k < tx.cps.size)
    (hz : IsZip s.heap z TI TO .none) (hTI : IsTrip s.heap TI (.ref i0) (.ref i1) (.ref i2)) (hTO : IsTrip s.heap TO a b c) (h0 : SIt tx t0 i0 k s.heap)
    (h1 : s.heap.IsListIter i1 l1 k) (h2 : s.heap.IsListIter i2 l2 k) (hl1 : s.heap.IsList l1 xs) (hl2 : s.heap.IsList l2 ys) (hx : xs[k]? = some x) (hy : ys[k]? = some y)
    (hQ : ∀ h' v tk, SignAt tx k v → IsZip h' z TI TO (rawInt s.heap.objs.size) → IsTrip h' TO v x y → SIt tx t0 i0 (k + 1) h' → h'.IsListIter i1 l1 (k + 1) → h'.IsListIter i2 l2 (k + 1) → IsTrip h' s.heap.objs.size v x y → h'.objs.size = s.heap.objs.size + 1 →
      (∀ c o, c ≠ z → c ≠ TO → c ≠ i0 → c ≠ i1 → c ≠ i2 → s.heap.get? c = some o → h'.get? c = some o) → Q (some (.ref s.heap.objs.size)) { s with heap := h', toks := tk }) :
    wpAny (model prog w) A (pyNext (.ref z)) Q E s := by
  have hT : s.TypeIs (.ref z) "zip" := ⟨_, hz, rfl⟩
  unfold pyNext
  exact wpAny_bind (wpAny_attempt (wpAny_callSpecial?_slot (name := Str.ofString "__next__") hT F.slot_zip_next
    (wpAny_call_entry F.slot_zip_next hT F.entry_zip_next
      (zip3_next_item N S0 hi hz hTI hTO h0 h1 h2 hl1 hl2 hx hy fun h' v tk a1 a2 a3 a4 a5 a6 a7 a8 a9 => wpAny_pure (hQ h' v tk a1 a2 a3 a4 a5 a6 a7 a8 a9)) (F.args_zip_next_1 _))))
theorem pyNext_zip3_end {z TI TO i0 i1 i2 l1 l2 : Addr} {tx : Str} {t0 : Tok} {Q : Option Value → Shared → Prop} (N : Zip3A z TI TO i0 i1 i2 l1 l2)
    (S0 : Draws prog w A.in1 i0 [i0] tx.cps.size (SignAt tx) (SIt tx t0 i0))
    (hz : IsZip s.heap z TI TO .none) (hTI : IsTrip s.heap TI (.ref i0) (.ref i1) (.ref i2)) (h0 : SIt tx t0 i0 tx.cps.size s.heap)
    (hQ : ∀ h', (∀ c o, c ≠ z → c ≠ i0 → s.heap.get? c = some o → h'.get? c = some o) → Q none { s with heap := h' }) : wpAny (model prog w) A (pyNext (.ref z)) Q E s := by
  have hT : s.TypeIs (.ref z) "zip" := ⟨_, hz, rfl⟩
  unfold pyNext
  refine wpAny_bind (wpAny_attempt (wpAny_callSpecial?_slot (name := Str.ofString "__next__") hT F.slot_zip_next
    (wpAny_call_entry F.slot_zip_next hT F.entry_zip_next (zip3_next_end (a := .none) (b := .none) (c := .none) N S0 hz hTI h0 fun h' e hk he => ?_) (F.args_zip_next_1 _))))
  obtain ⟨o, ho, hc⟩ := he
  refine wpAny_bind (wpAny_isInstance (T := "StopIteration") (b := true) ⟨o, ho, hc⟩ isSubtype_stop ?_)
  exact wpAny_pure (hQ _ hk)
end
abbrev z3a (h : Heap) (x : Str) (t : Tok) : Heap := h.push { cls := .type (strIterType x), data := .fields #[.str x t, .int 0 0] }
abbrev z3b (h : Heap) (x : Str) (t : Tok) (l1 : Addr) : Heap := (z3a h x t).push { cls := .type "list_iterator", data := .fields #[.ref l1, .int 0 0] }
abbrev z3c (h : Heap) (x : Str) (t : Tok) (l1 l2 : Addr) : Heap := (z3b h x t l1).push { cls := .type "list_iterator", data := .fields #[.ref l2, .int 0 0] }
abbrev z3d (h : Heap) (x : Str) (t : Tok) (l1 l2 : Addr) : Heap := (z3c h x t l1 l2).push { cls := .type "tuple", data := .seq #[.ref h.objs.size, .ref (z3a h x t).objs.size, .ref (z3b h x t l1).objs.size] }
abbrev z3e (h : Heap) (x : Str) (t : Tok) (l1 l2 : Addr) : Heap := (z3d h x t l1 l2).push { cls := .type "tuple", data := .seq #[.none, .none, .none] }
abbrev z3f (h : Heap) (x : Str) (t : Tok) (l1 l2 : Addr) : Heap := (z3e h x t l1 l2).push { cls := .type "zip", data := .fields #[.none, .bool false, .bool false, .ref (z3c h x t l1 l2).objs.size, .ref (z3d h x t l1 l2).objs.size] }
theorem meets_zip3_new (x : Str) (t : Tok) (l1 l2 : Addr) (xs ys : Array Value) :
    Meets (Builtin.«zip.__new__» ⟨[.type "zip", .str x t, .ref l1, .ref l2], []⟩) (fun _ R s => s.heap.IsList l1 xs ∧ s.heap.IsList l2 ys ∧
      R (.ok (.ret (.ref (z3e s.heap x t l1 l2).objs.size))) { s with heap := z3f s.heap x t l1 l2 }) :=
  .of_wp fun prog w A R s h => by
    obtain ⟨hp, g, d, tk, os⟩ := s; obtain ⟨hl1, hl2, h⟩ := h
    have hsub := sub_zip
    have hL1 : Heap.IsList (Shared.heap ⟨hp.push { cls := .type (strIterType x), data := .fields #[.str x t, .int 0 0] }, g, d, tk, os⟩) l1 xs := Heap.IsList.push hl1 _
    have hL2 : Heap.IsList (Shared.heap ⟨(hp.push { cls := .type (strIterType x), data := .fields #[.str x t, .int 0 0] }).push { cls := .type "list_iterator", data := .fields #[.ref l1, .int 0 0] }, g, d, tk, os⟩) l2 ys := Heap.IsList.push (Heap.IsList.push hl2 _) _
    wp_walk using wpAny_pyIter_strU, wpAny_pyIter_list hL1, wpAny_pyIter_list hL2
    exact ⟨_, rfl, h⟩
section
variable {prog : Program} {w : World} {A : Around} {E : Value → Shared → Prop} {s : Shared}
theorem call_zip3 {x : Str} {t : Tok} {l1 l2 : Addr} {xs ys : Array Value} {Q : Value → Shared → Prop} (hl1 : s.heap.IsList l1 xs) (hl2 : s.heap.IsList l2 ys)
    (h : ∀ h', IsZip h' (s.heap.objs.size + 5) (s.heap.objs.size + 3) (s.heap.objs.size + 4) .none → IsTrip h' (s.heap.objs.size + 3) (.ref s.heap.objs.size) (.ref (s.heap.objs.size + 1)) (.ref (s.heap.objs.size + 2)) →
      IsTrip h' (s.heap.objs.size + 4) .none .none .none → SIt x t s.heap.objs.size 0 h' → h'.IsListIter (s.heap.objs.size + 1) l1 0 → h'.IsListIter (s.heap.objs.size + 2) l2 0 → h'.objs.size = s.heap.objs.size + 6 →
      (∀ c o, s.heap.get? c = some o → h'.get? c = some o) → Q (.ref (s.heap.objs.size + 5)) { s with heap := h' }) :
    wpAny (model prog w) A (call (.type "zip") [.str x t, .ref l1, .ref l2]) Q E s := by
  refine callType_new F.called_zip (by decide) (typeCall_zip_3 _ _ _) (newCall_zip_3 _ _ _) (fun obj => args_object_init_4 obj _ _ _) F.entry_zip_new
    (meets_zip3_new x t l1 l2 xs ys) ⟨hl1, hl2, ?_⟩
  have z1 : (z3a s.heap x t).objs.size = s.heap.objs.size + 1 := Heap.size_push ..
  have z2 : (z3b s.heap x t l1).objs.size = s.heap.objs.size + 2 := by rw [Heap.size_push, z1]
  have z3 : (z3c s.heap x t l1 l2).objs.size = s.heap.objs.size + 3 := by rw [Heap.size_push, z2]
  have z4 : (z3d s.heap x t l1 l2).objs.size = s.heap.objs.size + 4 := by rw [Heap.size_push, z3]
  have z5 : (z3e s.heap x t l1 l2).objs.size = s.heap.objs.size + 5 := by rw [Heap.size_push, z4]
  have z6 : (z3f s.heap x t l1 l2).objs.size = s.heap.objs.size + 6 := by rw [Heap.size_push, z5]
  have p : ∀ {h : Heap} {o1 o2 : Obj} {a : Addr}, h.get? a = some o1 → (h.push o2).get? a = some o1 := fun e => Heap.get?_push_of_some _ e
  have g6 : (z3f s.heap x t l1 l2).get? (z3e s.heap x t l1 l2).objs.size = some _ := Heap.get?_push_size _ rfl
  have g5 : (z3f s.heap x t l1 l2).get? (z3d s.heap x t l1 l2).objs.size = some _ := p (Heap.get?_push_size _ rfl)
  have g4 : (z3f s.heap x t l1 l2).get? (z3c s.heap x t l1 l2).objs.size = some _ := p (p (Heap.get?_push_size _ rfl))
  have g3 : (z3f s.heap x t l1 l2).get? (z3b s.heap x t l1).objs.size = some _ := p (p (p (Heap.get?_push_size _ rfl)))
  have g2 : (z3f s.heap x t l1 l2).get? (z3a s.heap x t).objs.size = some _ := p (p (p (p (Heap.get?_push_size _ rfl))))
  have g1 : (z3f s.heap x t l1 l2).get? s.heap.objs.size = some _ := p (p (p (p (p (Heap.get?_push_size _ rfl)))))
  show _ ∧ _
  rw [z3, z4, z5] at g6
  rw [z1, z2, z3] at g4
  rw [z4] at g5
  rw [z2] at g3
  rw [z1] at g2
  rw [z5]
  exact ⟨⟨_, g6, rfl⟩, h _ g6 g4 g5 ⟨_, g1, rfl, rfl⟩ ⟨_, g2, rfl, rfl⟩ ⟨_, g3, rfl, rfl⟩ z6 fun c o x => p (p (p (p (p (p x)))))⟩
end
/-- the signs of a text beside the items of two lists of its length -/
def Itz3 (K : PySem.W.Frag) (tx : Str) (a b : Addr) : It :=
  ⟨fun i H => i < tx.cps.size ∧ ∃ (xs ys : List V) (x y : V), SqL K H a xs ∧ SqL K H b ys ∧ xs[i]? = some x ∧ ys[i]? = some y,
    fun i H v H' => ∃ T c x y, v = .ref T ∧ H T = none ∧ H' = upd H T (.tup [.str ⟨#[c]⟩, x, y]) ∧ tx.cps[i]? = some c ∧ (∀ xs, SqL K H a xs → xs[i]? = some x) ∧ ∀ ys, SqL K H b ys → ys[i]? = some y,
    fun i _ => i = tx.cps.size⟩
theorem turn_zip3 {P : Program} {w : World} {K : PySem.W.Frag} {elts : List Expr} {kk : Nat} {tpos : Pos} {tx : Str} {t0 : Tok} {a b z TI TO i0 i1 i2 : Addr} (N : Zip3A z TI TO i0 i1 i2 a b) :
    Turn P w K (.Tuple elts kk tpos) (Itz3 K tx a b) [z, TI, TO, i0, i1, i2] z (fun i h => IsZip h z TI TO .none ∧ IsTrip h TI (.ref i0) (.ref i1) (.ref i2) ∧ (∃ x y v, IsTrip h TO x y v) ∧ SIt tx t0 i0 i h ∧ h.IsListIter i1 a i ∧ h.IsListIter i2 b i) where
  mem := by simp
  obj := fun i h st c hc => by
    obtain ⟨hz, hTI, ⟨x, y, v, hTO⟩, ⟨o0, e0, _, d0⟩, ⟨o1, e1, _, d1⟩, ⟨o2, e2, _, d2⟩⟩ := st
    have e' : c = z ∨ c = TI ∨ c = TO ∨ c = i0 ∨ c = i1 ∨ c = i2 := by simpa using hc
    rcases e' with q | q | q | q | q | q
    · rw [q]; exact ⟨_, hz, fun v q => nomatch q⟩
    · rw [q]; exact ⟨_, hTI, fun v q => nomatch q⟩
    · rw [q]; exact ⟨_, hTO, fun v q => nomatch q⟩
    · rw [q]; exact ⟨o0, e0, fun v q => by rw [d0] at q; cases q⟩
    · rw [q]; exact ⟨o1, e1, fun v q => by rw [d1] at q; cases q⟩
    · rw [q]; exact ⟨o2, e2, fun v q => by rw [d2] at q; cases q⟩
  keep := fun i h h' st k => by
    obtain ⟨hz, hTI, ⟨x, y, v, hTO⟩, ⟨o0, e0, r0⟩, h1, h2⟩ := st
    exact ⟨k z (by simp) _ hz, k TI (by simp) _ hTI, ⟨x, y, v, k TO (by simp) _ hTO⟩, ⟨o0, k i0 (by simp) _ e0, r0⟩, h1.at fun o q => k i1 (by simp) o q, h2.at fun o q => k i2 (by simp) o q⟩
  item := by
    intro X hP hw hK hc i pins s σ H E I hf st hg
    subst hP hw hK
    obtain ⟨hz, hTI, ⟨x0, y0, v0, hTO⟩, h0, h1, h2⟩ := st
    obtain ⟨hi, xs, ys, x, y, hqx, hqy, hx, hy⟩ := hg
    obtain ⟨its, rv, p, _⟩ := I.list hqx
    obtain ⟨its2, rv2, p2, _⟩ := I.list hqy
    obtain ⟨u, hu, ru⟩ := rv.get hx
    obtain ⟨u2, hu2, ru2⟩ := rv2.get hy
    have D := N.D
    have hzl : z < s.heap.objs.size := Heap.lt_size hz
    refine pyNext_zip3_item N (draws_sign (prog := X.prog) (w := X.w) (A := X.A.in1) (I.ok.hd hc) i0 tx t0) hi hz hTI hTO h0 h1 h2 p.isList p2.isList (x := u) (y := u2) (by simpa using hu) (by simpa using hu2) fun h' v tk hv z' TO' h0' h1' h2' hT hsz hk => ?_
    obtain ⟨c, tv, hcx, rfl⟩ := hv
    refine ⟨_, rfl, wpAny_letOwnedTupleGo_zip (s := { s with heap := h', toks := tk }) z' fun h'' z'' sb => ?_⟩
    replace sb : Heap.SameBut z h' h'' := sb
    have hT2 : h''.get? s.heap.objs.size = some { cls := .type "tuple", data := .seq #[.str ⟨#[c]⟩ tv, u, u2] } := (sb.2 _ (Nat.ne_of_gt hzl)).trans hT
    have new : ObjOk X.prog X.w (upd H s.heap.objs.size (.tup [.str ⟨#[c]⟩, x, y])) h'' s.heap.objs.size (.tup [.str ⟨#[c]⟩, x, y]) :=
      ⟨by show 3 ≤ sizeLine; decide, [.str ⟨#[c]⟩ tv, u, u2], .cons ⟨_, rfl⟩ (.cons ru (.cons ru2 .nil)), ⟨_, hT2, rfl, _, rfl⟩⟩
    have I1 : Inv X pins σ (upd H s.heap.objs.size (.tup [.str ⟨#[c]⟩, x, y])) { s with heap := h'', toks := tk } :=
      I.turnedNew (t' := tk) (ch := [z, TI, TO, i0, i1, i2]) (fun c o hb q => (sb.2 c (fun q' => hb (by simp [q']))).trans (hk c o (fun q' => hb (by simp [q'])) (fun q' => hb (by simp [q'])) (fun q' => hb (by simp [q'])) (fun q' => hb (by simp [q'])) (fun q' => hb (by simp [q'])) q)) hf (Nat.le_refl _) new
    refine ⟨.ref s.heap.objs.size, _, I1, rfl, ⟨_, c, x, y, rfl, I.hok.fresh (Nat.le_refl _), rfl, hcx, fun l hl => by rw [I.list_inj hl hqx]; exact hx, fun l hl => by rw [I.list_inj hl hqy]; exact hy⟩, ⟨z'', ?_, ⟨.str ⟨#[c]⟩ tv, u, u2, ?_⟩, ?_, ?_, ?_⟩, fun c hcm => ?_⟩
    · exact (sb.2 _ D.TIz).trans (hk _ _ D.TIz D.TITO N.TIi0 D.TIi1 D.TIi2 hTI)
    · exact (sb.2 _ D.TOz).trans TO'
    · obtain ⟨o0, e0, r0⟩ := h0'; exact ⟨o0, (sb.2 _ N.i0z).trans e0, r0⟩
    · exact h1'.at fun o q => (sb.2 _ D.i1z).trans q
    · exact h2'.at fun o q => (sb.2 _ D.i2z).trans q
    · have hlt : c < s.heap.objs.size := by
        have e' : c = z ∨ c = TI ∨ c = TO ∨ c = i0 ∨ c = i1 ∨ c = i2 := by simpa using hcm
        rcases e' with q | q | q | q | q | q
        · rw [q]; exact hzl
        · rw [q]; exact Heap.lt_size hTI
        · rw [q]; exact Heap.lt_size hTO
        · rw [q]; obtain ⟨_, e0, _⟩ := h0; exact Heap.lt_size e0
        · rw [q]; obtain ⟨_, e1, _⟩ := h1; exact Heap.lt_size e1
        · rw [q]; obtain ⟨_, e2, _⟩ := h2; exact Heap.lt_size e2
      rw [upd_ne (Nat.ne_of_lt hlt)]
      exact (hf c hcm).1
  done := by
    intro X hP hw hK hc i pins s σ H E I hf st hg
    subst hP hw hK
    obtain ⟨hz, hTI, ⟨x0, y0, v0, hTO⟩, h0, h1, h2⟩ := st
    obtain rfl : i = tx.cps.size := hg
    exact pyNext_zip3_end N (draws_sign (prog := X.prog) (w := X.w) (A := X.A.in1) (I.ok.hd hc) i0 tx t0) hz hTI h0 fun h' hk => ⟨rfl, I.turnedL (t' := s.toks) (ch := [z, TI, TO, i0, i1, i2]) (fun c o hb q =>
      hk c o (fun q' => hb (by simp [q'])) (fun q' => hb (by simp [q'])) q) hf⟩
  self := fun A i s Q E st h => wpAny_pyIter_zip st.1 h
def iZip3 (K : PySem.W.Frag) (ta : TA) : TI := fun σ H R => ta σ H fun vs H1 => ∃ tx a b xs ys, vs = [.str tx, .ref a, .ref b] ∧ SqL K H1 a xs ∧ SqL K H1 b ys ∧ R (Itz3 K tx a b) H1
theorem apart3 (I l1 l2 : Nat) (h1 : l1 < I) (h2 : l2 < I) : Zip3A (I + 5) (I + 3) (I + 4) I (I + 1) (I + 2) l1 l2 := by
  refine ⟨⟨?_, ?_, ?_, ?_, ?_, ?_, ?_, ?_, ?_, ?_, ?_, ?_, ?_, ?_, ?_, ?_, ?_, ?_⟩, ?_, ?_, ?_, ?_, ?_, ?_, ?_⟩ <;> (intro (e : _ = (_ : Nat)); omega)
theorem pi_zip3 {X : Cx} {e e2 e3 : Expr} {ta : TA} {p pos tpos : Pos} {elts : List Expr} {kk : Nat} (hg : Gl X "zip") (hm : X.mg "zip" = none) (ha : PA X [e, e2, e3] ta)
    (hs : starEach [e, e2, e3] X.env = (false, eval e X.env) :: starEach [e2, e3] X.env := by rfl) (hpl : (backTo pos (starEach [e2, e3] X.env)).any (·.1) = false := by rfl) :
    PI X (.Tuple elts kk tpos) (.Call (.Name "zip" p) [e, e2, e3] [] pos) (iZip3 X.K ta) := by
  refine ⟨fun pins s σ H R I h => ?_⟩
  refine Call_ (ld_blt I hg hm PyProof.Rows.boot_zip (PyProof.Rows.callWith_type1 (thn (ha.run pos pins s σ H _ I h) fun us s1 ⟨vs, H1, I1, r1, q1⟩ => ?_) hs hpl))
  obtain ⟨tx, a, b, xs, ys, ex, hqx, hqy, q⟩ := q1
  subst ex
  cases r1 with
  | cons r0 rr =>
    cases rr with
    | cons r rr =>
      cases rr with
      | cons r' rr =>
        cases rr
        obtain ⟨t, rfl⟩ := r0
        cases r
        cases r'
        obtain ⟨its, rv, p1, _⟩ := I1.list hqx
        obtain ⟨its2, rv2, p2, _⟩ := I1.list hqy
        have la : a < s1.heap.objs.size := p1.lt
        have lb : b < s1.heap.objs.size := p2.lt
        refine call_zip3 p1.isList p2.isList fun h' hz hTI hTO h0 h1 h2 hsz hk => wpAny_pyIter_zip hz ?_
        have I2 : Inv X pins σ H1 { s1 with heap := h' } := I1.kept (t' := s1.toks) hk
        refine ⟨s1.heap.objs.size + 5, [s1.heap.objs.size + 5, s1.heap.objs.size + 3, s1.heap.objs.size + 4, s1.heap.objs.size, s1.heap.objs.size + 1, s1.heap.objs.size + 2], _, _, H1, rfl, I2, turn_zip3 (tx := tx) (t0 := t) (apart3 s1.heap.objs.size a b la lb), ⟨hz, hTI, ⟨_, _, _, hTO⟩, h0, h1, h2⟩, fun c hcm => ?_, q⟩
        have hle : s1.heap.objs.size ≤ c := by
          have e' : c = s1.heap.objs.size + 5 ∨ c = s1.heap.objs.size + 3 ∨ c = s1.heap.objs.size + 4 ∨ c = s1.heap.objs.size ∨ c = s1.heap.objs.size + 1 ∨ c = s1.heap.objs.size + 2 := by simpa using hcm
          rcases e' with z | z | z | z | z | z
          · rw [z]; exact Nat.le_add_right _ _
          · rw [z]; exact Nat.le_add_right _ _
          · rw [z]; exact Nat.le_add_right _ _
          · rw [z]; exact Nat.le_refl _
          · rw [z]; exact Nat.le_add_right _ _
          · rw [z]; exact Nat.le_add_right _ _
        exact I1.fpOk hle (I1.hok.fresh hle)
/-! zip(a list, a list), its item in one name -/
abbrev IsZipF (h : Heap) (z TI TO : Addr) (f0 : Value) (f : Bool) : Prop :=
  h.get? z = some { cls := .type "zip", dict := none, data := .fields #[f0, .bool f, .bool false, .ref TI, .ref TO], slots := #[] }
section
variable {prog : Program} {w : World} {A : Around} {E : Value → Shared → Prop} {s : Shared}
theorem kdx_dead {T : Addr} {Q : Option Obj → Shared → Prop} (hT : s.heap.get? T = none) (h : Q none s) : wpAny (model prog w) A (loadIfAlive T) Q E s := by
  have h' : Q (s.heap.get? T) s := by rw [hT]; exact h
  exact fun _ _ _ => h'
theorem kdx_live {T : Addr} {o : Obj} {Q : Option Obj → Shared → Prop} (hT : s.heap.get? T = some o) (h : Q (some o) s) : wpAny (model prog w) A (loadIfAlive T) Q E s := by
  have h' : Q (s.heap.get? T) s := by rw [hT]; exact h
  exact fun _ _ _ => h'
def Own (v : Value) : Prop := v = .none ∨ ∃ T : Nat, v = rawInt (T : Int)
theorem own_free {z TI TO : Addr} {f0 : Value} {f : Bool} {Q : Bool → Shared → Prop} (o : Own f0) (hz : IsZipF s.heap z TI TO f0 f) (h1 : Q true s)
    (h2 : ∀ h', IsZipF h' z TI TO f0 true → Heap.SameBut z s.heap h' → Q false { s with heap := h' }) : wpAny (model prog w) A (Builtin.SmallTypes.ownedTupleIsFree (.ref z)) Q E s := by
  unfold Builtin.SmallTypes.ownedTupleIsFree
  rcases o with rfl | ⟨T, rfl⟩
  · exact wpAny_bind (wpAny_field hz rfl (x := .none) rfl (wpAny_pure h1))
  · refine wpAny_bind (wpAny_field hz rfl (x := rawInt T) rfl ?_)
    show wpAny _ _ (loadIfAlive ((T : Int).toNat) >>= _) _ _ _
    rw [Int.toNat_natCast]
    cases hT : s.heap.get? T with
    | none =>
      refine wpAny_bind (kdx_dead hT ?_)
      simp only [Option.isNone_none, if_true]
      exact wpAny_pure h1
    | some oT =>
      refine wpAny_bind (kdx_live hT ?_)
      simp only [Option.isNone_some, Bool.false_eq_true, if_false]
      refine wpAny_bind (wpAny_field hz rfl (x := .bool f) rfl ?_)
      cases f with
      | true =>
        rw [if_neg (show ¬ ((Value.bool true != Value.bool true) = true) from Bool.false_ne_true)]
        exact wpAny_pure (h2 s.heap hz (Heap.SameBut.refl _ _))
      | false =>
        rw [if_pos (show (Value.bool false != Value.bool true) = true from rfl)]
        exact wpAny_bind (wpAny_setField_rec hz (by simp) fun h₁ hz₁ hs₁ => wpAny_pure (h2 h₁ hz₁ hs₁))
theorem zipN_next_item {z TI TO i1 i2 l1 l2 : Addr} {f0 : Value} {f : Bool} {k1 k2 : Nat} {xs ys : Array Value} {x y a b : Value} {Q : Value → Shared → Prop} (D : ZipApart z TI TO i1 i2 l1 l2)
    (o : Own f0) (hz : IsZipF s.heap z TI TO f0 f) (hTI : IsPair s.heap TI (.ref i1) (.ref i2)) (hTO : IsPair s.heap TO a b)
    (h1 : s.heap.IsListIter i1 l1 k1) (h2 : s.heap.IsListIter i2 l2 k2) (hl1 : s.heap.IsList l1 xs) (hl2 : s.heap.IsList l2 ys) (hx : xs[k1]? = some x) (hy : ys[k2]? = some y)
    (hQ : ∀ h' f0' f' a' b', Own f0' → IsZipF h' z TI TO f0' f' → IsPair h' TO a' b' → h'.IsListIter i1 l1 (k1 + 1) → h'.IsListIter i2 l2 (k2 + 1) → IsPair h' s.heap.objs.size x y → h'.objs.size = s.heap.objs.size + 1 →
      (∀ c o, c ≠ z → c ≠ TO → c ≠ i1 → c ≠ i2 → s.heap.get? c = some o → h'.get? c = some o) → Q (.ref s.heap.objs.size) { s with heap := h' }) :
    wpAny (model prog w) A (Builtin.«zip.__next__» ⟨[.ref z], []⟩) (fun fin s' => ∃ v, fin = .done (.ret v) ∧ Q v s') E s := by
  show wpAny _ _ (field (.ref z) 2 >>= _) _ _ _
  refine wpAny_bind (wpAny_field hz rfl (x := .bool false) rfl ?_)
  show wpAny _ _ (field (.ref z) 3 >>= _) _ _ _
  refine wpAny_bind (wpAny_field hz rfl (x := .ref TI) rfl ?_)
  refine wpAny_bind (wpAny_seqItems hTI rfl ?_)
  show wpAny _ _ (Builtin.SmallTypes.ownedTupleIsFree (.ref z) >>= _) _ _ _
  refine wpAny_bind (own_free o hz ?_ fun h₁ hz₁ hs₁ => ?_)
  · simp only [if_true]
    refine wpAny_bind (wpAny_rule ?_)
    refine wpAny_bind (wpAny_field hz rfl (x := .ref TO) rfl ?_)
    refine wpAny_bind (wpAny_setField_rec hz (by simp) fun h₁ hz₁ hs₁ => ?_)
    replace hz₁ : IsZipF h₁ z TI TO .ellipsis f := hz₁
    refine wpAny_bind ?_
    simp only [List.zipIdx_cons, List.zipIdx_nil, List.forIn_cons, List.forIn_nil]
    refine wpAny_bind (wpAny_bind (wpAny_onRaise ?_))
    show wpAny _ _ (Builtin.SmallTypes.nextOf (.ref i1) >>= _) _ _ _
    refine wpAny_bind (wpAny_nextOf_list_item (h1.extBut hs₁.extBut D.i1z) (hl1.extBut hs₁.extBut D.l1z) hx fun h₂ h1₂ hs₂ => wpAny_pure ?_)
    have hTO₂ : IsPair h₂ TO a b := hs₂.extBut _ _ D.TOi1 (hs₁.extBut _ _ D.TOz hTO)
    refine wpAny_bind (wpAny_seqItems hTO₂ rfl ?_)
    refine wpAny_bind (wpAny_updateSeq_pair hTO₂ fun h₃ hTO₃ hs₃ => ?_)
    replace hTO₃ : IsPair h₃ TO x b := hTO₃
    refine wpAny_bind (wpAny_letGo (wpAny_pure ?_))
    refine wpAny_bind (wpAny_bind (wpAny_onRaise ?_))
    show wpAny _ _ (Builtin.SmallTypes.nextOf (.ref i2) >>= _) _ _ _
    refine wpAny_bind (wpAny_nextOf_list_item (((h2.extBut hs₁.extBut D.i2z).extBut hs₂.extBut D.i12.symm).extBut hs₃.extBut D.TOi2.symm)
      (((hl2.extBut hs₁.extBut D.l2z).extBut hs₂.extBut D.l2i1).extBut hs₃.extBut D.l2TO) hy fun h₄ h2₄ hs₄ => wpAny_pure ?_)
    have hTO₄ : IsPair h₄ TO x b := hs₄.extBut _ _ D.TOi2 hTO₃
    refine wpAny_bind (wpAny_seqItems hTO₄ rfl ?_)
    refine wpAny_bind (wpAny_updateSeq_pair hTO₄ fun h₅ hTO₅ hs₅ => ?_)
    replace hTO₅ : IsPair h₅ TO x y := hTO₅
    refine wpAny_bind (wpAny_letGo (wpAny_pure (wpAny_pure ?_)))
    refine wpAny_bind (wpAny_seqItems hTO₅ rfl ?_)
    refine wpAny_bind (wpAny_newTuple ?_)
    have hsz : h₅.objs.size = s.heap.objs.size := by rw [hs₅.1, hs₄.1, hs₃.1, hs₂.1, hs₁.1]
    have hz₅ : IsZipF h₅ z TI TO .ellipsis f := hs₅.extBut _ _ D.TOz.symm (hs₄.extBut _ _ D.i2z.symm (hs₃.extBut _ _ D.TOz.symm (hs₂.extBut _ _ D.i1z.symm hz₁)))
    have hk₅ : ∀ c o, c ≠ z → c ≠ TO → c ≠ i1 → c ≠ i2 → s.heap.get? c = some o → h₅.get? c = some o := fun c o c1 c2 c3 c4 e =>
      hs₅.extBut _ _ c2 (hs₄.extBut _ _ c4 (hs₃.extBut _ _ c2 (hs₂.extBut _ _ c3 (hs₁.extBut _ _ c1 e))))
    have h1₅ : h₅.IsListIter i1 l1 (k1 + 1) := ((h1₂.extBut hs₃.extBut D.TOi1.symm).extBut hs₄.extBut D.i12).extBut hs₅.extBut D.TOi1.symm
    have h2₅ : h₅.IsListIter i2 l2 (k2 + 1) := h2₄.extBut hs₅.extBut D.TOi2.symm
    have hzlt : z < h₅.objs.size := Heap.lt_size hz₅
    show wpAny _ _ (Builtin.SmallTypes.ownedTupleHandOut (.ref z) (.ref h₅.objs.size) >>= _) _ _ _
    refine wpAny_bind ?_
    unfold Builtin.SmallTypes.ownedTupleHandOut
    have hz₆ : IsZipF (h₅.push { cls := .type "tuple", data := .seq #[x, y] }) z TI TO .ellipsis f := Heap.get?_push_of_some _ hz₅
    refine wpAny_bind (wpAny_setField_rec hz₆ (by simp) fun h₇ hz₇ hs₇ => ?_)
    replace hz₇ : IsZipF h₇ z TI TO (rawInt h₅.objs.size) f := hz₇
    refine wpAny_setField_rec hz₇ (by simp) fun h₈ hz₈ hs₈ => ?_
    replace hz₈ : IsZipF h₈ z TI TO (rawInt h₅.objs.size) false := hz₈
    have up : ∀ c o, c ≠ z → h₅.get? c = some o → h₈.get? c = some o := fun c o c1 e => hs₈.extBut _ _ c1 (hs₇.extBut _ _ c1 (Heap.get?_push_of_some _ e))
    have hT₈ : IsPair h₈ h₅.objs.size x y := hs₈.extBut _ _ (Nat.ne_of_gt hzlt) (hs₇.extBut _ _ (Nat.ne_of_gt hzlt) (Heap.get?_push_size _ rfl))
    have hz8 : h₈.objs.size = h₅.objs.size + 1 := by rw [hs₈.1, hs₇.1, Heap.size_push]
    rw [hsz] at hz₈ hT₈ hz8
    refine wpAny_pure ⟨_, rfl, ?_⟩
    show Q (.ref h₅.objs.size) _
    rw [hsz]
    exact hQ h₈ _ _ _ _ (.inr ⟨_, rfl⟩) hz₈ (up _ _ D.TOz hTO₅) (h1₅.at fun o e => up _ o D.i1z e) (h2₅.at fun o e => up _ o D.i2z e) hT₈ hz8 fun c o c1 c2 c3 c4 e => up c o c1 (hk₅ c o c1 c2 c3 c4 e)
  · simp only [Bool.false_eq_true, if_false]
    refine wpAny_bind ?_
    rw [← Array.forIn_toList]
    simp only [List.forIn_cons, List.forIn_nil]
    refine wpAny_bind (wpAny_bind (wpAny_holding ?_))
    show wpAny _ _ (Builtin.SmallTypes.nextOf (.ref i1) >>= _) _ _ _
    refine wpAny_bind (wpAny_nextOf_list_item (s := { s with heap := h₁ }) (h1.extBut hs₁.extBut D.i1z) (hl1.extBut hs₁.extBut D.l1z) hx fun h₂ h1₂ hs₂ => wpAny_pure ?_)
    refine wpAny_pure ?_
    refine wpAny_bind (wpAny_bind (wpAny_holding ?_))
    show wpAny _ _ (Builtin.SmallTypes.nextOf (.ref i2) >>= _) _ _ _
    refine wpAny_bind (wpAny_nextOf_list_item (s := { s with heap := h₂ }) ((h2.extBut hs₁.extBut D.i2z).extBut hs₂.extBut D.i12.symm) ((hl2.extBut hs₁.extBut D.l2z).extBut hs₂.extBut D.l2i1) hy fun h₃ h2₃ hs₃ => wpAny_pure ?_)
    refine wpAny_pure (wpAny_pure ?_)
    show wpAny _ _ (newTuple [x, y] >>= _) _ _ _
    refine wpAny_bind (wpAny_newTuple ?_)
    have hsz : h₃.objs.size = s.heap.objs.size := by rw [hs₃.1, hs₂.1, hs₁.1]
    have hz₃ : IsZipF h₃ z TI TO f0 true := hs₃.extBut _ _ D.i2z.symm (hs₂.extBut _ _ D.i1z.symm hz₁)
    have hk : ∀ c o, c ≠ z → c ≠ i1 → c ≠ i2 → s.heap.get? c = some o → h₃.get? c = some o := fun c o c1 c2 c3 e => hs₃.extBut _ _ c3 (hs₂.extBut _ _ c2 (hs₁.extBut _ _ c1 e))
    have h1₃ : h₃.IsListIter i1 l1 (k1 + 1) := h1₂.extBut hs₃.extBut D.i12
    have hTO₃ : IsPair h₃ TO a b := hk _ _ D.TOz D.TOi1 D.TOi2 hTO
    refine wpAny_pure ⟨_, rfl, ?_⟩
    show Q (.ref h₃.objs.size) _
    have hp : IsPair (h₃.push { cls := .type "tuple", data := .seq #[x, y] }) h₃.objs.size x y := Heap.get?_push_size _ rfl
    have hz4 : (h₃.push { cls := .type "tuple", data := .seq #[x, y] }).objs.size = h₃.objs.size + 1 := Heap.size_push ..
    rw [hsz] at hp hz4 ⊢
    exact hQ _ _ _ _ _ o (Heap.get?_push_of_some _ hz₃) (Heap.get?_push_of_some _ hTO₃) (h1₃.at fun o e => Heap.get?_push_of_some _ e) (h2₃.at fun o e => Heap.get?_push_of_some _ e) hp hz4 fun c o c1 _ c2 c3 e => Heap.get?_push_of_some _ (hk c o c1 c2 c3 e)
theorem zipN_next_end {z TI TO i1 i2 l1 l2 : Addr} {f0 : Value} {f : Bool} {k1 k2 : Nat} {xs ys : Array Value} {Q : Fin → Shared → Prop} (hh : A.handled = none) (D : ZipApart z TI TO i1 i2 l1 l2)
    (o : Own f0) (hz : IsZipF s.heap z TI TO f0 f) (hTI : IsPair s.heap TI (.ref i1) (.ref i2))
    (h1 : s.heap.IsListIter i1 l1 k1) (hl1 : s.heap.IsList l1 xs) (hx : xs[k1]? = none)
    (hE : ∀ h' e, (∀ c o, c ≠ z → c ≠ i1 → s.heap.get? c = some o → h'.get? c = some o) → (∃ o, h'.get? e = some o ∧ o.cls = .type "StopIteration") → E (.ref e) { s with heap := h' }) :
    wpAny (model prog w) A (Builtin.«zip.__next__» ⟨[.ref z], []⟩) Q E s := by
  show wpAny _ _ (field (.ref z) 2 >>= _) _ _ _
  refine wpAny_bind (wpAny_field hz rfl (x := .bool false) rfl ?_)
  show wpAny _ _ (field (.ref z) 3 >>= _) _ _ _
  refine wpAny_bind (wpAny_field hz rfl (x := .ref TI) rfl ?_)
  refine wpAny_bind (wpAny_seqItems hTI rfl ?_)
  show wpAny _ _ (Builtin.SmallTypes.ownedTupleIsFree (.ref z) >>= _) _ _ _
  refine wpAny_bind (own_free o hz ?_ fun h₁ hz₁ hs₁ => ?_)
  · simp only [if_true]
    refine wpAny_bind (wpAny_rule ?_)
    refine wpAny_bind (wpAny_field hz rfl (x := .ref TO) rfl ?_)
    refine wpAny_bind (wpAny_setField_rec hz (by simp) fun h₁ hz₁ hs₁ => ?_)
    replace hz₁ : IsZipF h₁ z TI TO .ellipsis f := hz₁
    refine wpAny_bind ?_
    simp only [List.zipIdx_cons, List.zipIdx_nil, List.forIn_cons, List.forIn_nil]
    refine wpAny_bind (wpAny_bind (wpAny_onRaise ?_))
    show wpAny _ _ (Builtin.SmallTypes.nextOf (.ref i1) >>= _) _ _ _
    refine wpAny_bind (wpAny_nextOf_list_end hh (h1.extBut hs₁.extBut D.i1z) (hl1.extBut hs₁.extBut D.l1z) hx fun h₂ e hs₂ he => ?_)
    obtain ⟨oe, hoe, hce⟩ := he
    have hz₂ : IsZipF h₂ z TI TO .ellipsis f := hs₂ _ _ D.i1z.symm hz₁
    have hez : e ≠ z := fun x => by subst x; rw [hz₂] at hoe; cases hoe; simp at hce
    exact wpAny_setField_rec hz₂ (by simp) fun h₃ _ hs₃ => hE h₃ e (fun c o c1 c3 x => hs₃.extBut _ _ c1 (hs₂ _ _ c3 (hs₁.extBut _ _ c1 x))) ⟨oe, hs₃.extBut _ _ hez hoe, hce⟩
  · simp only [Bool.false_eq_true, if_false]
    refine wpAny_bind ?_
    rw [← Array.forIn_toList]
    simp only [List.forIn_cons, List.forIn_nil]
    refine wpAny_bind (wpAny_bind (wpAny_holding ?_))
    show wpAny _ _ (Builtin.SmallTypes.nextOf (.ref i1) >>= _) _ _ _
    refine wpAny_bind (wpAny_nextOf_list_end (s := { s with heap := h₁ }) hh (h1.extBut hs₁.extBut D.i1z) (hl1.extBut hs₁.extBut D.l1z) hx fun h₂ e hs₂ he => ?_)
    exact hE h₂ e (fun c o c1 c2 x => hs₂ _ _ c2 (hs₁.extBut _ _ c1 x)) he
theorem pyNext_zipN_item {z TI TO i1 i2 l1 l2 : Addr} {f0 : Value} {f : Bool} {k1 k2 : Nat} {xs ys : Array Value} {x y a b : Value} {Q : Option Value → Shared → Prop} (D : ZipApart z TI TO i1 i2 l1 l2)
    (o : Own f0) (hz : IsZipF s.heap z TI TO f0 f) (hTI : IsPair s.heap TI (.ref i1) (.ref i2)) (hTO : IsPair s.heap TO a b)
    (h1 : s.heap.IsListIter i1 l1 k1) (h2 : s.heap.IsListIter i2 l2 k2) (hl1 : s.heap.IsList l1 xs) (hl2 : s.heap.IsList l2 ys) (hx : xs[k1]? = some x) (hy : ys[k2]? = some y)
    (hQ : ∀ h' f0' f' a' b', Own f0' → IsZipF h' z TI TO f0' f' → IsPair h' TO a' b' → h'.IsListIter i1 l1 (k1 + 1) → h'.IsListIter i2 l2 (k2 + 1) → IsPair h' s.heap.objs.size x y → h'.objs.size = s.heap.objs.size + 1 →
      (∀ c o, c ≠ z → c ≠ TO → c ≠ i1 → c ≠ i2 → s.heap.get? c = some o → h'.get? c = some o) → Q (some (.ref s.heap.objs.size)) { s with heap := h' }) :
    wpAny (model prog w) A (pyNext (.ref z)) Q E s := by
  have hT : s.TypeIs (.ref z) "zip" := ⟨_, hz, rfl⟩
  unfold pyNext
  exact wpAny_bind (wpAny_attempt (wpAny_callSpecial?_slot (name := Str.ofString "__next__") hT F.slot_zip_next
    (wpAny_call_entry F.slot_zip_next hT F.entry_zip_next
      (zipN_next_item D o hz hTI hTO h1 h2 hl1 hl2 hx hy fun h' g0 g a' b' a0 a1 a2 a3 a4 a5 a6 a7 => wpAny_pure (hQ h' g0 g a' b' a0 a1 a2 a3 a4 a5 a6 a7)) (F.args_zip_next_1 _))))
theorem pyNext_zipN_end {z TI TO i1 i2 l1 l2 : Addr} {f0 : Value} {f : Bool} {k1 k2 : Nat} {xs ys : Array Value} {Q : Option Value → Shared → Prop} (hh : A.handled = none) (D : ZipApart z TI TO i1 i2 l1 l2)
    (o : Own f0) (hz : IsZipF s.heap z TI TO f0 f) (hTI : IsPair s.heap TI (.ref i1) (.ref i2))
    (h1 : s.heap.IsListIter i1 l1 k1) (hl1 : s.heap.IsList l1 xs) (hx : xs[k1]? = none)
    (hQ : ∀ h', (∀ c o, c ≠ z → c ≠ i1 → s.heap.get? c = some o → h'.get? c = some o) → Q none { s with heap := h' }) : wpAny (model prog w) A (pyNext (.ref z)) Q E s := by
  have hT : s.TypeIs (.ref z) "zip" := ⟨_, hz, rfl⟩
  unfold pyNext
  refine wpAny_bind (wpAny_attempt (wpAny_callSpecial?_slot (name := Str.ofString "__next__") hT F.slot_zip_next
    (wpAny_call_entry F.slot_zip_next hT F.entry_zip_next (zipN_next_end (ys := xs) (k2 := k1) hh D o hz hTI h1 hl1 hx fun h' e hk he => ?_) (F.args_zip_next_1 _))))
  obtain ⟨o, ho, hc⟩ := he
  refine wpAny_bind (wpAny_isInstance (T := "StopIteration") (b := true) ⟨o, ho, hc⟩ isSubtype_stop ?_)
  exact wpAny_pure (hQ _ hk)
theorem iter_zipF {z TI TO : Addr} {f0 : Value} {f : Bool} {Q : Value → Shared → Prop} (hz : IsZipF s.heap z TI TO f0 f) (h : Q (.ref z) s) : wpAny (model prog w) A (pyIter (.ref z)) Q E s := by
  have hT : s.TypeIs (.ref z) "zip" := ⟨_, hz, rfl⟩
  refine wpAny_pyIter_slot hT F.slot_zip_iter (wpAny_call_entry F.slot_zip_iter hT F.entry_zip_iter ?_ (F.args_zip_iter_1 _))
  show wpAny _ _ (ret (.ref z)) _ _ s
  exact wpAny_pure ⟨_, rfl, "zip", _, hT, F.slot_zip_next.lookup, h⟩
end
/-- the lists at a and b, of one length, as they stand at each turn, the items in new pairs -/
def ItzN (K : PySem.W.Frag) (a b : Addr) : It :=
  ⟨fun i H => ∃ (xs ys : List V) (x y : V), SqL K H a xs ∧ SqL K H b ys ∧ xs[i]? = some x ∧ ys[i]? = some y,
    fun i H v H' => ∃ T x y, v = .ref T ∧ H T = none ∧ H' = upd H T (.tup [x, y]) ∧ (∀ xs, SqL K H a xs → xs[i]? = some x) ∧ ∀ ys, SqL K H b ys → ys[i]? = some y,
    fun i H => ∃ xs ys : List V, SqL K H a xs ∧ SqL K H b ys ∧ xs.length ≤ i⟩
theorem turn_zipN {P : Program} {w : World} {K : PySem.W.Frag} {nx : Str} {np : Pos} {a b z TI TO i1 i2 : Addr} (D : ZipApart z TI TO i1 i2 a b) :
    Turn P w K (.Name nx np) (ItzN K a b) [z, TI, TO, i1, i2] z (fun i h => (∃ f0 f, Own f0 ∧ IsZipF h z TI TO f0 f) ∧ IsPair h TI (.ref i1) (.ref i2) ∧ (∃ x y, IsPair h TO x y) ∧ h.IsListIter i1 a i ∧ h.IsListIter i2 b i) where
  mem := by simp
  obj := fun i h st c hc => by
    obtain ⟨⟨f0, f, _, hz⟩, hTI, ⟨x, y, hTO⟩, ⟨o1, e1, _, d1⟩, ⟨o2, e2, _, d2⟩⟩ := st
    have e' : c = z ∨ c = TI ∨ c = TO ∨ c = i1 ∨ c = i2 := by simpa using hc
    rcases e' with q | q | q | q | q
    · rw [q]; exact ⟨_, hz, fun v q => nomatch q⟩
    · rw [q]; exact ⟨_, hTI, fun v q => nomatch q⟩
    · rw [q]; exact ⟨_, hTO, fun v q => nomatch q⟩
    · rw [q]; exact ⟨o1, e1, fun v q => by rw [d1] at q; cases q⟩
    · rw [q]; exact ⟨o2, e2, fun v q => by rw [d2] at q; cases q⟩
  keep := fun i h h' st k => by
    obtain ⟨⟨f0, f, o, hz⟩, hTI, ⟨x, y, hTO⟩, h1, h2⟩ := st
    exact ⟨⟨f0, f, o, k z (by simp) _ hz⟩, k TI (by simp) _ hTI, ⟨x, y, k TO (by simp) _ hTO⟩, h1.at fun o q => k i1 (by simp) o q, h2.at fun o q => k i2 (by simp) o q⟩
  item := by
    intro X hP hw hK hc i pins s σ H E I hf st hg
    subst hP hw hK
    obtain ⟨⟨f0, f, o, hz⟩, hTI, ⟨x0, y0, hTO⟩, h1, h2⟩ := st
    obtain ⟨xs, ys, x, y, hqx, hqy, hx, hy⟩ := hg
    obtain ⟨its, rv, p, _⟩ := I.list hqx
    obtain ⟨its2, rv2, p2, _⟩ := I.list hqy
    obtain ⟨u, hu, ru⟩ := rv.get hx
    obtain ⟨u2, hu2, ru2⟩ := rv2.get hy
    have hzl : z < s.heap.objs.size := Heap.lt_size hz
    refine pyNext_zipN_item D o hz hTI hTO h1 h2 p.isList p2.isList (x := u) (y := u2) (by simpa using hu) (by simpa using hu2) fun h' g0 g a' b' o' z' TO' h1' h2' hT hsz hk => ?_
    refine ⟨_, rfl, ?_⟩
    unfold letOwnedTupleGo
    refine wpAny_pure ?_
    have new : ObjOk X.prog X.w (upd H s.heap.objs.size (.tup [x, y])) h' s.heap.objs.size (.tup [x, y]) :=
      ⟨by show 2 ≤ sizeLine; decide, [u, u2], .cons ru (.cons ru2 .nil), ⟨_, hT, rfl, _, rfl⟩⟩
    have I1 : Inv X pins σ (upd H s.heap.objs.size (.tup [x, y])) { s with heap := h' } :=
      I.turnedNew (t' := s.toks) (ch := [z, TI, TO, i1, i2]) (fun c o hb q => hk c o (fun q' => hb (by simp [q'])) (fun q' => hb (by simp [q'])) (fun q' => hb (by simp [q'])) (fun q' => hb (by simp [q'])) q) hf (Nat.le_refl _) new
    refine ⟨.ref s.heap.objs.size, _, I1, rfl, ⟨_, x, y, rfl, I.hok.fresh (Nat.le_refl _), rfl, fun l hl => by rw [I.list_inj hl hqx]; exact hx, fun l hl => by rw [I.list_inj hl hqy]; exact hy⟩, ⟨⟨g0, g, o', z'⟩, ?_, ⟨a', b', TO'⟩, h1', h2'⟩, fun c hcm => ?_⟩
    · exact hk _ _ D.TIz D.TITO D.TIi1 D.TIi2 hTI
    · have hlt : c < s.heap.objs.size := by
        have e' : c = z ∨ c = TI ∨ c = TO ∨ c = i1 ∨ c = i2 := by simpa using hcm
        rcases e' with q | q | q | q | q
        · rw [q]; exact hzl
        · rw [q]; exact Heap.lt_size hTI
        · rw [q]; exact Heap.lt_size hTO
        · rw [q]; obtain ⟨_, e1, _⟩ := h1; exact Heap.lt_size e1
        · rw [q]; obtain ⟨_, e2, _⟩ := h2; exact Heap.lt_size e2
      rw [upd_ne (Nat.ne_of_lt hlt)]
      exact (hf c hcm).1
  done := by
    intro X hP hw hK hc i pins s σ H E I hf st hg
    subst hP hw hK
    obtain ⟨⟨f0, f, o, hz⟩, hTI, ⟨x0, y0, hTO⟩, h1, h2⟩ := st
    obtain ⟨xs, ys, hqx, hqy, hend⟩ := hg
    obtain ⟨its, rv, p, _⟩ := I.list hqx
    have l1 := rv.length
    exact pyNext_zipN_end (ys := its.toArray) (k2 := 0) (I.ok.hd hc) D o hz hTI h1 p.isList (by simp; omega) fun h' hk => ⟨rfl, I.turnedL (t' := s.toks) (ch := [z, TI, TO, i1, i2]) (fun c o hb q =>
      hk c o (fun q' => hb (by simp [q'])) (fun q' => hb (by simp [q'])) q) hf⟩
  self := fun A i s Q E st h => let ⟨⟨_, _, _, hz⟩, _⟩ := st; iter_zipF hz h
def iZipN (K : PySem.W.Frag) (ta : TA) : TI := fun σ H R => ta σ H fun vs H1 => ∃ a b xs ys, vs = [.ref a, .ref b] ∧ SqL K H1 a xs ∧ SqL K H1 b ys ∧ R (ItzN K a b) H1
theorem pi_zipN {X : Cx} {e e2 : Expr} {ta : TA} {nx : Str} {np p pos : Pos} (hg : Gl X "zip") (hm : X.mg "zip" = none) (ha : PA X [e, e2] ta)
    (hs : starEach [e, e2] X.env = (false, eval e X.env) :: starEach [e2] X.env := by rfl) (hpl : (backTo pos (starEach [e2] X.env)).any (·.1) = false := by rfl) :
    PI X (.Name nx np) (.Call (.Name "zip" p) [e, e2] [] pos) (iZipN X.K ta) := by
  refine ⟨fun pins s σ H R I h => ?_⟩
  refine Call_ (ld_blt I hg hm PyProof.Rows.boot_zip (PyProof.Rows.callWith_type1 (thn (ha.run pos pins s σ H _ I h) fun us s1 ⟨vs, H1, I1, r1, q1⟩ => ?_) hs hpl))
  obtain ⟨a, b, xs, ys, ex, hqx, hqy, q⟩ := q1
  subst ex
  cases r1 with
  | cons r rr =>
    cases rr with
    | cons r' rr =>
      cases rr
      cases r
      cases r'
      obtain ⟨its, rv, p1, _⟩ := I1.list hqx
      obtain ⟨its2, rv2, p2, _⟩ := I1.list hqy
      have la : a < s1.heap.objs.size := p1.lt
      have lb : b < s1.heap.objs.size := p2.lt
      refine call_zip_2 p1.isList p2.isList fun h' hz hTI hTO h1 h2 hsz hk => wpAny_pyIter_zip hz ?_
      have I2 : Inv X pins σ H1 { s1 with heap := h' } := I1.kept (t' := s1.toks) hk
      refine ⟨s1.heap.objs.size + 4, [s1.heap.objs.size + 4, s1.heap.objs.size + 2, s1.heap.objs.size + 3, s1.heap.objs.size, s1.heap.objs.size + 1], _, _, H1, rfl, I2, turn_zipN (PySem.W.ktu_apart s1.heap.objs.size a b la lb), ⟨⟨_, _, .inl rfl, hz⟩, hTI, ⟨_, _, hTO⟩, h1, h2⟩, fun c hcm => ?_, q⟩
      have hle : s1.heap.objs.size ≤ c := by
        have e' : c = s1.heap.objs.size + 4 ∨ c = s1.heap.objs.size + 2 ∨ c = s1.heap.objs.size + 3 ∨ c = s1.heap.objs.size ∨ c = s1.heap.objs.size + 1 := by simpa using hcm
        rcases e' with z | z | z | z | z
        · rw [z]; exact Nat.le_add_right _ _
        · rw [z]; exact Nat.le_add_right _ _
        · rw [z]; exact Nat.le_add_right _ _
        · rw [z]; exact Nat.le_refl _
        · rw [z]; exact Nat.le_add_right _ _
      exact I1.fpOk hle (I1.hok.fresh hle)
end GE
set_option Elab.async false
set_option linter.all false
set_option maxRecDepth 100000
set_option maxHeartbeats 8000000
namespace Bo
open PySem PySem.Spec PyProof.Rows L2 GE
/-! the letters -/
theorem unlike_full {a : Str} : ∀ {n : Nat}, unlike a n = n → ∀ i, i < n → seenS a i (sig a i) = false
  | 0, _, i, h => by omega
  | n + 1, e, i, h => by
    have hle := unlike_le a n
    have e' : (if seenS a n (sig a n) = true then unlike a n else unlike a n + 1) = n + 1 := e
    by_cases hs : seenS a n (sig a n) = true
    · rw [if_pos hs] at e'; omega
    · rw [if_neg hs] at e'
      by_cases hi : i = n
      · subst hi; simpa using hs
      · exact unlike_full (n := n) (by omega) i (by omega)
theorem seen_false {a : Str} {k : Str} : ∀ {i : Nat}, seenS a i k = false → ∀ j, j < i → k ≠ sig a j
  | 0, _, j, h => by omega
  | i + 1, e, j, h => by
    have e' : (seenS a i k || decide (k = sig a i)) = false := e
    rw [Bool.or_eq_false_iff, decide_eq_false_iff_not] at e'
    by_cases hj : j = i
    · subst hj; exact e'.2
    · exact seen_false e'.1 j (by omega)
theorem good_nd {L : Str} (h : goodS L = true) : (cds L).Nodup := by
  unfold goodS at h
  simp only [Bool.and_eq_true, decide_eq_true_eq] at h
  have hu := unlike_full h.2
  have hl : (cds L).length = L.cps.size := Array.length_toList
  have hg : ∀ i (hi : i < (cds L).length), sig L i = sgn (cds L)[i] := fun i hi => by
    unfold sig sgn
    congr 2
    simp [Array.getD, hl ▸ hi]
  refine List.pairwise_iff_getElem.mpr fun i j hi hj hij e => ?_
  have h1 := seen_false (hu j (by omega)) i hij
  rw [hg i hi, hg j hj, e] at h1
  exact h1 rfl
/-- the letter of a number -/
def lt (L : Str) (k : Nat) : Nat := (cds L).getD k 0
theorem lt_get {L : Str} {k : Nat} (h : k < (cds L).length) : (cds L)[k]? = some (lt L k) := by
  unfold lt
  rw [List.getD_eq_getElem?_getD, List.getElem?_eq_getElem h]; rfl
theorem lt_mem {L : Str} {k : Nat} (h : k < (cds L).length) : lt L k ∈ cds L := List.mem_of_getElem? (lt_get h)
theorem lt_inj {L : Str} (hL : goodS L = true) {j k : Nat} (hj : j < (cds L).length) (hk : k < (cds L).length) (e : lt L j = lt L k) : j = k := by
  have h1 := lt_get hj
  have h2 := lt_get hk
  rw [e] at h1
  exact (List.getElem?_inj hj (good_nd hL)).mp (h1.trans h2.symm)
/-- the text of a word -/
def wt (L : Str) (w : List Nat) : Str := txt (w.map (lt L))
theorem wt_len (L : Str) (w : List Nat) : (wt L w).length = w.length := by unfold wt; rw [txt_len, List.length_map]
theorem occ_lt {L : Str} (hL : goodS L = true) {k : Nat} (hk : k < (cds L).length) : ∃ r, Builtin.Str.occurrences L (sgn (lt L k)) 0 L.length 1 = k :: r := by
  rcases StrLaws.occ_head L (sgn (lt L k)) 1 (Nat.le_refl _) with ⟨_, h⟩ | ⟨i, r, h1, h2, _⟩
  · exact absurd ((StrLaws.subAt_one L (lt L k) k).mpr (lt_get hk)) (h k)
  · have h2 := (StrLaws.subAt_one L (lt L k) i).mp h2
    have hi : i < (cds L).length := (List.getElem?_eq_some_iff.mp h2).1
    have := (List.getElem?_inj hi (good_nd hL)).mp (h2.trans (lt_get hk).symm)
    exact ⟨r, this ▸ h1⟩
theorem goodT_wt {L : Str} {w : List Nat} (h : ∀ k ∈ w, k < (cds L).length) (hl : w.length ≤ 200) : goodT L (.str (wt L w)) = true := by
  show (decide ((wt L w).cps.size ≤ 200) && (cds (wt L w)).all (fun c => decide (c ∈ cds L))) = true
  rw [Bool.and_eq_true, decide_eq_true_eq, List.all_eq_true]
  refine ⟨by rw [show (wt L w).cps.size = w.length from wt_len L w]; exact hl, fun c hc => ?_⟩
  obtain ⟨k, hk, rfl⟩ := List.mem_map.mp (show c ∈ w.map (lt L) from hc)
  exact decide_eq_true (lt_mem (h k hk))
/-! a machine in the heap -/
def bVs (es : List Bool) : List V := es.map V.bl
structure MacAt (H : Hp) (m s e : Addr) (rs : List Addr) (ss : List (List Nat)) (es : List Bool) : Prop where
  m : H m = some (.tup [.ref s, .ref e])
  s : H s = some (.lst (rs.map V.ref))
  e : H e = some (.lst (bVs es))
  len : rs.length = ss.length
  row : ∀ (r : Nat) (a : Addr), rs[r]? = some a → ∃ row, ss[r]? = some row ∧ H a = some (.lst (nVs row))
theorem MacAt.ext {H H' : Hp} {m s e : Addr} {rs : List Addr} {ss : List (List Nat)} {es : List Bool} (h : MacAt H m s e rs ss es) (x : Ext H H') : MacAt H' m s e rs ss es :=
  ⟨x.tup h.m, x.lst h.s, x.lst h.e, h.len, fun r a hr => let ⟨row, h1, h2⟩ := h.row r a hr; ⟨row, h1, x.lst h2⟩⟩
/-- rooms of l steps each, all within -/
structure Well (l : Nat) (ss : List (List Nat)) (es : List Bool) : Prop where
  ends : es.length = ss.length
  one : 0 < ss.length
  most : ss.length ≤ 500
  row : ∀ row ∈ ss, row.length = l ∧ ∀ x ∈ row, x < ss.length
def macOf (l : Nat) (ss : List (List Nat)) (es : List Bool) : Mac := ⟨fun r k => (ss.getD r []).getD k 0, fun r => es.getD r false, l, ss.length⟩
section
variable {l : Nat} {ss : List (List Nat)} {es : List Bool}
theorem Well.get (h : Well l ss es) {r : Nat} (hr : r < ss.length) : ∃ row, ss[r]? = some row ∧ row.length = l ∧ (∀ x ∈ row, x < ss.length) ∧ ∀ k, k < l → row[k]? = some ((macOf l ss es).st r k) := by
  refine ⟨ss[r], List.getElem?_eq_getElem hr, (h.row _ (List.getElem_mem hr)).1, (h.row _ (List.getElem_mem hr)).2, fun k hk => ?_⟩
  have hl := (h.row _ (List.getElem_mem hr)).1
  show _ = some ((ss.getD r []).getD k 0)
  rw [List.getD_eq_getElem?_getD (l := ss), List.getElem?_eq_getElem hr]
  show _ = some (ss[r].getD k 0)
  rw [List.getD_eq_getElem?_getD, List.getElem?_eq_getElem (by omega)]; rfl
theorem Well.ok (h : Well l ss es) (hl : 0 < l) : (macOf l ss es).Ok := ⟨fun r k hr hk => by
  obtain ⟨row, _, _, h2, h3⟩ := h.get hr
  exact h2 _ (List.mem_of_getElem? (h3 k hk)), h.one, hl⟩
theorem Well.end_ (h : Well l ss es) {r : Nat} (hr : r < ss.length) : (bVs es)[r]? = some (.bl ((macOf l ss es).e r)) := by
  show (es.map V.bl)[r]? = some (.bl (es.getD r false))
  have := h.ends
  rw [List.getElem?_map, List.getElem?_eq_getElem (by omega), List.getD_eq_getElem?_getD, List.getElem?_eq_getElem (by omega)]; rfl
end
theorem kn_intK {K : PySem.W.Frag} {T : String} (h : T ∈ tys) : PySem.W.kitOne K (.type T) (.type "int") = some (decide (T = "int" ∨ T = "bool")) := by
  simp only [tys, List.mem_cons, List.not_mem_nil, or_false] at h
  rcases h with rfl | rfl | rfl | rfl | rfl | rfl | rfl <;> exact kit_ty (by decide +kernel)
theorem kn_boolK {K : PySem.W.Frag} {T : String} (h : T ∈ tys) : PySem.W.kitOne K (.type T) (.type "bool") = some (decide (T = "bool")) := by
  simp only [tys, List.mem_cons, List.not_mem_nil, or_false] at h
  rcases h with rfl | rfl | rfl | rfl | rfl | rfl | rfl <;> exact kit_ty (by decide +kernel)
def tagI : V → Value → Prop
  | .int _, t => t = .type "int"
  | _, t => t ≠ .type "int"
theorem tag_i {K : PySem.W.Frag} {H : Hp} {v : V} {t : Value} (h : TyX K H v t) : tagI v t := by
  cases h with
  | base b => cases b <;> first | exact rfl | exact fun e => (by injection e with e; exact absurd e (by decide)) | exact fun e => nomatch e
  | _ => exact fun e => (by injection e with e; exact absurd e (by decide))
theorem Kn.int_ {K : PySem.W.Frag} {H : Hp} {v : V} (h : Kn K H v "int") : ∃ z, v = .int z := by
  have q := tag_i h.1
  cases v <;> first | exact ⟨_, rfl⟩ | exact absurd rfl q
theorem Kn.notInt {K : PySem.W.Frag} {H : Hp} {v : V} {T : String} (h : Kn K H v T) (n : T ≠ "int") : ∀ z, v ≠ .int z := by
  rintro z rfl
  have q : Value.type T = .type "int" := tag_i h.1
  exact n (by injection q)
def goodR (n : Nat) : V → Bool
  | .int i => decide (0 ≤ i ∧ i < (n : Int))
  | _ => false
theorem goodR_not {n : Nat} {v : V} (h : ∀ z, v ≠ .int z) : goodR n v = false := by
  cases v <;> first | rfl | exact absurd rfl (h _)
theorem goodR_nat {n : Nat} {v : V} (h : goodR n v = true) : ∃ r, r < n ∧ v = nV r := by
  cases v with
  | int i =>
    have h := of_decide_eq_true h
    exact ⟨i.toNat, by omega, congrArg V.int (Int.toNat_of_nonneg h.1).symm⟩
  | _ => cases h
theorem goodR_of {n r : Nat} (h : r < n) : goodR n (nV r) = true := decide_eq_true ⟨by omega, by omega⟩
def spNR (C : Addr) : Sp := fun vs H Q E => ∃ (K : PySem.W.Frag) (m s e : Addr) (rs : List Addr) (ss : List (List Nat)) (es : List Bool) (v : V) (Ty : String), vs = [.ref m, v] ∧ MacAt H m s e rs ss es ∧ ss.length ≤ 500 ∧ (TyX K H v (.type Ty) ∧ Ty ∈ tys) ∧ (goodR ss.length v = true → Q .non H) ∧ (goodR ss.length v = false → E (.ref C) none H)
def spNRK (K : PySem.W.Frag) (C : Addr) : Sp := fun vs H Q E => ∃ (m s e : Addr) (rs : List Addr) (ss : List (List Nat)) (es : List Bool) (v : V) (Ty : String), vs = [.ref m, v] ∧ MacAt H m s e rs ss es ∧ ss.length ≤ 500 ∧ Kn K H v Ty ∧ (goodR ss.length v = true → Q .non H) ∧ (goodR ss.length v = false → E (.ref C) none H)
section
variable {P : Program} {w : World} {K : PySem.W.Frag} {mg : Str → Option Value} {base : Heap} {C : Addr}
theorem scNR : FnScope ["machine", "thing"] ["machine", "thing"] (defScope sNeedRoom) := ⟨rfl, rfl, rfl, by decide +kernel, rfl, by decide +kernel, by decide +kernel⟩
theorem nr_ok {f : Addr} {fd : FuncData} (F : FnP K "need_room" sNeedRoom f fd) (X : EX K mg "NoRoom" C) (mi : mg "isinstance" = none) (mint : mg "int" = none) (mb : mg "bool" = none) (ml : mg "len" = none) :
    FnOk P w K mg base (L2N.CX P w) 1 f fd ["machine", "thing"] (spNRK K C) := by
  refine okX F scNR (fun vs H Q E h => ?_) (fun cdv A outer s H vs Q E hr h => ?_)
  · obtain ⟨m, s, e, rs, ss, es, v, Ty, rfl, _⟩ := h
    rfl
  obtain ⟨m, s', e, rs, ss, es, v, Ty, rfl, hm, hl, hk, qg, qb⟩ := h
  refine ⟨_, (pss_cons (ps_if (PW.pt (pw_or (pt_not (pt_val (pe_callB call_isi rfl mi (by decide +kernel) (pa_cons (pv 1) (pa_cons (pe_bltn (v := .ty "int") (u := .type "int") rfl mint (by decide +kernel) rfl) pa_nil))))) (pw_or1 (pt_val (pe_callB call_isi rfl mi (by decide +kernel) (pa_cons (pv 1) (pa_cons (pe_bltn (v := .ty "bool") (u := .type "bool") rfl mb (by decide +kernel) rfl) pa_nil)))))))
      (pss_one (L2N.ps_raise rfl (L2N.takes_of rfl rfl rfl rfl) (L2N.pmk_own PySem.F.excBase_ValueError X.q X.g X.k (raises_own X.s X.t) rfl))) pss_nil) (pss_one (ps_if (pt_not (pt_chain op_le op_lt pe_int (pv 1) (pe_callB call_len rfl ml PySem.boot_len (pa_cons (pe_ix ix_tup (pv 0) pe_int (fun _ _ => rfl)) pa_nil)))) (pss_one (L2N.ps_raise rfl (L2N.takes_of rfl rfl rfl rfl) (L2N.pmk_own PySem.F.excBase_ValueError X.q X.g X.k (raises_own X.s X.t) rfl))) pss_nil))), ?_⟩
  refine t_seq ⟨v, rfl, v, .ty "int", .type Ty, .type "int", _, rfl, .ty _, hk.1, kn_intK hk.2, _, rfl, ?_⟩
  by_cases h1 : Ty = "int" ∨ Ty = "bool"
  case neg =>
    refine iffT (by rw [Bool.not_eq_true', decide_eq_false_iff_not]; exact h1) (iffT rfl (qb (goodR_not (hk.notInt (fun e => h1 (.inl e))))))
  refine iffF (by rw [decide_eq_true h1]; rfl) ⟨v, rfl, v, .ty "bool", .type Ty, .type "bool", _, rfl, .ty _, hk.1, kn_boolK hk.2, _, rfl, ?_⟩
  by_cases h2 : Ty = "bool"
  · exact iffT (decide_eq_true h2) (qb (goodR_not (hk.notInt (fun e => by rw [e] at h2; exact absurd h2 (by decide)))))
  refine iffF (decide_eq_false h2) ?_
  dsimp only [tNext]
  have h3 : Ty = "int" := h1.resolve_right h2
  subst h3
  obtain ⟨i, rfl⟩ := hk.int_
  refine ⟨_, rfl, _, _, rfl, rfl, _, rfl, ?_⟩
  by_cases h4 : 0 ≤ i
  · refine iffT (decide_eq_true h4) ?_
    refine r_ixQ 0 rfl (SqT.of hm.m) rfl ⟨.ref s', _, rfl, .inl ⟨_, SqL.of hm.s, rfl⟩, _, _, rfl, rfl, _, rfl, ?_⟩
    rw [List.length_map, hm.len]
    by_cases h5 : i < (ss.length : Int)
    · exact iffF (by rw [decide_eq_true h5]; rfl) (qg (decide_eq_true ⟨h4, h5⟩))
    · exact iffT (by rw [decide_eq_false h5]; rfl) (qb (decide_eq_false fun k => h5 k.2))
  · exact iffF (decide_eq_false h4) ⟨_, rfl, iffT rfl (qb (decide_eq_false fun k => h4 k.1))⟩
end
end Bo
set_option Elab.async false
set_option linter.all false
set_option maxRecDepth 100000
set_option maxHeartbeats 8000000
namespace Bo
open PySem PySem.Spec PyProof.Rows L2 GE
/-- the trail of the pairs' words -/
structure TrQ (K : PySem.W.Frag) (H : Hp) (L : Str) (ts : List V) (qs : List ((Nat × Nat) × List Nat)) : Prop where
  len : ts.length = qs.length
  at_ : ∀ (i : Nat) (v : V) (q : (Nat × Nat) × List Nat), ts[i]? = some v → qs[i]? = some q → ∃ a j z, v = .ref a ∧ SqT K H a [nV j, .str z] ∧ (i = 0 → q.2 = []) ∧
    (0 < i → ∃ q' k, j < i ∧ qs[j]? = some q' ∧ q.2 = q'.2 ++ [k] ∧ k < (cds L).length ∧ z = sgn (lt L k))
theorem TrQ.tk {K : PySem.W.Frag} {H H' : Hp} {L : Str} {ts : List V} {qs : List ((Nat × Nat) × List Nat)} (h : TrQ K H L ts qs) (t : Tk K H H') : TrQ K H' L ts qs :=
  ⟨h.len, fun i v q h1 h2 => let ⟨a, j, z, e, hs, r⟩ := h.at_ i v q h1 h2; ⟨a, j, z, e, t _ _ hs, r⟩⟩
def spTx (K : PySem.W.Frag) : Sp := fun vs H Q _ => ∃ (L : Str) (tr : Addr) (ts : List V) (qs : List ((Nat × Nat) × List Nat)) (i : Nat) (q : (Nat × Nat) × List Nat), vs = [.ref tr, nV i] ∧ H tr = some (.lst ts) ∧ TrQ K H L ts qs ∧ qs[i]? = some q ∧ qs.length ≤ 1000 ∧
  ∀ H', Ext H H' → Q (.str (wt L q.2)) H'
def spRo (K : PySem.W.Frag) (CL CR CX T1 T2 : Addr) : Sp := fun vs H Q E => ∃ (lv rv tv : V) (m s e : Addr) (rs : List Addr) (ss : List (List Nat)) (es : List Bool) (Tr : String), vs = [lv, .ref m, rv, tv] ∧ GxR.TabG H T1 ∧ GxR.TabG H T2 ∧ LV K H lv ∧ MacAt H m s e rs ss es ∧ ss.length ≤ 500 ∧ Kn K H rv Tr ∧ (∃ Ty, Kn K H tv Ty) ∧ (∀ z, tv = .str z → z.cps.size ≤ 500) ∧
  (goodV lv = false → ∀ H', Ext H H' → E (.ref CL) none H') ∧ (goodV lv = true → goodR ss.length rv = false → ∀ H', Ext H H' → E (.ref CR) none H') ∧
  (∀ L, lv = .str L → goodS L = true → goodR ss.length rv = true → goodT L tv = false → ∀ H', Ext H H' → E (.ref CX) none H') ∧
  (∀ L r, lv = .str L → goodS L = true → rv = nV r → r < ss.length → goodT L tv = true → ∃ w, tv = .str (wt L w) ∧ (∀ k ∈ w, k < (cds L).length) ∧ Well (cds L).length ss es ∧ ∀ H', Ext H H' → Q (nV ((macOf (cds L).length ss es).run r w)) H')
section
variable {P : Program} {w : World} {K : PySem.W.Frag} {mg : Str → Option Value} {base : Heap} {C : Addr}
theorem scTx : FnScope ["trail", "at", "signs", "sign"] ["trail", "at"] (defScope sTextAlong) := ⟨rfl, rfl, rfl, by decide +kernel, rfl, by decide +kernel, by decide +kernel⟩
theorem tx_ok {f : Addr} {fd : FuncData} (F : FnP K "text_along" sTextAlong f fd) (mr : mg "reversed" = none) : FnOk P w K mg base CX0 1 f fd ["trail", "at"] (spTx K) := by
  refine okD F scTx (fun vs H Q E h => ?_) (fun cdv A outer s H vs Q E hr h => ?_)
  · obtain ⟨L, tr, ts, qs, i, q, rfl, _⟩ := h
    rfl
  obtain ⟨L, tr, ts, qs, i, q, rfl, htr, ht, hq, hlen, qq⟩ := h
  refine ⟨_, (pss_cons (ps_set (i := 2) scTx.nd rfl (Or.inl rfl) (pe_lst pa_nil)) (pss_cons (ps_while PassesOwn.never (pt_cmpR op_gt (pv 1) pe_int (nomark _))
      (pss_cons (ps_asg (pe_ix ix_list (pv 0) (pv 1) (fun _ _ => rfl)) (pg_tup (by rfl) (pgs_cons (pg_name (i := 1) scTx.nd rfl (Or.inl rfl)) (pgs_cons (pg_name (i := 3) scTx.nd rfl (Or.inl rfl)) pgs_nil)))) (pss_one (ps_expr (pe_bm PySem.F.plainAttrs_list PySem.F.slot_list_append PySem.F.type_list_append mt_append (pv 2) (pa_cons (pv 3) pa_nil)))))) (pss_one (ps_ret (pe_joinRev rfl pe_str rfl mr (pv 2)))))), ?_⟩
  refine t_set ⟨Nat.zero_le _, fun b xb => ?_⟩
  have hbt : tr ≠ b := ne_of_none htr xb
  refine t_seq ⟨fun m σ H2 => ∃ (j : Nat) (p : (Nat × Nat) × List Nat) (r : List Nat) (o3 : Option V), m = j ∧ σ = [some (.ref tr), some (nV j), some (.ref b), o3] ∧ Ext H H2 ∧ H2 b = some (.lst ((r.reverse.map fun k => V.str (sgn (lt L k))))) ∧ qs[j]? = some p ∧ q.2 = p.2 ++ r ∧ r.length + j ≤ i,
    ⟨i, i, q, [], none, rfl, rfl, Ext.new xb, upd_same, hq, (List.append_nil _).symm, by simp⟩, ?_⟩
  rintro m σ H2 ⟨j, p, r, o3, rfl, rfl, e2, hb2, hp, hw, hrl⟩
  have hil : i < qs.length := (List.getElem?_eq_some_iff.mp hq).1
  refine ⟨_, rfl, _, _, rfl, rfl, _, rfl, ?_⟩
  by_cases hj : 0 < m
  · refine iffT (decide_eq_true (by omega)) ⟨fun σ' H3 => ∃ m' < m, ∃ (j : Nat) (p : (Nat × Nat) × List Nat) (r : List Nat) (o3 : Option V), m' = j ∧ σ' = [some (.ref tr), some (nV j), some (.ref b), o3] ∧ Ext H H3 ∧ H3 b = some (.lst ((r.reverse.map fun k => V.str (sgn (lt L k))))) ∧ qs[j]? = some p ∧ q.2 = p.2 ++ r ∧ r.length + j ≤ i, fun σ' H' ⟨m', h1, h2⟩ => ⟨m', h1, h2⟩, ?_⟩
    have hm : m < ts.length := by rw [ht.len]; exact (List.getElem?_eq_some_iff.mp hp).1
    obtain ⟨a, j', z, hv, hs, _, h9⟩ := ht.at_ m ts[m] p (List.getElem?_eq_getElem hm) hp
    obtain ⟨q', k, hj', hq', he, hk, rfl⟩ := h9 hj
    refine t_seq ?_
    refine ⟨_, rfl, _, rfl, tr, ts, _, .ref a, rfl, rfl, SqL.of (e2.lst htr), atI_nat (by rw [List.getElem?_eq_getElem hm, hv]), a, _, rfl, e2.sqT _ _ hs, rfl, nV j', _, rfl, .str (sgn (lt L k)), _, rfl, rfl, ?_⟩
    refine ⟨_, rfl, .inl ⟨rfl, _, SqL.of hb2⟩, _, rfl, b, _, _, rfl, rfl, hb2, Nat.lt_of_lt_of_le (show _ < 1000 by rw [List.length_map, List.length_reverse]; omega) (by decide), ?_⟩
    refine ⟨j', hj', j', q', k :: r, _, rfl, rfl, e2.wr xb, ?_, hq', by rw [hw, he, List.append_assoc]; rfl, by rw [List.length_cons]; omega⟩
    rw [upd_same, List.reverse_cons, List.map_append]
    rfl
  · refine iffF (decide_eq_false (by omega)) ?_
    have hm0 : m = 0 := by omega
    subst hm0
    have hm : 0 < ts.length := by rw [ht.len]; exact (List.getElem?_eq_some_iff.mp hp).1
    obtain ⟨a, j', z, hv, hs, h8, _⟩ := ht.at_ 0 ts[0] p (List.getElem?_eq_getElem hm) hp
    have hw : q.2 = r := by rw [hw, h8 rfl]; rfl
    have hrr : (r.reverse.map fun k => V.str (sgn (lt L k))) = ((r.reverse.map fun k => sgn (lt L k)).map V.str) := by rw [List.map_map]; rfl
    rw [hrr] at hb2
    have hsum : (((r.reverse.map fun k => sgn (lt L k)).map (·.length)).sum) ≤ 1000 := by
      have : ((r.reverse.map fun k => sgn (lt L k)).map (·.length)) = List.replicate r.length 1 := by
        rw [List.map_map]
        exact List.eq_replicate_iff.mpr ⟨by simp, fun b hb => by obtain ⟨k, _, rfl⟩ := List.mem_map.mp hb; rfl⟩
      rw [this, List.sum_replicate_nat]; omega
    refine ⟨⟨_, rfl⟩, _, rfl, _, b, _, rfl, rfl, SqL.of hb2, ?_, ?_⟩
    · rw [show (Str.ofString "").length = 0 by decide]
      simp at hsum ⊢
      omega
    · have e : (r.reverse.map fun k => sgn (lt L k)).reverse = (r.map (lt L)).map sgn := by
        rw [← List.map_reverse, List.reverse_reverse, List.map_map]; rfl
      rw [e, join_txt]
      rw [hw] at qq
      exact qq _ e2
theorem scRo : FnScope ["letters", "machine", "room", "text", "steps", "sign"] ["letters", "machine", "room", "text"] (defScope sRoomOf) := ⟨rfl, rfl, rfl, by decide +kernel, rfl, by decide +kernel, by decide +kernel⟩
theorem for_str {x : Str} {g : TG} {tb : TS} {D : Ends} {σ : L2.St} {H : Hp} (Pv : Nat → L2.St → Hp → Prop) (h0 : Pv 0 σ H)
    (hs : ∀ i c σ H, x.cps[i]? = some c → Pv i σ H → g (.str ⟨#[c]⟩) σ H fun σ2 H2 => tb { D with nx := Pv (i + 1), ct := Pv (i + 1), bk := D.nx } σ2 H2) (hd : ∀ σ H, Pv x.cps.size σ H → D.nx σ H) :
    ∃ W : Nat → Nat → L2.St → Hp → Prop, (∃ m, W 0 m σ H) ∧ ∀ i m σ H, W i m σ H →
      ((Its x).stop i H ∧ D.nx σ H) ∨ ((Its x).go i H ∧ ∃ N : L2.St → Hp → Prop, (∀ σ' H', N σ' H' → ∃ m', m' < m ∧ W (i + 1) m' σ' H') ∧ ∀ v H', (Its x).yld i H v H' → g v σ H' fun σ2 H2 => tb { D with nx := N, ct := N, bk := D.nx } σ2 H2) := by
  refine ⟨fun i m σ H => m = x.cps.size - i ∧ i ≤ x.cps.size ∧ Pv i σ H, ⟨x.cps.size, by simp, Nat.zero_le _, h0⟩, ?_⟩
  rintro i m σ H ⟨rfl, hi, p⟩
  by_cases hlt : i < x.cps.size
  · refine .inr ⟨hlt, Pv (i + 1), fun σ' H' p' => ⟨x.cps.size - (i + 1), by omega, rfl, hlt, p'⟩, fun v H' y => ?_⟩
    obtain ⟨e, c, hc, rfl⟩ := y
    subst e
    exact hs i c σ H' hc p
  · have e : i = x.cps.size := by omega
    subst e
    exact .inl ⟨Nat.le_refl _, hd σ H p⟩
theorem ro_ok {f g1 g2 g3 : Addr} {fd d1 d2 d3 : FuncData} {CL CR CX T1 T2 : Addr} (F : FnP K "room_of" sRoomOf f fd)
    (G1 : FnOk P w K mg base (L2N.CX P w) 3 g1 d1 ["letters"] (spNL K CL T1)) (b1 : Binds K d1 ["letters"] []) (k1 : PySem.W.keepIn K (.ref g1) = true) (m1 : mg "need_letters" = some (.ref g1))
    (G2 : FnOk P w K mg base (L2N.CX P w) 1 g2 d2 ["machine", "thing"] (spNRK K CR)) (b2 : Binds K d2 ["machine", "thing"] []) (k2 : PySem.W.keepIn K (.ref g2) = true) (m2 : mg "need_room" = some (.ref g2))
    (G3 : FnOk P w K mg base (L2N.CX P w) 3 g3 d3 ["letters", "text"] (spNT K CX T2)) (b3 : Binds K d3 ["letters", "text"] []) (k3 : PySem.W.keepIn K (.ref g3) = true) (m3 : mg "need_text" = some (.ref g3)) :
    FnOk P w K mg base (L2N.CX P w) 4 f fd ["letters", "machine", "room", "text"] (spRo K CL CR CX T1 T2) := by
  refine okX F scRo (fun vs H Q E h => ?_) (fun cdv A outer s H vs Q E hr h => ?_)
  · obtain ⟨lv, rv, tv, m, s, e, rs, ss, es, Tr, rfl, _⟩ := h
    rfl
  obtain ⟨lv, rv, tv, m, s', e, rs, ss, es, Tr, rfl, hT1, hT2, hL, hm, hn, hrk, ⟨Ty, htk⟩, htz, qL, qR, qX, qg⟩ := h

  refine ⟨_, (pss_cons (ps_expr (pe_call G1 hr rfl m1 k1 b1 .nil (L2N.passes_call (L2N.takes_of rfl rfl rfl rfl) (fun _ _ _ _ h => h)) (pa_cons (pv 0) pa_nil))) (pss_cons (ps_expr (pe_call G2 (hr.mono (by omega)) rfl m2 k2 b2 .nil (L2N.passes_call (L2N.takes_of rfl rfl rfl rfl) (fun _ _ _ _ h => h)) (pa_cons (pv 1) (pa_cons (pv 2) pa_nil)))) (pss_cons (ps_expr (pe_call G3 hr rfl m3 k3 b3 .nil (L2N.passes_call (L2N.takes_of rfl rfl rfl rfl) (fun _ _ _ _ h => h)) (pa_cons (pv 0) (pa_cons (pv 3) pa_nil)))) (pss_cons (ps_set (i := 4) scRo.nd rfl (Or.inl rfl) (pe_ix ix_tup (pv 1) pe_int (fun _ _ => rfl))) (pss_cons (ps_for (passes_of rfl) rfl (pi_str (pv 3)) (pg_name (i := 5) scRo.nd rfl (Or.inl rfl))
      (pss_one (ps_set (i := 2) scRo.nd rfl (Or.inl rfl) (pe_ix ix_list (pe_ix ix_list (pv 4) (pv 2) (fun _ _ => rfl)) (pe_m1 PySem.F.slot_str_index PySem.F.type_str_index mt_sindex (pv 0) (pv 5)) (fun _ _ => rfl))))) (pss_one (ps_ret (pv 2)))))))), ?_⟩
  refine t_seq ⟨_, rfl, lv, _, rfl, hL.1.choose_spec, hL.2, hT1, fun good H1 e1 => ?_, fun bad H1 e1 => qL bad H1 e1⟩
  dsimp only
  obtain ⟨L, rfl⟩ : ∃ L, lv = .str L := by
    cases lv <;> first | exact ⟨_, rfl⟩ | cases good
  have hgL : goodS L = true := good
  refine t_seq ⟨_, rfl, _, rfl, m, s', e, rs, ss, es, rv, Tr, rfl, hm.ext e1, hn, kn_ext e1 hrk, fun hgr => ?_, fun hbr => qR good hbr _ e1⟩
  dsimp only
  refine t_seq ⟨_, rfl, _, rfl, L, tv, Ty, rfl, kn_ext e1 htk, htz, e1.tab _ hT2, fun hgt H2 e2 => ?_, fun hbt H2 e2 => qX L rfl hgL hgr hbt _ (e1.trans e2)⟩
  dsimp only
  obtain ⟨r, hrn, rfl⟩ := goodR_nat hgr
  obtain ⟨w, rfl, hw, hwell, q⟩ := qg L r rfl hgL rfl hrn hgt
  have e12 := e1.trans e2
  have hm2 := hm.ext e12
  have hl0 : 0 < (cds L).length := by rw [show (cds L).length = L.cps.size from Array.length_toList]; exact (good_len hgL).1
  have ok := hwell.ok hl0
  refine t_set (r_ixQ 0 rfl (SqT.of hm2.m) rfl ?_)
  have hcw : cds (wt L w) = w.map (lt L) := rfl
  refine t_seq ⟨_, rfl, wt L w, rfl, ?_⟩
  refine for_str (x := wt L w) (fun i σ' H' => ∃ o5, σ' = [some (.str L), some (.ref m), some (nV ((macOf (cds L).length ss es).run r (w.take i))), some (.str (wt L w)), some (.ref s'), o5] ∧ H' = H2) ⟨none, rfl, rfl⟩ ?_ ?_
  · rintro i c σ' H' hc ⟨o5, rfl, rfl⟩
    have hc' : (w.map (lt L))[i]? = some c := by
      rw [← hcw, ← hc]; exact Array.getElem?_toList
    rw [List.getElem?_map] at hc'
    obtain ⟨k, hk, rfl⟩ := Option.map_eq_some_iff.mp hc'
    have hkl := hw k (List.mem_of_getElem? hk)
    obtain ⟨rest, hocc⟩ := occ_lt hgL hkl
    have hin : (macOf (cds L).length ss es).run r (w.take i) < ss.length := ok.run _ hrn (fun j hj => hw j (List.mem_of_mem_take hj))
    obtain ⟨row, h1, h2, h3, h4⟩ := hwell.get hin
    have hra : (macOf (cds L).length ss es).run r (w.take i) < rs.length := by rw [hm2.len]; exact hin
    obtain ⟨row', h5, h6⟩ := hm2.row _ _ (List.getElem?_eq_getElem hra)
    cases (h1.symm.trans h5)
    refine r_asg ⟨_, rfl, _, rfl, s', _, _, _, rfl, rfl, SqL.of hm2.s, atI_nat (by rw [List.getElem?_map, List.getElem?_eq_getElem hra]; rfl), _, rfl, ⟨_, rfl⟩, _, rfl, L, sgn (lt L k), k, rest, rfl, rfl, hocc, ?_⟩
    refine ⟨_, nVs row, _, _, rfl, rfl, SqL.of h6, nVs_at (h4 k hkl), some (.str (sgn (lt L k))), ?_, rfl⟩
    rw [List.take_succ, hk]
    show _ = [some (.str L), some (.ref m), some (nV ((macOf (cds L).length ss es).run r (w.take i ++ [k]))), some (.str (wt L w)), some (.ref s'), some (.str (sgn (lt L k)))]
    rw [Mac.run_app]
    rfl
  · rintro σ' H' ⟨o5, rfl, rfl⟩
    rw [show (wt L w).cps.size = w.length from wt_len L w, List.take_length]
    exact ⟨_, rfl, q _ e12⟩
end
end Bo
set_option Elab.async false
set_option linter.all false
set_option maxRecDepth 100000
set_option maxHeartbeats 8000000
namespace Bo
open PySem PySem.Spec PyProof.Rows L2 GE
theorem least_of {m : Mac} : ∀ {d a b : Nat}, m.Dist a b d → ∃ w, m.Least a b w
  | 0, a, b, h => ⟨[], least_nil (dist0.mp h)⟩
  | d + 1, a, b, h => by
    obtain ⟨k0, hk0, hd0⟩ := dist_next h
    have : ∀ n, ∀ k, k ≤ n → k < m.l → m.Dist (m.st a k) (m.st b k) d → ∃ k, k < m.l ∧ m.Dist (m.st a k) (m.st b k) d ∧ ∀ j, j < k → ¬ m.Dist (m.st a j) (m.st b j) d := by
      intro n
      induction n with
      | zero => exact fun k hk hl hd => ⟨k, hl, hd, fun j hj => by omega⟩
      | succ n ih =>
        intro k hk hl hd
        by_cases h9 : ∃ j, j < k ∧ m.Dist (m.st a j) (m.st b j) d
        · obtain ⟨j, hj, hdj⟩ := h9
          exact ih j (by omega) (by omega) hdj
        · exact ⟨k, hl, hd, fun j hj hd => h9 ⟨j, hj, hd⟩⟩
    obtain ⟨k, hk, hd, hmin⟩ := this k0 k0 (Nat.le_refl _) hk0 hd0
    obtain ⟨w, hw⟩ := least_of hd
    exact ⟨k :: w, least_cons h hk hd hmin hw⟩
theorem least_pt {m : Mac} {a b : Nat} {w : List Nat} (h : m.Pt a b w) : ∃ w, m.Least a b w := let ⟨_, _, h⟩ := pt_dist h; least_of h
theorem tk_lst {K : PySem.W.Frag} {H : Hp} {l : Addr} {xs : List V} {o : HO} (h : H l = some (.lst xs)) : Tk K H (upd H l o) := fun a ys hs => by
  rcases hs with (h1 | ⟨o', h1⟩) | h1
  · exact .inl (.inl (by rw [upd_ne (ne_of h1 h (by intro z; cases z))]; exact h1))
  · exact .inl (.inr ⟨o', by rw [upd_ne (ne_of h1 h (by intro z; cases z))]; exact h1⟩)
  · exact .inr h1
structure PrQ (K : PySem.W.Frag) (H : Hp) (ps : List V) (qs : List ((Nat × Nat) × List Nat)) : Prop where
  len : ps.length = qs.length
  at_ : ∀ (i : Nat) (v : V) (q : (Nat × Nat) × List Nat), ps[i]? = some v → qs[i]? = some q → ∃ a, v = .ref a ∧ SqT K H a [nV q.1.1, nV q.1.2]
theorem PrQ.tk {K : PySem.W.Frag} {H H' : Hp} {ps : List V} {qs : List ((Nat × Nat) × List Nat)} (h : PrQ K H ps qs) (t : Tk K H H') : PrQ K H' ps qs :=
  ⟨h.len, fun i v q h1 h2 => let ⟨a, e, hs⟩ := h.at_ i v q h1 h2; ⟨a, e, t _ _ hs⟩⟩
theorem snoc_get {α : Type} {xs : List α} {y x : α} {i : Nat} (h : (xs ++ [y])[i]? = some x) : xs[i]? = some x ∨ (i = xs.length ∧ x = y) := by
  by_cases hi : i < xs.length
  · rw [List.getElem?_append_left hi] at h; exact .inl h
  · rw [List.getElem?_append_right (by omega)] at h
    by_cases e : i = xs.length
    · subst e; simp at h; exact .inr ⟨rfl, h.symm⟩
    · rw [List.getElem?_singleton, if_neg (by omega)] at h; cases h
theorem PrQ.push {K : PySem.W.Frag} {H : Hp} {ps : List V} {qs : List ((Nat × Nat) × List Nat)} {x : Addr} {q : (Nat × Nat) × List Nat} (h : PrQ K H ps qs) (hx : SqT K H x [nV q.1.1, nV q.1.2]) : PrQ K H (ps ++ [.ref x]) (qs ++ [q]) := by
  refine ⟨by rw [List.length_append, List.length_append, h.len]; rfl, fun i v p h1 h2 => ?_⟩
  rcases snoc_get h1 with h1 | ⟨rfl, rfl⟩
  · rcases snoc_get h2 with h2 | ⟨rfl, rfl⟩
    · exact h.at_ i v p h1 h2
    · exact absurd (List.getElem?_eq_some_iff.mp h1).1 (by rw [h.len]; exact Nat.lt_irrefl _)
  · rcases snoc_get h2 with h2 | ⟨_, rfl⟩
    · exact absurd (List.getElem?_eq_some_iff.mp h2).1 (by rw [h.len]; exact Nat.lt_irrefl _)
    · exact ⟨x, rfl, hx⟩
theorem TrQ.push {K : PySem.W.Frag} {H : Hp} {L : Str} {ts : List V} {qs : List ((Nat × Nat) × List Nat)} {x : Addr} {q p : (Nat × Nat) × List Nat} {j k : Nat} (h : TrQ K H L ts qs) (hp : qs[j]? = some p) (hk : k < (cds L).length) (hq : q.2 = p.2 ++ [k])
    (hx : SqT K H x [nV j, .str (sgn (lt L k))]) : TrQ K H L (ts ++ [.ref x]) (qs ++ [q]) := by
  have hj := (List.getElem?_eq_some_iff.mp hp).1
  refine ⟨by rw [List.length_append, List.length_append, h.len]; rfl, fun i v p' h1 h2 => ?_⟩
  rcases snoc_get h1 with h1 | ⟨rfl, rfl⟩
  · rcases snoc_get h2 with h2 | ⟨rfl, rfl⟩
    · obtain ⟨a, j', z, e, hs, r1, r2⟩ := h.at_ i v p' h1 h2
      refine ⟨a, j', z, e, hs, r1, fun h0 => ?_⟩
      obtain ⟨q', k', g1, g2, g3⟩ := r2 h0
      exact ⟨q', k', g1, by rw [List.getElem?_append_left (List.getElem?_eq_some_iff.mp g2).1]; exact g2, g3⟩
    · exact absurd (List.getElem?_eq_some_iff.mp h1).1 (by rw [h.len]; exact Nat.lt_irrefl _)
  · rcases snoc_get h2 with h2 | ⟨_, rfl⟩
    · exact absurd (List.getElem?_eq_some_iff.mp h2).1 (by rw [h.len]; exact Nat.lt_irrefl _)
    · refine ⟨x, j, _, rfl, hx, fun h0 => ?_, fun _ => ⟨p, k, by rw [h.len]; exact hj, by rw [List.getElem?_append_left hj]; exact hp, hq, hk, rfl⟩⟩
      rw [h.len] at h0; omega
/-- where the search's own things stand -/
structure PB (H0 H : Hp) (C p dx u pl tl : Addr) (ns : List Nat) (ps ts : List V) : Prop where
  e : Ext H0 H
  nu : H0 u = none
  npl : H0 pl = none
  ntl : H0 tl = none
  me : H p = some (.ins C dx (mf u))
  us : H u = some (.lst (nVs ns))
  hp : H pl = some (.lst ps)
  ht : H tl = some (.lst ts)
  d1 : u ≠ pl
  d2 : u ≠ tl
  d3 : pl ≠ tl
section
variable {H0 H : Hp} {C p dx u pl tl : Addr} {ns : List Nat} {ps ts : List V}
theorem PB.new {T : Addr} {o : HO} (h : PB H0 H C p dx u pl tl ns ps ts) (hT : H T = none) : PB H0 (upd H T o) C p dx u pl tl ns ps ts :=
  ⟨h.e.trans (Ext.new hT), h.nu, h.npl, h.ntl, by rw [upd_ne (ne_of_none h.me hT)]; exact h.me, by rw [upd_ne (ne_of_none h.us hT)]; exact h.us, by rw [upd_ne (ne_of_none h.hp hT)]; exact h.hp, by rw [upd_ne (ne_of_none h.ht hT)]; exact h.ht, h.d1, h.d2, h.d3⟩
theorem PB.setU {ns' : List Nat} (h : PB H0 H C p dx u pl tl ns ps ts) : PB H0 (upd H u (.lst (nVs ns'))) C p dx u pl tl ns' ps ts :=
  ⟨h.e.wr h.nu, h.nu, h.npl, h.ntl, by rw [upd_ne (mins_ne h.me h.us)]; exact h.me, upd_same, by rw [upd_ne h.d1.symm]; exact h.hp, by rw [upd_ne h.d2.symm]; exact h.ht, h.d1, h.d2, h.d3⟩
theorem PB.setP {ps' : List V} (h : PB H0 H C p dx u pl tl ns ps ts) : PB H0 (upd H pl (.lst ps')) C p dx u pl tl ns ps' ts :=
  ⟨h.e.wr h.npl, h.nu, h.npl, h.ntl, by rw [upd_ne (mins_ne h.me h.hp)]; exact h.me, by rw [upd_ne h.d1]; exact h.us, upd_same, by rw [upd_ne h.d3.symm]; exact h.ht, h.d1, h.d2, h.d3⟩
theorem PB.setT {ts' : List V} (h : PB H0 H C p dx u pl tl ns ps ts) : PB H0 (upd H tl (.lst ts')) C p dx u pl tl ns ps ts' :=
  ⟨h.e.wr h.ntl, h.nu, h.npl, h.ntl, by rw [upd_ne (mins_ne h.me h.ht)]; exact h.me, by rw [upd_ne h.d2]; exact h.us, by rw [upd_ne h.d3]; exact h.hp, upd_same, h.d1, h.d2, h.d3⟩
end
theorem for_zip3 {K : PySem.W.Frag} {tx : Str} {a b : Addr} {xs ys : List V} {g : TG} {tb : TS} {D : Ends} {σ : L2.St} {H : Hp} (hl1 : xs.length = tx.cps.size) (hl2 : ys.length = tx.cps.size) (Pv : Nat → L2.St → Hp → Prop) (h0 : Pv 0 σ H) (hq : ∀ i σ H, Pv i σ H → SqL K H a xs ∧ SqL K H b ys)
    (hs : ∀ (i c : Nat) (x y : V) (T : Addr) (σ : L2.St) (H : Hp), tx.cps[i]? = some c → xs[i]? = some x → ys[i]? = some y → Pv i σ H → H T = none → g (.ref T) σ (upd H T (.tup [.str ⟨#[c]⟩, x, y])) fun σ2 H2 => tb { D with nx := Pv (i + 1), ct := Pv (i + 1), bk := D.nx } σ2 H2) (hd : ∀ σ H, Pv tx.cps.size σ H → D.nx σ H) :
    ∃ W : Nat → Nat → L2.St → Hp → Prop, (∃ m, W 0 m σ H) ∧ ∀ i m σ H, W i m σ H →
      ((Itz3 K tx a b).stop i H ∧ D.nx σ H) ∨ ((Itz3 K tx a b).go i H ∧ ∃ N : L2.St → Hp → Prop, (∀ σ' H', N σ' H' → ∃ m', m' < m ∧ W (i + 1) m' σ' H') ∧ ∀ v H', (Itz3 K tx a b).yld i H v H' → g v σ H' fun σ2 H2 => tb { D with nx := N, ct := N, bk := D.nx } σ2 H2) := by
  refine ⟨fun i m σ H => m = tx.cps.size - i ∧ i ≤ tx.cps.size ∧ Pv i σ H, ⟨tx.cps.size, rfl, Nat.zero_le _, h0⟩, ?_⟩
  rintro i m σ H ⟨rfl, hi, p⟩
  obtain ⟨qx, qy⟩ := hq i σ H p
  by_cases hlt : i < tx.cps.size
  · have hx : xs[i]? = some xs[i] := List.getElem?_eq_getElem (by omega)
    have hy : ys[i]? = some ys[i] := List.getElem?_eq_getElem (by omega)
    refine .inr ⟨⟨hlt, xs, ys, _, _, qx, qy, hx, hy⟩, Pv (i + 1), fun σ' H' p' => ⟨tx.cps.size - (i + 1), by omega, rfl, hlt, p'⟩, fun v H' y => ?_⟩
    obtain ⟨T, c, x', y', rfl, hT, rfl, hc, f1, f2⟩ := y
    exact hs i c x' y' T σ H hc (f1 xs qx) (f2 ys qy) p hT
  · have e : i = tx.cps.size := by omega
    subst e
    exact .inl ⟨rfl, hd σ H p⟩
def spPa (K : PySem.W.Frag) (CL CR T1 : Addr) : Sp := fun vs H Q E => ∃ (lv rv ov : V) (m s e : Addr) (rs : List Addr) (ss : List (List Nat)) (es : List Bool) (Tr To : String), vs = [lv, .ref m, rv, ov] ∧ GxR.TabG H T1 ∧ LV K H lv ∧ MacAt H m s e rs ss es ∧ ss.length ≤ 500 ∧ Kn K H rv Tr ∧ Kn K H ov To ∧
  (goodV lv = false → ∀ H', Ext H H' → E (.ref CL) none H') ∧ (goodV lv = true → goodR ss.length rv = false → ∀ H', Ext H H' → E (.ref CR) none H') ∧
  (goodV lv = true → goodR ss.length rv = true → goodR ss.length ov = false → ∀ H', Ext H H' → E (.ref CR) none H') ∧
  (∀ L a b, lv = .str L → goodS L = true → rv = nV a → a < ss.length → ov = nV b → b < ss.length → Well (cds L).length ss es ∧ (∀ w, (macOf (cds L).length ss es).Least a b w → ∀ H', Ext H H' → Q (.str (wt L w)) H') ∧ ((∀ w, ¬ (macOf (cds L).length ss es).Least a b w) → ∀ H', Ext H H' → Q .non H'))
section
variable {P : Program} {w : World} {K : PySem.W.Frag} {mg : Str → Option Value} {base : Heap} {C : Addr}
theorem scPa : FnScope ["letters", "machine", "room", "other", "steps", "ends", "meeting", "pairs", "trail", "at", "one", "two", "sign", "here", "there"] ["letters", "machine", "room", "other"] (defScope sParting) := ⟨rfl, rfl, rfl, by decide +kernel, rfl, by decide +kernel, by decide +kernel⟩
theorem pa_ok {f g1 g2 g3 g4 g5 : Addr} {fd d1 d2 d3 d4 d5 : FuncData} {CL CR T1 : Addr} (F : FnP K "parting" sParting f fd) (T : MTx K C) (M : Mk K C g3) (mC : mg "Meeting" = some (.ref C))
    (G1 : FnOk P w K mg base (L2N.CX P w) 3 g1 d1 ["letters"] (spNL K CL T1)) (b1 : Binds K d1 ["letters"] []) (k1 : PySem.W.keepIn K (.ref g1) = true) (m1 : mg "need_letters" = some (.ref g1))
    (G2 : FnOk P w K mg base (L2N.CX P w) 1 g2 d2 ["machine", "thing"] (spNRK K CR)) (b2 : Binds K d2 ["machine", "thing"] []) (k2 : PySem.W.keepIn K (.ref g2) = true) (m2 : mg "need_room" = some (.ref g2))
    (G3 : FnOk P w K mg base CX0 1 g3 d3 ["self", "many"] (spMi C)) (b3 : Binds K d3 ["self", "many"] [])
    (G4 : FnOk P w K mg base CX0 2 g4 d4 ["self", "room", "other"] (spJm C)) (b4 : Binds K d4 ["self", "room", "other"] []) (m4 : Meth K C "join_rooms" g4)
    (G5 : FnOk P w K mg base CX0 1 g5 d5 ["trail", "at"] (spTx K)) (b5 : Binds K d5 ["trail", "at"] []) (k5 : PySem.W.keepIn K (.ref g5) = true) (m5 : mg "text_along" = some (.ref g5))
    (ml : mg "len" = none) (mz : mg "zip" = none) :
    FnOk P w K mg base (L2N.CX P w) 4 f fd ["letters", "machine", "room", "other"] (spPa K CL CR T1) := by
  refine okX F scPa (fun vs H Q E h => ?_) (fun cdv A outer s H vs Q E hr h => ?_)
  · obtain ⟨lv, rv, ov, m, s, e, rs, ss, es, Tr, To, rfl, _⟩ := h
    rfl
  obtain ⟨lv, rv, ov, m, sa, ea, rs, ss, es, Tr, To, rfl, hT1, hL, hm, hn, hrk, hok, qL, qR, qO, qg⟩ := h
  refine ⟨_, (pss_cons (ps_expr (pe_call G1 hr rfl m1 k1 b1 .nil (L2N.passes_call (L2N.takes_of rfl rfl rfl rfl) (fun _ _ _ _ h => h)) (pa_cons (pv 0) pa_nil))) (pss_cons (ps_expr (pe_call G2 (hr.mono (by omega)) rfl m2 k2 b2 .nil (L2N.passes_call (L2N.takes_of rfl rfl rfl rfl) (fun _ _ _ _ h => h)) (pa_cons (pv 1) (pa_cons (pv 2) pa_nil)))) (pss_cons (ps_expr (pe_call G2 (hr.mono (by omega)) rfl m2 k2 b2 .nil (L2N.passes_call (L2N.takes_of rfl rfl rfl rfl) (fun _ _ _ _ h => h)) (pa_cons (pv 1) (pa_cons (pv 3) pa_nil)))) (pss_cons (ps_asg (pv 1) (pg_tup (by rfl) (pgs_cons (pg_name (i := 4) scPa.nd rfl (Or.inl rfl)) (pgs_cons (pg_name (i := 5) scPa.nd rfl (Or.inl rfl)) pgs_nil)))) (pss_cons (ps_set (i := 6) scPa.nd rfl (Or.inl rfl) (pe_make M G3 (hr.mono (by omega)) rfl mC b3 .nil pass0 (pa_cons (pe_callB call_len rfl ml PySem.boot_len (pa_cons (pv 4) pa_nil)) pa_nil))) (pss_cons (ps_expr (pe_meth (pv 6) T.cl m4 G4 (hr.mono (by omega)) b4 .nil pass0 (pa_cons (pv 2) (pa_cons (pv 3) pa_nil)))) (pss_cons (ps_set (i := 7) scPa.nd rfl (Or.inl rfl) (pe_lst (pa_cons (pe_tup (pa_cons (pv 2) (pa_cons (pv 3) pa_nil))) pa_nil))) (pss_cons (ps_set (i := 8) scPa.nd rfl (Or.inl rfl) (pe_lst (pa_cons (pe_tup (pa_cons pe_int (pa_cons pe_str pa_nil))) pa_nil))) (pss_cons (ps_set (i := 9) scPa.nd rfl (Or.inl rfl) pe_int) (pss_cons (ps_while (passes_of rfl) (pt_cmpR op_lt (pv 9) (pe_callB call_len rfl ml PySem.boot_len (pa_cons (pv 7) pa_nil)) (nomark _))
      (pss_cons (ps_asg (pe_ix ix_list (pv 7) (pv 9) (fun _ _ => rfl)) (pg_tup (by rfl) (pgs_cons (pg_name (i := 10) scPa.nd rfl (Or.inl rfl)) (pgs_cons (pg_name (i := 11) scPa.nd rfl (Or.inl rfl)) pgs_nil)))) (pss_cons (ps_if (pt_cmpR op_ne (pe_ix ix_list (pv 5) (pv 10) (fun _ _ => rfl)) (pe_ix ix_list (pv 5) (pv 11) (fun _ _ => rfl)) (nomark _)) (pss_one (ps_ret (pe_call G5 (hr.mono (by omega)) rfl m5 k5 b5 .nil pass0 (pa_cons (pv 8) (pa_cons (pv 9) pa_nil))))) pss_nil) (pss_cons (ps_for (passes_of rfl) rfl (pi_zip3 rfl mz (pa_cons (pv 0) (pa_cons (pe_ix ix_list (pv 4) (pv 10) (fun _ _ => rfl)) (pa_cons (pe_ix ix_list (pv 4) (pv 11) (fun _ _ => rfl)) pa_nil))))
        (pg_tup (by rfl) (pgs_cons (pg_name (i := 12) scPa.nd rfl (Or.inl rfl)) (pgs_cons (pg_name (i := 13) scPa.nd rfl (Or.inl rfl)) (pgs_cons (pg_name (i := 14) scPa.nd rfl (Or.inl rfl)) pgs_nil))))
        (pss_one (ps_if (pt_val (pe_meth (pv 6) T.cl m4 G4 (hr.mono (by omega)) b4 .nil pass0 (pa_cons (pv 13) (pa_cons (pv 14) pa_nil))))
          (pss_cons (ps_expr (pe_bm PySem.F.plainAttrs_list PySem.F.slot_list_append PySem.F.type_list_append mt_append (pv 7) (pa_cons (pe_tup (pa_cons (pv 13) (pa_cons (pv 14) pa_nil))) pa_nil))) (pss_one (ps_expr (pe_bm PySem.F.plainAttrs_list PySem.F.slot_list_append PySem.F.type_list_append mt_append (pv 8) (pa_cons (pe_tup (pa_cons (pv 9) (pa_cons (pv 12) pa_nil))) pa_nil))))) pss_nil))) (pss_one (ps_aug (i := 9) scPa.nd rfl (Or.inl rfl) pe_int ip_add)))))) (pss_one (ps_ret pe_non)))))))))))), ?_⟩
  refine t_seq ⟨_, rfl, lv, _, rfl, hL.1.choose_spec, hL.2, hT1, fun good H1 e1 => ?_, fun bad H1 e1 => qL bad H1 e1⟩
  dsimp only
  obtain ⟨L, rfl⟩ : ∃ L, lv = .str L := by
    cases lv <;> first | exact ⟨_, rfl⟩ | cases good
  have hgL : goodS L = true := good
  refine t_seq ⟨_, rfl, _, rfl, m, sa, ea, rs, ss, es, rv, Tr, rfl, hm.ext e1, hn, kn_ext e1 hrk, fun hgr => ?_, fun hbr => qR good hbr _ e1⟩
  dsimp only
  refine t_seq ⟨_, rfl, _, rfl, m, sa, ea, rs, ss, es, ov, To, rfl, hm.ext e1, hn, kn_ext e1 hok, fun hgo => ?_, fun hbo => qO good hgr hbo _ e1⟩
  dsimp only
  obtain ⟨a, han, rfl⟩ := goodR_nat hgr
  obtain ⟨b, hbn, rfl⟩ := goodR_nat hgo
  obtain ⟨hw, qw, qn⟩ := qg L a b rfl hgL rfl han rfl hbn
  have hl0 : 0 < (cds L).length := by rw [show (cds L).length = L.cps.size from Array.length_toList]; exact (good_len hgL).1
  have hLs : L.cps.size = (cds L).length := Array.length_toList.symm
  have ok := hw.ok hl0
  have m1 := hm.ext e1
  generalize hMM : macOf (cds L).length ss es = MM at qw qn ok
  have hMn : MM.n = ss.length := by rw [← hMM]; rfl
  have hMl : MM.l = (cds L).length := by rw [← hMM]; rfl
  refine t_seq ⟨_, rfl, m, [.ref sa, .ref ea], rfl, SqT.of m1.m, rfl, _, _, rfl, _, _, rfl, rfl, ?_⟩
  dsimp only
  refine t_set ?_
  refine ⟨_, rfl, .ref sa, _, rfl, .inl ⟨_, SqL.of m1.s, rfl⟩, ?_⟩
  intro x dx nx ndx nex
  rw [List.length_map, m1.len]
  refine ⟨x, dx, ss.length, rfl, by omega, upd_same, fun u xu => ⟨rfl, ?_⟩⟩
  -- the meeting stands
  have hux : u ≠ x := fun e => by rw [e, upd_same] at xu; cases xu
  have hudx : u ≠ dx := fun e => by rw [e, upd_ne nex, upd_same] at xu; cases xu
  have hu1 : H1 u = none := by rw [upd_ne hux, upd_ne hudx] at xu; exact xu
  have e2 : Ext H1 (upd (upd (upd (upd H1 dx (.own x)) x (.ins C dx [])) u (.lst (nVs (List.range ss.length)))) x (.ins C dx (mf u))) := by
    have f1 : Ext H1 (upd H1 dx (.own x)) := Ext.new ndx
    have f2 := f1.wr (p := x) (o := .ins C dx []) nx
    have f3 := f2.wr (p := u) (o := .lst (nVs (List.range ss.length))) hu1
    exact f3.wr nx
  have hx2 : upd (upd (upd (upd H1 dx (.own x)) x (.ins C dx [])) u (.lst (nVs (List.range ss.length)))) x (.ins C dx (mf u)) x = some (.ins C dx (mf u)) := upd_same
  have hu2 : upd (upd (upd (upd H1 dx (.own x)) x (.ins C dx [])) u (.lst (nVs (List.range ss.length)))) x (.ins C dx (mf u)) u = some (.lst (nVs (List.range ss.length))) := by rw [upd_ne hux]; exact upd_same
  generalize upd (upd (upd (upd H1 dx (.own x)) x (.ins C dx [])) u (.lst (nVs (List.range ss.length)))) x (.ins C dx (mf u)) = H2 at e2 hx2 hu2
  refine t_seq ⟨_, rfl, x, dx, mf u, rfl, hx2, rfl, _, rfl, _, rfl, x, dx, u, ss.length, a, b, _, rfl, hx2, hu2, uf_start _, han, hbn, fun ns o U jt jf => ?_⟩
  dsimp only
  have hur : UR ns (Conn [(a, b)]) := by
    cases o with
    | true => exact (jt rfl).2 _ (Conn.equiv _) (ur_start _ (Conn.equiv _)) (Conn.mem (List.mem_singleton.mpr rfl))
    | false => exact ((jf rfl).2 _ (Conn.equiv _) (ur_start _ (Conn.equiv _))).2
  have hro : roots ns ≤ ss.length := by
    have := roots_le ns
    rw [U.len] at this; exact this
  have e3 : Ext H1 (upd H2 u (.lst (nVs ns))) := e2.wr hu1
  have hx3 : upd H2 u (.lst (nVs ns)) x = some (.ins C dx (mf u)) := by rw [upd_ne (mins_ne hx2 hu2)]; exact hx2
  have hu3 : upd H2 u (.lst (nVs ns)) u = some (.lst (nVs ns)) := upd_same
  generalize upd H2 u (.lst (nVs ns)) = H3 at e3 hx3 hu3
  have z1 : 1 ≤ sizeLine := by decide
  have z2 : 2 ≤ sizeLine := by decide
  refine t_set ⟨_, rfl, _, rfl, z2, fun t1 y1 => ⟨z1, fun pl y2 => ?_⟩⟩
  have f1 := Ext.new (o := .tup [nV a, nV b]) y1
  have f2 := Ext.new (o := .lst [V.ref t1]) y2
  refine t_set ⟨z2, fun t2 y3 => ⟨z1, fun tl y4 => ?_⟩⟩
  have f3 := Ext.new (o := .tup [V.int 0, .str ""]) y3
  have f4 := Ext.new (o := .lst [V.ref t2]) y4
  have hpl4 := (f3.trans f4).lst (show upd (upd H3 t1 (.tup [nV a, nV b])) pl (.lst [V.ref t1]) pl = some _ from upd_same)
  have ht1 := (f2.trans (f3.trans f4)).sqT (K := K) t1 [nV a, nV b] (SqT.of upd_same)
  have ht2 := f4.sqT (K := K) t2 [V.int 0, .str ""] (SqT.of upd_same)
  have fa := f1.trans (f2.trans (f3.trans f4))
  have hu4 := fa.lst hu3
  have hx4 := fa.keep _ _ hx3 (fun ps z => by cases z)
  have htl4 : upd (upd (upd (upd H3 t1 (.tup [nV a, nV b])) pl (.lst [V.ref t1])) t2 (.tup [V.int 0, .str ""])) tl (.lst [V.ref t2]) tl = some (.lst [V.ref t2]) := upd_same
  have n1 : H1 pl = none := e3.free (f1.free y2)
  have n2 : H1 tl = none := e3.free (f1.free (f2.free (f3.free y4)))
  have g1 : u ≠ pl := fun e => by rw [← e, f1.lst hu3] at y2; cases y2
  have g2 : u ≠ tl := fun e => by rw [← e, (f1.trans (f2.trans f3)).lst hu3] at y4; cases y4
  have g3 : pl ≠ tl := fun e => by rw [← e, f3.lst (show upd (upd H3 t1 (.tup [nV a, nV b])) pl (.lst [V.ref t1]) pl = some _ from upd_same)] at y4; cases y4
  have e4 : Ext H1 _ := e3.trans fa
  generalize upd (upd (upd (upd H3 t1 (.tup [nV a, nV b])) pl (.lst [V.ref t1])) t2 (.tup [V.int 0, .str ""])) tl (.lst [V.ref t2]) = H4 at hpl4 ht1 ht2 hu4 hx4 htl4 e4
  clear f1 f2 f3 f4 fa
  have pb0 : PB H1 H4 C x dx u pl tl ns [.ref t1] [.ref t2] := ⟨e4, hu1, n1, n2, hx4, hu4, hpl4, htl4, g1, g2, g3⟩
  have pr0 : PrQ K H4 [.ref t1] [((a, b), [])] := ⟨rfl, fun i v q h1 h2 => by
    have : i = 0 := by have := (List.getElem?_eq_some_iff.mp h1).1; simp at this; exact this
    subst this
    cases h1; cases h2
    exact ⟨t1, rfl, ht1⟩⟩
  have tr0 : TrQ K H4 L [.ref t2] [((a, b), [])] := ⟨rfl, fun i v q h1 h2 => by
    have : i = 0 := by have := (List.getElem?_eq_some_iff.mp h1).1; simp at this; exact this
    subst this
    cases h1; cases h2
    exact ⟨t2, 0, "", rfl, ht2, fun _ => rfl, fun h => absurd h (Nat.lt_irrefl _)⟩⟩
  refine t_setC ?_
  refine t_seq ⟨fun mm σ H2 => ∃ (i : Nat) (ns : List Nat) (qs : List ((Nat × Nat) × List Nat)) (ps ts : List V) (o10 o11 o12 o13 o14 : Option V), mm = 2 * roots ns + qs.length - i ∧ σ = [some (.str L), some (.ref m), some (nV a), some (nV b), some (.ref sa), some (.ref ea), some (.ref x), some (.ref pl), some (.ref tl), some (nV i), o10, o11, o12, o13, o14] ∧
      PB H1 H2 C x dx u pl tl ns ps ts ∧ PrQ K H2 ps qs ∧ TrQ K H2 L ts qs ∧ Uf ss.length ns ∧ UR ns (Conn (qs.map Prod.fst)) ∧ Bfs MM a b qs i 0 ∧ i ≤ qs.length ∧ qs.length + roots ns ≤ ss.length + 1,
    ⟨_, 0, ns, [((a, b), [])], _, _, none, none, none, none, none, rfl, rfl, pb0, pr0, tr0, U, hur, Bfs.start _ _ _, by simp, by simp; omega⟩, ?_⟩
  clear pb0 pr0 tr0 hpl4 ht1 ht2 hu4 hx4 htl4 e4 hur hro U jt jf
  rintro mm σ H5 ⟨i, ns, qs, ps, ts, o10, o11, o12, o13, o14, rfl, rfl, pb, pr, tr, U, ur, bf, hi, hro⟩
  have m5 := m1.ext pb.e
  refine ⟨_, rfl, _, rfl, .ref pl, _, rfl, .inl ⟨_, SqL.of pb.hp, rfl⟩, _, _, rfl, rfl, _, rfl, ?_⟩
  rw [pr.len]
  by_cases hlt : i < qs.length
  case neg =>
    refine iffF (decide_eq_false (by omega)) ?_
    have : i = qs.length := by omega
    subst this
    exact qn (fun w hw => bf.none hw) _ (e1.trans pb.e)
  refine iffT (decide_eq_true (by omega)) ⟨fun σ' H3 => ∃ m' < 2 * roots ns + qs.length - i, ∃ (i : Nat) (ns : List Nat) (qs : List ((Nat × Nat) × List Nat)) (ps ts : List V) (o10 o11 o12 o13 o14 : Option V), m' = 2 * roots ns + qs.length - i ∧ σ' = [some (.str L), some (.ref m), some (nV a), some (nV b), some (.ref sa), some (.ref ea), some (.ref x), some (.ref pl), some (.ref tl), some (nV i), o10, o11, o12, o13, o14] ∧
      PB H1 H3 C x dx u pl tl ns ps ts ∧ PrQ K H3 ps qs ∧ TrQ K H3 L ts qs ∧ Uf ss.length ns ∧ UR ns (Conn (qs.map Prod.fst)) ∧ Bfs MM a b qs i 0 ∧ i ≤ qs.length ∧ qs.length + roots ns ≤ ss.length + 1, fun σ' H' ⟨m', h1, h2⟩ => ⟨m', h1, h2⟩, ?_⟩
  obtain ⟨q, hq⟩ : ∃ q, qs[i]? = some q := ⟨_, List.getElem?_eq_getElem hlt⟩
  obtain ⟨v, hv⟩ : ∃ v, ps[i]? = some v := ⟨_, List.getElem?_eq_getElem (by rw [pr.len]; exact hlt)⟩
  obtain ⟨ta, rfl, hta⟩ := pr.at_ i v q hv hq
  obtain ⟨qok, qrun⟩ := bf.run q (List.mem_of_getElem? hq)
  have q1n : q.1.1 < ss.length := by rw [qrun]; have := ok.run q.2 (hMn ▸ han) qok; rw [hMn] at this; exact this
  have q2n : q.1.2 < ss.length := by rw [qrun]; have := ok.run q.2 (hMn ▸ hbn) qok; rw [hMn] at this; exact this
  refine t_seq ?_
  refine ⟨_, rfl, _, rfl, pl, ps, _, _, rfl, rfl, SqL.of pb.hp, atI_nat hv, ta, _, rfl, hta, rfl, nV q.1.1, _, rfl, nV q.1.2, _, rfl, rfl, ?_⟩
  have en1 := hw.end_ q1n
  have en2 := hw.end_ q2n
  rw [hMM] at en1 en2
  dsimp only
  refine seq_fall (cond := MM.e q.1.1 ≠ MM.e q.1.2) (fun R qT qF => ?_) (fun hne H6 e6 => ?_) (fun heq H6 e6 => ?_)
  · refine ⟨_, rfl, _, rfl, ea, _, _, _, rfl, rfl, SqL.of m5.e, atI_nat en1, _, rfl, _, rfl, ea, _, _, _, rfl, rfl, SqL.of m5.e, atI_nat en2, rfl, _, rfl, ?_⟩
    by_cases h : MM.e q.1.1 = MM.e q.1.2
    · rw [show (!decide (V.bl (MM.e q.1.1) = V.bl (MM.e q.1.2))) = false by rw [h]; simp]
      exact qF (fun n => n h) _ (Ext.refl _)
    · rw [show (!decide (V.bl (MM.e q.1.1) = V.bl (MM.e q.1.2))) = true by rw [Bool.not_eq_true', decide_eq_false_iff_not]; intro k; injection k with k; exact h k]
      exact qT h _ (Ext.refl _)
  · have hpt : MM.Pt a b q.2 := ⟨qok, by
      have h1 : q.1.1 = MM.run a q.2 := congrArg Prod.fst qrun
      have h2 : q.1.2 = MM.run b q.2 := congrArg Prod.snd qrun
      rw [← h1, ← h2]; exact hne⟩
    obtain ⟨w0, hw0⟩ := least_pt hpt
    have := bf.found hq hne hw0
    subst this
    refine ⟨_, rfl, _, rfl, L, tl, ts, qs, i, q, rfl, e6.lst pb.ht, tr.tk e6.sqT, hq, by omega, fun H7 e7 => ?_⟩
    exact qw _ hw0 _ (e1.trans (pb.e.trans (e6.trans e7)))
  have heq : MM.e q.1.1 = MM.e q.1.2 := Classical.byContradiction heq
  have same := bf.begin hq heq (Q := ∀ i' p, qs[i']? = some p → i' ≤ i → MM.e p.1.1 = MM.e p.1.2) (fun h => h)
  have m6 := m5.ext e6
  obtain ⟨row1, r1, r2, r3, r4⟩ := hw.get q1n
  obtain ⟨row2, s1, s2, s3, s4⟩ := hw.get q2n
  have hra1 : q.1.1 < rs.length := by rw [m6.len]; exact q1n
  have hra2 : q.1.2 < rs.length := by rw [m6.len]; exact q2n
  obtain ⟨row1', r5, r6⟩ := m6.row _ _ (List.getElem?_eq_getElem hra1)
  cases (r1.symm.trans r5)
  obtain ⟨row2', s5, s6⟩ := m6.row _ _ (List.getElem?_eq_getElem hra2)
  cases (s1.symm.trans s5)
  have pb6 : PB H1 H6 C x dx u pl tl ns ps ts := ⟨pb.e.trans e6, pb.nu, pb.npl, pb.ntl, e6.keep _ _ pb.me (fun ps z => by cases z), e6.lst pb.us, e6.lst pb.hp, e6.lst pb.ht, pb.d1, pb.d2, pb.d3⟩
  have nrow : ∀ {r : Nat} {c : Addr}, rs[r]? = some c → H1 c ≠ none := fun {r c} hc hnone => by
    obtain ⟨rw_, _, h9⟩ := m1.row r c hc
    rw [hnone] at h9; cases h9
  refine t_seq ⟨_, rfl, _, rfl, _, rfl, sa, _, _, _, rfl, rfl, SqL.of m6.s, atI_nat (by rw [List.getElem?_map, List.getElem?_eq_getElem hra1]; rfl), _, rfl, _, rfl, sa, _, _, _, rfl, rfl, SqL.of m6.s, atI_nat (by rw [List.getElem?_map, List.getElem?_eq_getElem hra2]; rfl), L, rs[q.1.1], rs[q.1.2], nVs row1, nVs row2, rfl, SqL.of r6, SqL.of s6, ?_⟩
  refine for_zip3 (K := K) (tx := L) (xs := nVs row1) (ys := nVs row2) (by rw [nVs_len, r2, hLs]) (by rw [nVs_len, s2, hLs]) (fun k σ' H7 => ∃ (ns' : List Nat) (qs' : List ((Nat × Nat) × List Nat)) (ps' ts' : List V) (o12 o13 o14 : Option V), σ' = [some (.str L), some (.ref m), some (nV a), some (nV b), some (.ref sa), some (.ref ea), some (.ref x), some (.ref pl), some (.ref tl), some (nV i), some (nV q.1.1), some (nV q.1.2), o12, o13, o14] ∧
      PB H1 H7 C x dx u pl tl ns' ps' ts' ∧ PrQ K H7 ps' qs' ∧ TrQ K H7 L ts' qs' ∧ Uf ss.length ns' ∧ UR ns' (Conn (qs'.map Prod.fst)) ∧ Bfs MM a b qs' i k ∧ qs'[i]? = some q ∧ (∀ i' p, qs'[i']? = some p → i' ≤ i → MM.e p.1.1 = MM.e p.1.2) ∧ qs'.length + roots ns' ≤ ss.length + 1 ∧ qs.length ≤ qs'.length ∧ 2 * roots ns' + qs'.length ≤ 2 * roots ns + qs.length)
    ⟨ns, qs, ps, ts, _, _, _, rfl, pb6, pr.tk e6.sqT, tr.tk e6.sqT, U, ur, bf, hq, same, hro, Nat.le_refl _, Nat.le_refl _⟩ ?_ ?_ ?_
  · rintro k σ' H7 ⟨ns', qs', ps', ts', _, _, _, _, pb7, _⟩
    have m7 := m1.ext pb7.e
    obtain ⟨w1, w2, w3⟩ := m7.row _ _ (List.getElem?_eq_getElem hra1)
    cases (r1.symm.trans w2)
    obtain ⟨v1, v2, v3⟩ := m7.row _ _ (List.getElem?_eq_getElem hra2)
    cases (s1.symm.trans v2)
    exact ⟨SqL.of w3, SqL.of v3⟩
  · rintro k c y1' y2' Tz σ' H7 hc hx1 hx2' ⟨ns', qs', ps', ts', p12, p13, p14, rfl, pb7, pr7, tr7, U7, ur7, bf7, hq7, same7, hro7, hql7, hms7⟩ hTz
    have hck : (cds L)[k]? = some c := by rw [← hc]; exact Array.getElem?_toList
    have hkl : k < (cds L).length := (List.getElem?_eq_some_iff.mp hck).1
    cases (hck.symm.trans (lt_get hkl))
    have hst1 := r4 k hkl
    have hst2 := s4 k hkl
    rw [hMM] at hst1 hst2
    have ey1 : y1' = nV (MM.st q.1.1 k) := Option.some.inj (hx1.symm.trans (nVs_get hst1))
    have ey2 : y2' = nV (MM.st q.1.2 k) := Option.some.inj (hx2'.symm.trans (nVs_get hst2))
    subst ey1 ey2
    have hkM : k < MM.l := by rw [hMl]; exact hkl
    have st1n : MM.st q.1.1 k < ss.length := by have := ok.st q.1.1 k (by rw [hMn]; exact q1n) hkM; rw [hMn] at this; exact this
    have st2n : MM.st q.1.2 k < ss.length := by have := ok.st q.1.2 k (by rw [hMn]; exact q2n) hkM; rw [hMn] at this; exact this
    have pbT := pb7.new (o := .tup [.str ⟨#[lt L k]⟩, nV (MM.st q.1.1 k), nV (MM.st q.1.2 k)]) hTz
    have eT := Ext.new (o := .tup [.str ⟨#[lt L k]⟩, nV (MM.st q.1.1 k), nV (MM.st q.1.2 k)]) hTz
    have hTT : upd H7 Tz (.tup [.str ⟨#[lt L k]⟩, nV (MM.st q.1.1 k), nV (MM.st q.1.2 k)]) Tz = some (.tup [.str ⟨#[lt L k]⟩, nV (MM.st q.1.1 k), nV (MM.st q.1.2 k)]) := upd_same
    have prT := pr7.tk (eT.sqT (K := K))
    have trT := tr7.tk (eT.sqT (K := K))
    generalize upd H7 Tz (.tup [.str ⟨#[lt L k]⟩, nV (MM.st q.1.1 k), nV (MM.st q.1.2 k)]) = H8 at pbT hTT prT trT
    refine ⟨Tz, _, rfl, SqT.of hTT, rfl, .str (sgn (lt L k)), _, rfl, nV (MM.st q.1.1 k), _, rfl, nV (MM.st q.1.2 k), _, rfl, rfl, ?_⟩
    refine ⟨_, rfl, x, dx, mf u, rfl, pbT.me, rfl, _, rfl, _, rfl, x, dx, u, ss.length, _, _, ns', rfl, pbT.me, pbT.us, U7, st1n, st2n, fun ns2 o U2 jt jf => ⟨_, rfl, ?_⟩⟩
    have pbU := pbT.setU (ns' := ns2)
    have tU := tk_lst (K := K) (o := .lst (nVs ns2)) pbT.us
    have prU := prT.tk tU
    have trU := trT.tk tU
    generalize upd H8 u (.lst (nVs ns2)) = H9 at pbU prU trU
    cases o with
    | false =>
      refine iffF rfl ?_
      have j1 := (jf rfl).2 _ (Conn.equiv (qs'.map Prod.fst)) ur7
      have hr2 := (jf rfl).1
      exact ⟨ns2, qs', ps', ts', _, _, _, rfl, pbU, prU, trU, U2, j1.2, bf7.skip hq7 hkM same7 j1.1, hq7, same7, by omega, hql7, by omega⟩
    | true =>
      refine iffT rfl ?_
      obtain ⟨j1, j2⟩ := jt rfl
      have sub : ∀ p ∈ qs'.map Prod.fst, p ∈ (qs' ++ [((MM.st q.1.1 k, MM.st q.1.2 k), q.2 ++ [k])]).map Prod.fst := fun p hp => by rw [List.map_append]; exact List.mem_append_left _ hp
      have ur2 := j2 _ (Conn.equiv ((qs' ++ [((MM.st q.1.1 k, MM.st q.1.2 k), q.2 ++ [k])]).map Prod.fst)) (fun r y h => (ur7 r y h).mono sub) (Conn.mem (by rw [List.map_append]; exact List.mem_append_right _ (List.mem_singleton.mpr rfl)))
      have hpl : ps'.length < sizeLine := Nat.lt_of_le_of_lt (show ps'.length ≤ 1000 by rw [pr7.len]; omega) (by decide)
      have htl : ts'.length < sizeLine := Nat.lt_of_le_of_lt (show ts'.length ≤ 1000 by rw [tr7.len]; omega) (by decide)
      refine t_seq ⟨_, rfl, .inl ⟨rfl, _, SqL.of pbU.hp⟩, _, rfl, _, rfl, z2, fun a1 w1 => ?_⟩
      have pbA := pbU.new (o := .tup [nV (MM.st q.1.1 k), nV (MM.st q.1.2 k)]) w1
      have eA := Ext.new (o := .tup [nV (MM.st q.1.1 k), nV (MM.st q.1.2 k)]) w1
      have hA : SqT K (upd H9 a1 (.tup [nV (MM.st q.1.1 k), nV (MM.st q.1.2 k)])) a1 [nV (MM.st q.1.1 k), nV (MM.st q.1.2 k)] := SqT.of upd_same
      have prA := prU.tk (eA.sqT (K := K))
      have trA := trU.tk (eA.sqT (K := K))
      generalize upd H9 a1 (.tup [nV (MM.st q.1.1 k), nV (MM.st q.1.2 k)]) = H10 at pbA hA prA trA
      refine ⟨pl, _, _, rfl, rfl, pbA.hp, hpl, ?_⟩
      have pbB := pbA.setP (ps' := ps' ++ [.ref a1])
      have tB := tk_lst (K := K) (o := .lst (ps' ++ [.ref a1])) pbA.hp
      have prB := (prA.push (q := ((MM.st q.1.1 k, MM.st q.1.2 k), q.2 ++ [k])) hA).tk tB
      have trB := trA.tk tB
      generalize upd H10 pl (.lst (ps' ++ [.ref a1])) = H11 at pbB prB trB
      dsimp only
      refine ⟨_, rfl, .inl ⟨rfl, _, SqL.of pbB.ht⟩, _, rfl, _, rfl, z2, fun a2 w2 => ?_⟩
      have pbC := pbB.new (o := .tup [nV i, .str (sgn (lt L k))]) w2
      have eC := Ext.new (o := .tup [nV i, .str (sgn (lt L k))]) w2
      have hC : SqT K (upd H11 a2 (.tup [nV i, .str (sgn (lt L k))])) a2 [nV i, .str (sgn (lt L k))] := SqT.of upd_same
      have prC := prB.tk (eC.sqT (K := K))
      have trC := trB.tk (eC.sqT (K := K))
      refine ⟨tl, _, _, rfl, rfl, pbC.ht, htl, ?_⟩
      have pbD := pbC.setT (ts' := ts' ++ [.ref a2])
      have tD := tk_lst (K := K) (o := .lst (ts' ++ [.ref a2])) pbC.ht
      have hq8 : (qs' ++ [((MM.st q.1.1 k, MM.st q.1.2 k), q.2 ++ [k])])[i]? = some q := by rw [List.getElem?_append_left (List.getElem?_eq_some_iff.mp hq7).1]; exact hq7
      have trD := (trC.push (q := ((MM.st q.1.1 k, MM.st q.1.2 k), q.2 ++ [k])) hq7 hkl rfl hC).tk tD
      refine ⟨ns2, _, _, _, _, _, _, rfl, pbD, prC.tk tD, trD, U2, ur2, bf7.push hq7 hkM same7, hq8, fun i' p hp hi' => ?_, by rw [List.length_append, List.length_singleton]; omega, by rw [List.length_append]; omega, by rw [List.length_append, List.length_singleton]; omega⟩
      rw [List.getElem?_append_left (by have := (List.getElem?_eq_some_iff.mp hq7).1; omega)] at hp
      exact same7 i' p hp hi'
  · rintro σ' H7 ⟨ns', qs', ps', ts', p12, p13, p14, rfl, pb7, pr7, tr7, U7, ur7, bf7, hq7, same7, hro7, hql7, hms7⟩
    dsimp only
    rw [hLs, ← hMl] at bf7
    have hlen7 := (List.getElem?_eq_some_iff.mp hq7).1
    refine ⟨nV i, rfl, _, _, rfl, rfl, ?_⟩
    exact ⟨_, by omega, i + 1, ns', qs', ps', ts', _, _, _, _, _, rfl, rfl, pb7, pr7, tr7, U7, ur7, bf7.next (by rw [hMl]; exact hl0), by omega, hro7⟩
end
end Bo
set_option Elab.async false
set_option linter.all false
set_option maxRecDepth 100000
set_option maxHeartbeats 8000000
namespace Bo
open PySem PySem.Spec PyProof.Rows L2 GE
/-! a table by pairs of rooms -/
def kp (a b : Nat) : List Key := [.inl (a : Int), .inl (b : Int)]
theorem kp_inj {a b c d : Nat} (h : kp a b = kp c d) : a = c ∧ b = d := by
  unfold kp at h
  injection h with h1 h2
  injection h2 with h2 _
  injection h1 with h1
  injection h2 with h2
  exact ⟨by omega, by omega⟩
theorem kp_map (a b : Nat) : (kp a b).map kV = [nV a, nV b] := rfl
structure FarK (n : Nat) (kvs : List (List Key × V)) (f : Nat → Nat → Option Nat) : Prop where
  val : ∀ a b, valV kvs (kp a b) = (f a b).map nV
  ks : ∃ ks : List (Nat × Nat), kvs.length = ks.length ∧ ks.Nodup ∧ (∀ p ∈ ks, p.1 < n ∧ p.2 < n) ∧ ∀ a b, f a b ≠ none ↔ (a, b) ∈ ks
theorem FarK.nil (n : Nat) : FarK n [] (fun _ _ => none) := ⟨fun _ _ => rfl, [], rfl, List.nodup_nil, fun _ h => (by cases h), fun _ _ => ⟨fun h => absurd rfl h, fun h => (by cases h)⟩⟩
def putF2 (f : Nat → Nat → Option Nat) (a b d : Nat) : Nat → Nat → Option Nat := fun x y => if x = a ∧ y = b then some d else f x y
theorem FarK.le {n : Nat} {kvs : List (List Key × V)} {f : Nat → Nat → Option Nat} (h : FarK n kvs f) : kvs.length ≤ n * n := by
  obtain ⟨ks, h1, h2, h3, _⟩ := h.ks
  rw [h1]
  have := nat_nodup_len (ks.map fun p => p.1 * n + p.2) (List.range (n * n)) ?_ ?_
  · rwa [List.length_map, List.length_range] at this
  · refine List.pairwise_map.mpr (h2.imp_of_mem fun {p q} hp hq ne e => ne ?_)
    obtain ⟨a1, a2⟩ := h3 p hp
    obtain ⟨b1, b2⟩ := h3 q hq
    have hn : 0 < n := by omega
    have e1 : (p.1 * n + p.2) / n = (q.1 * n + q.2) / n := congrArg (· / n) e
    have e2 : (p.1 * n + p.2) % n = (q.1 * n + q.2) % n := congrArg (· % n) e
    rw [Nat.mul_comm, Nat.mul_add_div hn, Nat.div_eq_of_lt a2, Nat.mul_comm, Nat.mul_add_div hn, Nat.div_eq_of_lt b2] at e1
    rw [Nat.mul_comm, Nat.mul_add_mod, Nat.mul_comm, Nat.mul_add_mod, Nat.mod_eq_of_lt a2, Nat.mod_eq_of_lt b2] at e2
    exact Prod.ext (by omega) e2
  · intro x hx
    obtain ⟨p, hp, rfl⟩ := List.mem_map.mp hx
    obtain ⟨a1, a2⟩ := h3 p hp
    refine List.mem_range.mpr ?_
    have : p.1 * n + n ≤ n * n := by
      have := Nat.mul_le_mul_right n (show p.1 + 1 ≤ n from a1)
      rw [Nat.add_mul] at this; omega
    omega
theorem FarK.put {n : Nat} {kvs : List (List Key × V)} {f : Nat → Nat → Option Nat} (h : FarK n kvs f) {a b d : Nat} (ha : a < n) (hb : b < n) (no : f a b = none) : FarK n (putK kvs (kp a b) (nV d)) (putF2 f a b d) ∧ (putK kvs (kp a b) (nV d)).length = kvs.length + 1 := by
  obtain ⟨ks, h1, h2, h3, h4⟩ := h.ks
  have hno : valV kvs (kp a b) = none := by rw [h.val, no]; rfl
  have hl : (putK kvs (kp a b) (nV d)).length = kvs.length + 1 := by rw [putK_new _ hno, List.length_append]; rfl
  have hm : (a, b) ∉ ks := fun hm => (h4 a b).mpr hm no
  refine ⟨⟨fun x y => ?_, ks ++ [(a, b)], by rw [hl, h1, List.length_append]; rfl, ?_, fun p hp => ?_, fun x y => ?_⟩, hl⟩
  · rw [valV_put]
    unfold putF2
    by_cases e : x = a ∧ y = b
    · rw [if_pos e, if_pos (by rw [e.1, e.2])]; rfl
    · rw [if_neg e, if_neg (fun k => e (kp_inj k))]; exact h.val x y
  · refine List.nodup_append.mpr ⟨h2, List.pairwise_singleton _ _, fun p hp q hq e => hm ?_⟩
    rw [List.mem_singleton.mp hq] at e
    exact e ▸ hp
  · rcases List.mem_append.mp hp with hp | hp
    · exact h3 p hp
    · rw [List.mem_singleton.mp hp]; exact ⟨ha, hb⟩
  · unfold putF2
    by_cases e : x = a ∧ y = b
    · rw [if_pos e, e.1, e.2]
      exact ⟨fun _ => List.mem_append_right _ (List.mem_singleton.mpr rfl), fun _ h => by cases h⟩
    · rw [if_neg e]
      refine ⟨fun k => List.mem_append_left _ ((h4 x y).mp k), fun k => (h4 x y).mpr ?_⟩
      rcases List.mem_append.mp k with k | k
      · exact k
      · have k := List.mem_singleton.mp k
        injection k with k1 k2
        exact absurd ⟨k1, k2⟩ e
/-! the law's table of distances -/
def pr (o t a b : Nat) : Prop := a < o ∨ (a = o ∧ b < t)
def Upto (m : Mac) (t : Nat) (f : Nat → Nat → Option Nat) : Prop := ∀ a b, a < m.n → b < m.n → ∀ d, f a b = some d ↔ m.Dist a b d ∧ d ≤ t
def Zero (m : Mac) (o t : Nat) (f : Nat → Nat → Option Nat) : Prop := ∀ a b, a < m.n → b < m.n → ∀ d, f a b = some d ↔ d = 0 ∧ m.e a ≠ m.e b ∧ pr o t a b
def Turn1 (m : Mac) (t o w : Nat) (f : Nat → Nat → Option Nat) : Prop := ∀ a b, a < m.n → b < m.n → ∀ d, f a b = some d ↔ m.Dist a b d ∧ (d ≤ t ∨ (d = t + 1 ∧ pr o w a b))
def AllFar (m : Mac) (f : Nat → Nat → Option Nat) : Prop := ∀ a b, a < m.n → b < m.n → ∀ d, f a b = some d ↔ m.Dist a b d
section
variable {m : Mac} {f : Nat → Nat → Option Nat}
theorem pr_step {o t a b : Nat} : pr o (t + 1) a b ↔ pr o t a b ∨ (a = o ∧ b = t) := by unfold pr; omega
theorem pr_row {o n a b : Nat} (hb : b < n) : pr o n a b ↔ pr (o + 1) 0 a b := by unfold pr; omega
theorem zero_start : Zero m 0 0 (fun _ _ => none) := fun a b _ _ d => ⟨fun h => (by cases h), fun ⟨_, _, h⟩ => (by unfold pr at h; omega)⟩
theorem zero_put {o t : Nat} (h : Zero m o t f) (ho : o < m.n) (ht : t < m.n) (e : m.e o ≠ m.e t) : f o t = none ∧ Zero m o (t + 1) (putF2 f o t 0) := by
  have hn : f o t = none := by
    cases q : f o t with
    | none => rfl
    | some d => have := ((h o t ho ht d).mp q).2.2; unfold pr at this; omega
  refine ⟨hn, fun a b ha hb d => ?_⟩
  unfold putF2
  by_cases k : a = o ∧ b = t
  · rw [if_pos k, pr_step, k.1, k.2]
    exact ⟨fun q => ⟨(Option.some.inj q).symm, e, .inr ⟨rfl, rfl⟩⟩, fun q => by rw [q.1]⟩
  · rw [if_neg k, pr_step, h a b ha hb d]
    exact ⟨fun q => ⟨q.1, q.2.1, .inl q.2.2⟩, fun q => ⟨q.1, q.2.1, q.2.2.resolve_right k⟩⟩
theorem zero_skip {o t : Nat} (h : Zero m o t f) (e : m.e o = m.e t) : Zero m o (t + 1) f := fun a b ha hb d => by
  rw [h a b ha hb d, pr_step]
  exact ⟨fun q => ⟨q.1, q.2.1, .inl q.2.2⟩, fun q => ⟨q.1, q.2.1, q.2.2.resolve_right fun k => q.2.1 (by rw [k.1, k.2]; exact e)⟩⟩
theorem zero_row {o : Nat} (h : Zero m o m.n f) : Zero m (o + 1) 0 f := fun a b ha hb d => by rw [h a b ha hb d, pr_row hb]
theorem zero_end (h : Zero m m.n 0 f) : Upto m 0 f := fun a b ha hb d => by
  rw [h a b ha hb d]
  constructor
  · rintro ⟨rfl, e, _⟩; exact ⟨dist0.mpr e, Nat.le_refl _⟩
  · rintro ⟨hd, hle⟩
    have : d = 0 := by omega
    subst this
    exact ⟨rfl, dist0.mp hd, .inl ha⟩
theorem turn_start {t : Nat} (h : Upto m t f) : Turn1 m t 0 0 f := fun a b ha hb d => by
  rw [h a b ha hb d]
  exact ⟨fun q => ⟨q.1, .inl q.2⟩, fun q => ⟨q.1, q.2.elim id fun k => by have := k.2; unfold pr at this; omega⟩⟩
theorem turn_end {t : Nat} (h : Turn1 m t m.n 0 f) : Upto m (t + 1) f := fun a b ha hb d => by
  rw [h a b ha hb d]
  refine ⟨fun q => ⟨q.1, by omega⟩, fun q => ⟨q.1, ?_⟩⟩
  by_cases k : d ≤ t
  · exact .inl k
  · exact .inr ⟨by omega, .inl ha⟩
theorem turn_row {t o : Nat} (h : Turn1 m t o m.n f) : Turn1 m t (o + 1) 0 f := fun a b ha hb d => by rw [h a b ha hb d, pr_row hb]
theorem turn_put {t o w k : Nat} (ok : m.Ok) (h : Turn1 m t o w f) (ho : o < m.n) (hw : w < m.n) (no : f o w = none) (hk : k < m.l) (hf : f (m.st o k) (m.st w k) = some t) : Turn1 m t o (w + 1) (putF2 f o w (t + 1)) := by
  have hd := ((h _ _ (ok.st o k ho hk) (ok.st w k hw hk) t).mp hf).1
  have hD : m.Dist o w (t + 1) := dist_step (fun d hd => by
    refine Classical.byContradiction fun n => ?_
    have := (h o w ho hw d).mpr ⟨hd, .inl (by omega)⟩
    rw [no] at this; cases this) hk hd
  intro a b ha hb d
  unfold putF2
  by_cases k : a = o ∧ b = w
  · rw [if_pos k, pr_step, k.1, k.2]
    constructor
    · intro q
      cases q
      exact ⟨hD, .inr ⟨rfl, .inr ⟨rfl, rfl⟩⟩⟩
    · rintro ⟨q, _⟩
      rw [hD.inj q]
  · rw [if_neg k, pr_step, h a b ha hb d]
    exact ⟨fun q => ⟨q.1, q.2.imp id fun x => ⟨x.1, .inl x.2⟩⟩, fun q => ⟨q.1, q.2.imp id fun x => ⟨x.1, x.2.resolve_right k⟩⟩⟩
theorem turn_skip {t o w : Nat} (ok : m.Ok) (h : Turn1 m t o w f) (ho : o < m.n) (hw : w < m.n) (no : f o w = none → ∀ k, k < m.l → f (m.st o k) (m.st w k) ≠ some t) : Turn1 m t o (w + 1) f := by
  intro a b ha hb d
  rw [h a b ha hb d, pr_step]
  refine ⟨fun q => ⟨q.1, q.2.imp id fun x => ⟨x.1, .inl x.2⟩⟩, fun q => ⟨q.1, q.2.elim .inl fun x => x.2.elim (fun y => .inr ⟨x.1, y⟩) fun y => ?_⟩⟩
  obtain ⟨rfl, rfl⟩ := y
  obtain ⟨rfl, _⟩ := x
  exfalso
  cases q0 : f a b with
  | some d' =>
    obtain ⟨q1, q2⟩ := (h a b ha hb d').mp q0
    have e := q1.inj q.1
    subst e
    rcases q2 with q2 | ⟨_, q2⟩
    · omega
    · unfold pr at q2; omega
  | none =>
    obtain ⟨k, hk, hd⟩ := dist_next q.1
    exact no q0 k hk ((h _ _ (ok.st a k ha hk) (ok.st b k hb hk) t).mpr ⟨hd, .inl (Nat.le_refl _)⟩)
theorem all_far {t : Nat} (ok : m.Ok) (h : Upto m (t + 1) f) (no : ∀ a b d, a < m.n → b < m.n → f a b = some d → d ≤ t) : AllFar m f := fun a b ha hb d => by
  refine ⟨fun q => ((h a b ha hb d).mp q).1, fun q => ?_⟩
  by_cases k : d ≤ t + 1
  · exact (h a b ha hb d).mpr ⟨q, k⟩
  · exfalso
    obtain ⟨a', b', ha', hb', hd⟩ := dist_between (t := t + 1) ok ha hb q (by omega)
    have := no a' b' _ ha' hb' ((h a' b' ha' hb' _).mpr ⟨hd, Nat.le_refl _⟩)
    omega
end
end Bo
set_option Elab.async false
set_option linter.all false
set_option maxRecDepth 100000
set_option maxHeartbeats 8000000
namespace Bo
open PySem PySem.Spec PyProof.Rows L2 GE
theorem for_rangeN {n : Nat} {g : TG} {tb : TS} {D : Ends} {σ : L2.St} {H : Hp} (Pv : Nat → L2.St → Hp → Prop) (h0 : Pv 0 σ H)
    (hs : ∀ i σ H, i < n → Pv i σ H → g (nV i) σ H fun σ2 H2 => tb { D with nx := Pv (i + 1), ct := Pv (i + 1), bk := D.nx } σ2 H2) (hd : ∀ σ H, Pv n σ H → D.nx σ H) :
    ∃ W : Nat → Nat → L2.St → Hp → Prop, (∃ m, W 0 m σ H) ∧ ∀ i m σ H, W i m σ H →
      ((Itr 0 n).stop i H ∧ D.nx σ H) ∨ ((Itr 0 n).go i H ∧ ∃ N : L2.St → Hp → Prop, (∀ σ' H', N σ' H' → ∃ m', m' < m ∧ W (i + 1) m' σ' H') ∧ ∀ x H', (Itr 0 n).yld i H x H' → g x σ H' fun σ2 H2 => tb { D with nx := N, ct := N, bk := D.nx } σ2 H2) :=
  for_range (lo := 0) Pv h0 (fun i σ H hi p => by rw [Int.zero_add]; exact hs i σ H hi p) hd
theorem inV_ints (x : Int) (xs : List Int) : inV (.int x) (xs.map V.int) = decide (x ∈ xs) := by
  unfold inV
  rw [List.any_map]
  rw [Bool.eq_iff_iff, List.any_eq_true, decide_eq_true_eq]
  constructor
  · rintro ⟨y, hy, e⟩
    have e : (y == x) = true := e
    rw [beq_iff_eq] at e
    exact e ▸ hy
  · exact fun h => ⟨x, h, by show (x == x) = true; exact beq_self_eq_true x⟩
theorem kd {H H' : Hp} {a : Addr} {kvs : List (List Key × V)} (e : Ext H H') (h : H a = some (.dT kvs)) : H' a = some (.dT kvs) := e.keep _ _ h (fun ps z => by cases z)
/-- the goals of a pair of rooms -/
def goals (M : Mac) (f : Nat → Nat → Option Nat) (o t dflt : Nat) (k : Nat) : Nat := (f (M.st o k) (M.st t k)).getD dflt
theorem goals_mem {M : Mac} {f : Nat → Nat → Option Nat} {o t d : Nat} : (((d : Nat) : Int) ∈ (List.range M.l).map fun k => ((goals M f o t (d + 1) k : Nat) : Int)) ↔ ∃ k, k < M.l ∧ f (M.st o k) (M.st t k) = some d := by
  rw [List.mem_map]
  constructor
  · rintro ⟨k, hk, e⟩
    refine ⟨k, List.mem_range.mp hk, ?_⟩
    unfold goals at e
    cases h : f (M.st o k) (M.st t k) with
    | none =>
      rw [h] at e
      have e : ((d + 1 : Nat) : Int) = (d : Int) := e
      omega
    | some x =>
      rw [h] at e
      have e : ((x : Nat) : Int) = (d : Int) := e
      rw [show x = d by omega]
  · rintro ⟨k, hk, e⟩
    refine ⟨k, List.mem_range.mpr hk, ?_⟩
    unfold goals
    rw [e]; rfl
theorem if_fall {c : TT} {t : TS} {D : Ends} {σ : L2.St} {H : Hp} {cond : Prop} (hc : ∀ Q : Bool → Hp → Prop, (cond → ∀ H1, Ext H H1 → Q true H1) → (¬ cond → ∀ H1, Ext H H1 → Q false H1) → c σ H Q)
    (ht : cond → ∀ H1, Ext H H1 → t D σ H1) (hn : ¬ cond → ∀ H1, Ext H H1 → D.nx σ H1) : tIfS c t tNext D σ H := hc _ (fun k H1 e => iffT rfl (ht k H1 e)) (fun k H1 e => iffF rfl (hn k H1 e))
def spFar (K : PySem.W.Frag) : Sp := fun vs H Q _ => ∃ (m s e : Addr) (rs : List Addr) (ss : List (List Nat)) (es : List Bool) (l : Nat), vs = [.ref s, .ref e] ∧ MacAt H m s e rs ss es ∧ Well l ss es ∧ 0 < l ∧ l ≤ 4 ∧ ss.length ≤ 20 ∧
  ∀ F kvs f H', H F = none → Ext H H' → H' F = some (.dT kvs) → FarK ss.length kvs f → AllFar (macOf l ss es) f → (∀ a b d, a < ss.length → b < ss.length → f a b = some d → d ≤ kvs.length) → Q (.ref F) H'
section
variable {P : Program} {w : World} {K : PySem.W.Frag} {mg : Str → Option Value} {base : Heap}
theorem scFar : FnScope ["_law_steps", "_law_ends", "_law_many", "_law_far_here", "_law_one", "_law_two", "_law_size", "_law_turn", "_law_goals", "_law_a", "_law_b"] ["_law_steps", "_law_ends"] (defScope sLawFar) := ⟨rfl, rfl, rfl, by decide +kernel, rfl, by decide +kernel, by decide +kernel⟩
theorem far_ok {f : Addr} {fd : FuncData} (F : FnP K "_law_far" sLawFar f fd) (ml : mg "len" = none) (mr : mg "range" = none) (mz : mg "zip" = none) : FnOk P w K mg base CX0 1 f fd ["_law_steps", "_law_ends"] (spFar K) := by
  refine okD F scFar (fun vs H Q E h => ?_) (fun cdv A outer s H vs Q E hr h => ?_)
  · obtain ⟨m, s, e, rs, ss, es, l, rfl, _⟩ := h
    rfl
  obtain ⟨m, s', e, rs, ss, es, l, rfl, hm, hw, hl, hl4, hn, q⟩ := h
  have hu := hu_of hr
  refine ⟨_, (pss_cons (ps_set (i := 2) scFar.nd rfl (Or.inl rfl) (pe_callB call_len rfl ml PySem.boot_len (pa_cons (pv 1) pa_nil))) (pss_cons (ps_set (i := 3) scFar.nd rfl (Or.inr rfl) pe_dnewT) (pss_cons (ps_for PassesOwn.never rfl (pi_range1 rfl mr (pa_cons (pv 2) pa_nil)) (pg_name (i := 4) scFar.nd rfl (Or.inl rfl))
      (pss_one (ps_for PassesOwn.never rfl (pi_range1 rfl mr (pa_cons (pv 2) pa_nil)) (pg_name (i := 5) scFar.nd rfl (Or.inl rfl))
        (pss_one (ps_if (pt_cmpR op_ne (pe_ix ix_list (pv 1) (pv 4) (fun _ _ => rfl)) (pe_ix ix_list (pv 1) (pv 5) (fun _ _ => rfl)) (nomark _))
          (pss_one (ps_dput hu (pv 3) (pe_tup (pa_cons (pv 4) (pa_cons (pv 5) pa_nil))) pe_int rfl)) pss_nil))))) (pss_cons (ps_set (i := 6) scFar.nd rfl (Or.inl rfl) (pe_un un_neg pe_int)) (pss_cons (ps_set (i := 7) scFar.nd rfl (Or.inr rfl) pe_int) (pss_cons (ps_while PassesOwn.never (pt_cmpR op_lt (pv 6) (pe_callB call_len_dT rfl ml PySem.boot_len (pa_cons (pv 3) pa_nil)) (nomark _))
      (pss_cons (ps_set (i := 6) scFar.nd rfl (Or.inl rfl) (pe_callB call_len_dT rfl ml PySem.boot_len (pa_cons (pv 3) pa_nil))) (pss_cons (ps_set (i := 7) scFar.nd rfl (Or.inr rfl) (pe_op op_add (pv 7) pe_int)) (pss_one (ps_for PassesOwn.never rfl (pi_range1 rfl mr (pa_cons (pv 2) pa_nil)) (pg_name (i := 4) scFar.nd rfl (Or.inl rfl))
        (pss_one (ps_for PassesOwn.never rfl (pi_range1 rfl mr (pa_cons (pv 2) pa_nil)) (pg_name (i := 5) scFar.nd rfl (Or.inl rfl))
          (pss_cons (ps_setLc (i := 8) (own := [("_law_a", 9), ("_law_b", 10)]) (g := gTup K 2 (gCons (gName 9) (gCons (gName 10) gNil))) (tt := tYes) (te := tDGet2 (tVar 3) (tTup (tCons (tVar 9) (tCons (tVar 10) tNil))) (tVar 7)) rfl scFar.nd rfl rfl (sw_true rfl rfl rfl (by decide +kernel)) (pi_zip rfl mz (pa_cons (pe_ix ix_list (pv 0) (pv 4) (fun _ _ => rfl)) (pa_cons (pe_ix ix_list (pv 0) (pv 5) (fun _ _ => rfl)) pa_nil)))
            (blkOk_by (N := ["_law_steps", "_law_ends", "_law_many", "_law_far_here", "_law_one", "_law_two", "_law_size", "_law_turn", "_law_goals", "_law_a", "_law_b"]) (sc := defScope sLawFar) (by decide +kernel))
            (fun _ _ _ _ _ => pg_tup rfl (pgs_cons (pg_name (i := 9) scFar.nd rfl (Or.inl rfl) (Or.inr rfl)) (pgs_cons (pg_name (i := 10) scFar.nd rfl (Or.inl rfl) (Or.inr rfl)) pgs_nil))) (fun _ _ _ _ _ => pts_nil)
            (fun _ _ _ _ _ => pe_dget2 hu (pv 3) (pe_tup (pa_cons (pv 9) (pa_cons (pv 10) pa_nil))) (pv 7) ⟨rfl, rfl, rfl, rfl⟩)) (pss_one (ps_if (PW.pt (pw_and (pt_cmp (pc_dnotin hu (pe_tup (pa_cons (pv 4) (pa_cons (pv 5) pa_nil))) (pv 3))) (pw_and1 (pt_cmpR op_in_seq (pe_op op_sub (pv 7) pe_int) (pv 8) (by rfl)))))
            (pss_one (ps_dput hu (pv 3) (pe_tup (pa_cons (pv 4) (pa_cons (pv 5) pa_nil))) (pv 7) rfl)) pss_nil)))))))))) (pss_one (ps_ret (pv 3))))))))), ?_⟩
  have ok := hw.ok hl
  have hnw : (macOf l ss es).n = ss.length := rfl
  generalize hMM : macOf l ss es = M at ok q hnw
  have hMl : M.l = l := by rw [← hMM]; rfl
  have l9 : ∀ n : Nat, n ≤ 1000 → n < sizeLine := fun n h => Nat.lt_of_le_of_lt h (by decide)
  have hnn : ss.length * ss.length ≤ 400 := Nat.mul_le_mul hn hn
  have z2 : 2 ≤ sizeLine := by decide
  refine t_set ⟨_, rfl, .ref e, _, rfl, .inl ⟨_, SqL.of hm.e, rfl⟩, ?_⟩
  rw [show (bVs es).length = ss.length by unfold bVs; rw [List.length_map, hw.ends]]
  refine t_set (fun F xF => ?_)
  have bnd : ∀ (n : Nat), n ≤ 20 → (-(2 ^ 62) : Int) ≤ (n : Int) ∧ (n : Int) < 2 ^ 62 := fun n h => ⟨by omega, by omega⟩
  -- the first phase
  refine t_seq ⟨_, rfl, ss.length, rfl, (bnd _ hn).1, (bnd _ hn).2, ?_⟩
  refine for_rangeN (n := ss.length) (fun i σ' H' => ∃ kvs f o4 o5, σ' = [some (.ref s'), some (.ref e), some (nV ss.length), some (.ref F), o4, o5, none, none, none, none, none] ∧ Ext H H' ∧ H' F = some (.dT kvs) ∧ FarK ss.length kvs f ∧ Zero M i 0 f)
    ⟨[], _, none, none, rfl, Ext.new xF, upd_same, FarK.nil _, zero_start⟩ ?_ ?_
  · rintro i σ' H1 hi ⟨kvs, g, o4, o5, rfl, e1, hF, hK, hZ⟩
    refine ⟨_, rfl, ss.length, rfl, (bnd _ hn).1, (bnd _ hn).2, ?_⟩
    refine for_rangeN (n := ss.length) (fun j σ' H' => ∃ kvs f o5, σ' = [some (.ref s'), some (.ref e), some (nV ss.length), some (.ref F), some (nV i), o5, none, none, none, none, none] ∧ Ext H H' ∧ H' F = some (.dT kvs) ∧ FarK ss.length kvs f ∧ Zero M i j f)
      ⟨kvs, g, _, rfl, e1, hF, hK, hZ⟩ ?_ ?_
    · rintro j σ' H2 hj ⟨kvs, g, o5, rfl, e2, hF, hK, hZ⟩
      have en1 := hw.end_ hi
      have en2 := hw.end_ hj
      rw [hMM] at en1 en2
      have m2 := hm.ext e2
      refine ⟨_, rfl, _, rfl, e, _, _, _, rfl, rfl, SqL.of m2.e, atI_nat en1, _, rfl, _, rfl, e, _, _, _, rfl, rfl, SqL.of m2.e, atI_nat en2, rfl, _, rfl, ?_⟩
      by_cases h : M.e i = M.e j
      · refine iffF (by rw [h]; simp) ?_
        exact ⟨kvs, g, _, rfl, e2, hF, hK, zero_skip hZ h⟩
      · refine iffT (by rw [Bool.not_eq_true', decide_eq_false_iff_not]; intro k; injection k with k; exact h k) ?_
        obtain ⟨hno, hZ'⟩ := zero_put hZ (hnw ▸ hi) (hnw ▸ hj) h
        obtain ⟨hK', _⟩ := hK.put (d := 0) hi hj hno
        refine ⟨_, rfl, _, rfl, _, rfl, z2, fun p xp => ?_⟩
        have hF' : upd H2 p (.tup [nV i, nV j]) F = some (.dT kvs) := by rw [upd_ne (ne_of_none hF xp)]; exact hF
        refine ⟨F, _, rfl, DPut.t (k := kp i j) hF' upd_same (l9 _ (by have := hK.le; omega)), ?_⟩
        exact ⟨_, _, _, rfl, (e2.trans (Ext.new xp)).wr xF, upd_same, hK', hZ'⟩
    · rintro σ' H2 ⟨kvs, g, o5, rfl, e2, hF, hK, hZ⟩
      exact ⟨kvs, g, _, _, rfl, e2, hF, hK, zero_row (hnw ▸ hZ)⟩
  rintro σ' H3 ⟨kvs, g, o4, o5, rfl, e3, hF, hK, hZ⟩
  have hU := zero_end (m := M) (hnw ▸ hZ)
  dsimp only
  refine t_set ⟨_, rfl, t_setC ?_⟩
  refine t_seq ⟨fun mm σ H2 => ∃ (kvs : List (List Key × V)) (f : Nat → Nat → Option Nat) (t : Nat) (z : Int) (o4 o5 o8 o9 o10 : Option V), mm = ((ss.length * ss.length : Nat) - z).toNat ∧ σ = [some (.ref s'), some (.ref e), some (nV ss.length), some (.ref F), o4, o5, some (.int z), some (nV t), o8, o9, o10] ∧ Ext H H2 ∧ H2 F = some (.dT kvs) ∧ FarK ss.length kvs f ∧ Upto M t f ∧ -1 ≤ z ∧ (t : Int) ≤ z + 1 ∧ z ≤ kvs.length ∧
      (z = kvs.length → 1 ≤ t ∧ ∀ a b d, a < ss.length → b < ss.length → f a b = some d → d ≤ t - 1),
    ⟨_, kvs, g, 0, -1, _, _, none, none, none, rfl, rfl, e3, hF, hK, hU, by omega, by omega, by omega, fun h => by omega⟩, ?_⟩
  clear hF hK hZ hU e3
  rintro mm σ H4 ⟨kvs, g, t, z, o4, o5, o8, o9, o10, rfl, rfl, e4, hF, hK, hU, hz1, htz, hzl, hend⟩
  refine ⟨_, rfl, _, rfl, F, kvs, rfl, hF, _, _, rfl, rfl, _, rfl, ?_⟩
  by_cases hlt : z < (kvs.length : Int)
  case neg =>
    refine iffF (decide_eq_false hlt) ⟨_, rfl, ?_⟩
    have hze : z = kvs.length := by omega
    obtain ⟨ht1, hle⟩ := hend hze
    obtain ⟨t', rfl⟩ : ∃ t', t = t' + 1 := ⟨t - 1, by omega⟩
    refine q F kvs g H4 xF e4 hF hK (all_far ok hU fun a b d ha hb h => hle a b d (hnw ▸ ha) (hnw ▸ hb) h) fun a b d ha hb h => ?_
    have := hle a b d ha hb h
    omega
  refine iffT (decide_eq_true hlt) ⟨fun σ' H3 => ∃ m' < ((ss.length * ss.length : Nat) - z).toNat, ∃ (kvs : List (List Key × V)) (f : Nat → Nat → Option Nat) (t : Nat) (z : Int) (o4 o5 o8 o9 o10 : Option V), m' = ((ss.length * ss.length : Nat) - z).toNat ∧ σ' = [some (.ref s'), some (.ref e), some (nV ss.length), some (.ref F), o4, o5, some (.int z), some (nV t), o8, o9, o10] ∧ Ext H H3 ∧ H3 F = some (.dT kvs) ∧ FarK ss.length kvs f ∧ Upto M t f ∧ -1 ≤ z ∧ (t : Int) ≤ z + 1 ∧ z ≤ kvs.length ∧
      (z = kvs.length → 1 ≤ t ∧ ∀ a b d, a < ss.length → b < ss.length → f a b = some d → d ≤ t - 1), fun σ' H' ⟨m', h1, h2⟩ => ⟨m', h1, h2⟩, ?_⟩
  refine t_set ⟨_, rfl, F, kvs, rfl, hF, ?_⟩
  refine t_set ⟨_, rfl, _, _, rfl, rfl, ?_⟩
  have hle0 := hK.le
  refine ⟨_, rfl, ss.length, rfl, (bnd _ hn).1, (bnd _ hn).2, ?_⟩
  have et : V.int ((t : Int) + 1) = nV (t + 1) := by show V.int _ = V.int _; congr 1
  refine for_rangeN (n := ss.length) (fun i σ' H' => ∃ kv f o4 o5 o8 o9 o10, σ' = [some (.ref s'), some (.ref e), some (nV ss.length), some (.ref F), o4, o5, some (nV kvs.length), some (nV (t + 1)), o8, o9, o10] ∧ Ext H H' ∧ H' F = some (.dT kv) ∧ FarK ss.length kv f ∧ Turn1 M t i 0 f ∧ kvs.length ≤ kv.length ∧ (kv.length = kvs.length → f = g))
    ⟨kvs, g, _, _, _, _, _, by rw [← et]; rfl, e4, hF, hK, turn_start hU, Nat.le_refl _, fun _ => rfl⟩ ?_ ?_
  · rintro i σ' H5 hi ⟨kv, f', o4, o5, o8, o9, o10, rfl, e5, hF5, hK5, hT5, hl5, hs5⟩
    refine ⟨_, rfl, ss.length, rfl, (bnd _ hn).1, (bnd _ hn).2, ?_⟩
    refine for_rangeN (n := ss.length) (fun j σ' H' => ∃ kv f o5 o8 o9 o10, σ' = [some (.ref s'), some (.ref e), some (nV ss.length), some (.ref F), some (nV i), o5, some (nV kvs.length), some (nV (t + 1)), o8, o9, o10] ∧ Ext H H' ∧ H' F = some (.dT kv) ∧ FarK ss.length kv f ∧ Turn1 M t i j f ∧ kvs.length ≤ kv.length ∧ (kv.length = kvs.length → f = g))
      ⟨kv, f', _, _, _, _, rfl, e5, hF5, hK5, hT5, hl5, hs5⟩ ?_ ?_
    · rintro j σ' H6 hj ⟨kv, f', o5, o8, o9, o10, rfl, e6, hF6, hK6, hT6, hl6, hs6⟩
      have m6 := hm.ext e6
      obtain ⟨row1, r1, r2, r3, r4⟩ := hw.get hi
      obtain ⟨row2, s1, s2, s3, s4⟩ := hw.get hj
      rw [hMM] at r4 s4
      have hra1 : i < rs.length := by rw [m6.len]; exact hi
      have hra2 : j < rs.length := by rw [m6.len]; exact hj
      obtain ⟨row1', r5, r6⟩ := m6.row _ _ (List.getElem?_eq_getElem hra1)
      cases (r1.symm.trans r5)
      obtain ⟨row2', s5, s6⟩ := m6.row _ _ (List.getElem?_eq_getElem hra2)
      cases (s1.symm.trans s5)
      refine t_set ⟨_, rfl, _, rfl, s', _, _, _, rfl, rfl, SqL.of m6.s, atI_nat (by rw [List.getElem?_map, List.getElem?_eq_getElem hra1]; rfl), _, rfl, _, rfl, s', _, _, _, rfl, rfl, SqL.of m6.s, atI_nat (by rw [List.getElem?_map, List.getElem?_eq_getElem hra2]; rfl), rs[i], rs[j], nVs row1, nVs row2, rfl, SqL.of r6, SqL.of s6, fun D hD => ?_⟩
      refine lc_itz (K := K) (a := rs[i]) (b := rs[j]) (xs := nVs row1) (ys := nVs row2) (by rw [nVs_len, nVs_len, r2, s2]) (Built H6 D fun k => nV (goals M f' i j (t + 1) k)) (Built.zero hD) (fun k H' b => ⟨SqL.of (b.1.lst r6), SqL.of (b.1.lst s6)⟩) ?_ ?_
      · intro k x1 x2 T H7 h1 h2 hT b
        have hk : k < l := by have := (List.getElem?_eq_some_iff.mp h1).1; rw [nVs_len, r2] at this; exact this
        have ex1 : x1 = nV (M.st i k) := Option.some.inj (h1.symm.trans (nVs_get (r4 k hk)))
        have ex2 : x2 = nV (M.st j k) := Option.some.inj (h2.symm.trans (nVs_get (s4 k hk)))
        subst ex1 ex2
        refine g_pair upd_same ⟨rfl, ?_⟩
        have eT := Ext.new (o := .tup [nV (M.st i k), nV (M.st j k)]) hT
        have hF7 := kd (b.1.trans eT) hF6
        refine ⟨_, rfl, F, rfl, .inr ⟨kv, .inl hF7⟩, _, rfl, _, rfl, z2, fun p xp => ?_⟩
        refine ⟨_, rfl, _, DGet.t (k := kp (M.st i k) (M.st j k)) (kd (Ext.new xp) hF7) upd_same, ?_⟩
        refine b.next hD (eT.trans (Ext.new xp)) ?_ (l9 k (by omega))
        rw [hK6.val]
        unfold goals
        cases f' (M.st i k) (M.st j k) <;> rfl
      · intro H7 b
        have hlen1 : (nVs row1).length = M.l := by rw [nVs_len, r2, hMl]
        rw [hlen1] at b
        have e67 := b.1
        have hF7 := kd e67 hF6
        have hD7 := b.2
        dsimp only
        have hgm : ((List.range M.l).map fun k => nV (goals M f' i j (t + 1) k)) = ((List.range M.l).map fun k => ((goals M f' i j (t + 1) k : Nat) : Int)).map V.int := by rw [List.map_map]; rfl
        rw [hgm] at hD7
        refine if_fall (cond := f' i j = none ∧ ((t : Nat) : Int) ∈ (List.range M.l).map fun k => ((goals M f' i j (t + 1) k : Nat) : Int)) (fun R qT qF => ?_) (fun ⟨c1, c2⟩ H8 e8 => ?_) (fun hno H8 e8 => ?_)
        · refine ⟨_, rfl, _, rfl, z2, fun p xp => ?_⟩
          have eP := Ext.new (o := .tup [nV i, nV j]) xp
          refine ⟨_, rfl, F, _, rfl, DGet.t (k := kp i j) (kd eP hF7) upd_same, _, rfl, ?_⟩
          rw [hK6.val]
          cases hfi : f' i j with
          | some d => exact iffF rfl (qF (fun h => by rw [hfi] at h; exact absurd h.1 (by simp)) _ eP)
          | none =>
            refine iffT rfl ⟨_, rfl, _, _, rfl, rfl, _, rfl, D, _, rfl, .inl (SqL.of (eP.lst hD7)), rfl, ?_, _, rfl, ?_⟩
            · rw [List.all_map, List.all_eq_true]; intro x _; rfl
            show R (if false = true then !inV (V.int (((t + 1 : Nat) : Int) - 1)) _ else inV (V.int (((t + 1 : Nat) : Int) - 1)) _) _
            rw [show (((t + 1 : Nat) : Int) - 1) = (t : Int) by omega, inV_ints]
            by_cases hin : ((t : Nat) : Int) ∈ (List.range M.l).map fun k => ((goals M f' i j (t + 1) k : Nat) : Int)
            · rw [show (if false = true then !decide _ else decide (((t : Nat) : Int) ∈ (List.range M.l).map fun k => ((goals M f' i j (t + 1) k : Nat) : Int))) = true from decide_eq_true hin]
              exact qT ⟨hfi, hin⟩ _ eP
            · rw [show (if false = true then !decide _ else decide (((t : Nat) : Int) ∈ (List.range M.l).map fun k => ((goals M f' i j (t + 1) k : Nat) : Int))) = false from decide_eq_false hin]
              exact qF (fun h => hin h.2) _ eP
        · obtain ⟨k, hk, c2⟩ := goals_mem.mp c2
          obtain ⟨hK', hlen'⟩ := hK6.put (d := t + 1) hi hj c1
          have hT' := turn_put ok hT6 (hnw ▸ hi) (hnw ▸ hj) c1 hk c2
          refine ⟨_, rfl, _, rfl, _, rfl, _, rfl, z2, fun p xp => ?_⟩
          have eP := Ext.new (o := .tup [nV i, nV j]) xp
          have hle6 := hK6.le
          refine ⟨F, _, rfl, DPut.t (k := kp i j) (kd (e8.trans eP) hF7) upd_same (l9 _ (by omega)), ?_⟩
          exact ⟨_, _, _, _, _, _, rfl, (e6.trans (e67.trans (e8.trans eP))).wr xF, upd_same, hK', hT', by omega, fun h => by omega⟩
        · refine ⟨kv, f', _, _, _, _, rfl, e6.trans (e67.trans e8), kd e8 hF7, hK6, turn_skip ok hT6 (hnw ▸ hi) (hnw ▸ hj) (fun c1 k hk c2 => hno ⟨c1, goals_mem.mpr ⟨k, hk, c2⟩⟩), hl6, hs6⟩
    · rintro σ' H6 ⟨kv, f', o5, o8, o9, o10, rfl, e6, hF6, hK6, hT6, hl6, hs6⟩
      exact ⟨kv, f', _, _, _, _, _, rfl, e6, hF6, hK6, turn_row (hnw ▸ hT6), hl6, hs6⟩
  · rintro σ' H5 ⟨kv, f', o4, o5, o8, o9, o10, rfl, e5, hF5, hK5, hT5, hl5, hs5⟩
    have hU' := turn_end (hnw ▸ hT5)
    have hle := hK5.le
    refine ⟨_, by omega, kv, f', t + 1, (kvs.length : Int), _, _, _, _, _, rfl, rfl, e5, hF5, hK5, hU', by omega, by omega, by omega, fun h => ⟨by omega, fun a b d ha hb hd => ?_⟩⟩
    have := hs5 (by omega)
    subst this
    exact ((hU a b (hnw ▸ ha) (hnw ▸ hb) d).mp hd).2
end
end Bo
set_option Elab.async false
set_option linter.all false
set_option maxRecDepth 100000
set_option maxHeartbeats 8000000
namespace Bo
open PySem PySem.Spec PyProof.Rows L2 GE
theorem lc_zipN {K : PySem.W.Frag} {g : TG} {tt : TT} {te : TE} {vs : List Nat} {σ : L2.St} {H1 : Hp} {D : Addr} {Qd : Hp → Prop} {a b : Addr} {xs ys : List V} (hl : xs.length = ys.length) (Pv : Nat → Hp → Prop) (h0 : Pv 0 (upd H1 D (.lst []))) (hq : ∀ i H, Pv i H → SqL K H a xs ∧ SqL K H b ys)
    (hs : ∀ i x y T H, xs[i]? = some x → ys[i]? = some y → H T = none → Pv i H → g (.ref T) (wipe σ vs) (upd H T (.tup [x, y])) fun σ2 H2 => wipe σ2 vs = wipe σ vs ∧ tt σ2 H2 fun b H3 =>
      if b = true then te σ2 H3 fun y H4 => ∃ acc, H4 D = some (.lst acc) ∧ acc.length < sizeLine ∧ Pv (i + 1) (upd H4 D (.lst (acc ++ [y]))) else Pv (i + 1) H3) (hd : ∀ H, Pv xs.length H → Qd H) :
    ∃ W : Nat → Nat → Hp → Prop, (∃ m, W 0 m (upd H1 D (.lst []))) ∧ ∀ i m H, W i m H →
      ((ItzN K a b).stop i H ∧ Qd H) ∨ ((ItzN K a b).go i H ∧ ∃ Nx : Hp → Prop, (∀ H', Nx H' → ∃ m', m' < m ∧ W (i + 1) m' H') ∧ ∀ v H', (ItzN K a b).yld i H v H' → g v (wipe σ vs) H' fun σ2 H2 => wipe σ2 vs = wipe σ vs ∧ tt σ2 H2 fun b H3 =>
        if b = true then te σ2 H3 fun y H4 => ∃ acc, H4 D = some (.lst acc) ∧ acc.length < sizeLine ∧ Nx (upd H4 D (.lst (acc ++ [y]))) else Nx H3) := by
  refine ⟨fun i m H => m = xs.length - i ∧ i ≤ xs.length ∧ Pv i H, ⟨xs.length, by simp, Nat.zero_le _, h0⟩, ?_⟩
  rintro i m H ⟨rfl, hi, p⟩
  obtain ⟨q1, q2⟩ := hq i H p
  by_cases hlt : i < xs.length
  · have hlt2 : i < ys.length := by omega
    refine .inr ⟨⟨xs, ys, xs[i], ys[i], q1, q2, by simp [hlt], by simp [hlt2]⟩, Pv (i + 1), fun H' p' => ⟨xs.length - (i + 1), by omega, rfl, hlt, p'⟩, fun v H' y => ?_⟩
    obtain ⟨T, x, y, rfl, hT, rfl, hx, hy⟩ := y
    exact hs i x y T H (hx xs q1) (hy ys q2) hT p
  · have e : i = xs.length := by omega
    subst e
    exact .inl ⟨⟨xs, ys, q1, q2, Nat.le_refl _⟩, hd H p⟩
theorem wt_snoc (L : Str) (w : List Nat) (k : Nat) : wt L w ++ sgn (lt L k) = wt L (w ++ [k]) := by
  unfold wt
  rw [List.map_append]
  exact txt_sgn _ _
theorem first_is {p : Nat → Prop} {n : Nat} (h : ∃ k, k < n ∧ p k) : ∃ k, k < n ∧ p k ∧ ∀ j, j < k → ¬ p j := by
  obtain ⟨k0, h1, h2⟩ := h
  have : ∀ m k, k ≤ m → k < n → p k → ∃ k, k < n ∧ p k ∧ ∀ j, j < k → ¬ p j := by
    intro m
    induction m with
    | zero => exact fun k hk hl hp => ⟨k, hl, hp, fun j hj => by omega⟩
    | succ m ih =>
      intro k hk hl hp
      by_cases h9 : ∃ j, j < k ∧ p j
      · obtain ⟨j, hj, hpj⟩ := h9
        exact ih j (by omega) (by omega) hpj
      · exact ⟨k, hl, hp, fun j hj hp => h9 ⟨j, hj, hp⟩⟩
  exact this k0 k0 (Nat.le_refl _) h1 h2
def spDuP (K : PySem.W.Frag) : Sp := fun vs H Q _ => ∃ (L : Str) (m s e : Addr) (rs : List Addr) (ss : List (List Nat)) (es : List Bool) (a b : Nat), vs = [.str L, .ref m, nV a, nV b] ∧ goodS L = true ∧ MacAt H m s e rs ss es ∧ Well (cds L).length ss es ∧ ss.length ≤ 20 ∧ a < ss.length ∧ b < ss.length ∧
  (∀ w, (macOf (cds L).length ss es).Least a b w → w.length ≤ 400 → ∀ H', Ext H H' → Q (.str (wt L w)) H') ∧ ((∀ w, ¬ (macOf (cds L).length ss es).Least a b w) → ∀ H', Ext H H' → Q .non H')
section
variable {P : Program} {w : World} {K : PySem.W.Frag} {mg : Str → Option Value} {base : Heap}
theorem scDuP : FnScope ["_law_letters_here", "_law_machine_here", "_law_one", "_law_two", "_law_steps", "_law_ends", "_law_far_here", "_law_text_here", "_law_goals", "_law_at", "_law_pair"] ["_law_letters_here", "_law_machine_here", "_law_one", "_law_two"] (defScope sLawDue) := ⟨rfl, rfl, rfl, by decide +kernel, rfl, by decide +kernel, by decide +kernel⟩
theorem dp_ok {f g : Addr} {fd gd : FuncData} (F : FnP K "_law_due" sLawDue f fd) (G : FnOk P w K mg base CX0 1 g gd ["_law_steps", "_law_ends"] (spFar K)) (bG : Binds K gd ["_law_steps", "_law_ends"] []) (kG : PySem.W.keepIn K (.ref g) = true) (mG : mg "_law_far" = some (.ref g))
    (ml : mg "len" = none) (mz : mg "zip" = none) : FnOk P w K mg base CX0 2 f fd ["_law_letters_here", "_law_machine_here", "_law_one", "_law_two"] (spDuP K) := by
  refine okD F scDuP (fun vs H Q E h => ?_) (fun cdv A outer s H vs Q E hr h => ?_)
  · obtain ⟨L, m, s, e, rs, ss, es, a, b, rfl, _⟩ := h
    rfl
  obtain ⟨L, m, s', e, rs, ss, es, a, b, rfl, hL, hm, hw, hn, ha, hb, qw, qn⟩ := h
  have hu := hu_of hr
  refine ⟨_, (pss_cons (ps_asg (pv 1) (pg_tup (by rfl) (pgs_cons (pg_name (i := 4) scDuP.nd rfl (Or.inl rfl)) (pgs_cons (pg_name (i := 5) scDuP.nd rfl (Or.inl rfl)) pgs_nil)))) (pss_cons (ps_set (i := 6) scDuP.nd rfl (Or.inr rfl) (pe_call G hr rfl mG kG bG .nil pass0 (pa_cons (pv 4) (pa_cons (pv 5) pa_nil)))) (pss_cons (ps_if (pt_cmp (pc_dnotin hu (pe_tup (pa_cons (pv 2) (pa_cons (pv 3) pa_nil))) (pv 6))) (pss_one (ps_ret pe_non)) pss_nil) (pss_cons (ps_set (i := 7) scDuP.nd rfl (Or.inl rfl) pe_str) (pss_cons (ps_while PassesOwn.never (pt_cmpR op_gt (pe_dget hu (pv 6) (pe_tup (pa_cons (pv 2) (pa_cons (pv 3) pa_nil))) (fun _ _ => rfl)) pe_int (nomark _))
      (pss_cons (ps_setLc (i := 8) (own := [("_law_pair", 10)]) (g := gName 10) (tt := tYes) (te := tDGet2 (tVar 6) (tVar 10) (tCB rLenT (tCons (tVar 6) tNil))) rfl scDuP.nd rfl rfl (sw_true rfl rfl rfl (by decide +kernel)) (pi_zipN rfl mz (pa_cons (pe_ix ix_list (pv 4) (pv 2) (fun _ _ => rfl)) (pa_cons (pe_ix ix_list (pv 4) (pv 3) (fun _ _ => rfl)) pa_nil)))
        (blkOk_by (N := ["_law_letters_here", "_law_machine_here", "_law_one", "_law_two", "_law_steps", "_law_ends", "_law_far_here", "_law_text_here", "_law_goals", "_law_at", "_law_pair"]) (sc := defScope sLawDue) (by decide +kernel))
        (fun _ _ _ _ _ => pg_name (i := 10) scDuP.nd rfl (Or.inl rfl) (Or.inr rfl)) (fun _ _ _ _ _ => pts_nil)
        (fun _ _ _ _ _ => pe_dget2 hu (pv 6) (pv 10) (pe_callB call_len_dT rfl ml PySem.boot_len (pa_cons (pv 6) pa_nil)) ⟨rfl, rfl, rfl, rfl⟩)) (pss_cons (ps_set (i := 9) scDuP.nd rfl (Or.inl rfl) (pe_bm PySem.F.plainAttrs_list PySem.F.slot_list_index PySem.F.type_list_index mt_index (pv 8) (pa_cons (pe_op op_sub (pe_dget hu (pv 6) (pe_tup (pa_cons (pv 2) (pa_cons (pv 3) pa_nil))) (fun _ _ => rfl)) pe_int) pa_nil))) (pss_cons (ps_set (i := 7) scDuP.nd rfl (Or.inl rfl) (pe_op op_add_str (pv 7) (pe_ix ix_str (pv 0) (pv 9) (fun _ _ => rfl)))) (pss_one (ps_par (i := 2) (j := 3) rfl scDuP.nd rfl rfl (by decide) rfl rfl (pa_cons (pe_ix ix_list (pe_ix ix_list (pv 4) (pv 2) (fun _ _ => rfl)) (pv 9) (fun _ _ => rfl)) (pa_cons (pe_ix ix_list (pe_ix ix_list (pv 4) (pv 3) (fun _ _ => rfl)) (pv 9) (fun _ _ => rfl)) pa_nil)) rfl)))))) (pss_one (ps_ret (pv 7)))))))), ?_⟩
  have hl0 : 0 < (cds L).length := by rw [show (cds L).length = L.cps.size from Array.length_toList]; exact (good_len hL).1
  have hl4 : (cds L).length ≤ 4 := by rw [show (cds L).length = L.cps.size from Array.length_toList]; exact (good_len hL).2
  have ok := hw.ok hl0
  have hnw : (macOf (cds L).length ss es).n = ss.length := rfl
  have hMl : (macOf (cds L).length ss es).l = (cds L).length := rfl
  have z2 : 2 ≤ sizeLine := by decide
  have l9 : ∀ n : Nat, n ≤ 1000 → n < sizeLine := fun n h => Nat.lt_of_le_of_lt h (by decide)
  have hnn : ss.length * ss.length ≤ 400 := Nat.mul_le_mul hn hn
  refine t_seq ⟨_, rfl, m, [.ref s', .ref e], rfl, SqT.of hm.m, rfl, _, _, rfl, _, _, rfl, rfl, ?_⟩
  dsimp only
  refine t_set ⟨_, rfl, _, rfl, m, s', e, rs, ss, es, _, rfl, hm, hw, hl0, hl4, hn, fun F kvs g H1 xF e1 hF hK hA hle => ?_⟩
  generalize hMM : macOf (cds L).length ss es = M at ok qw qn hA hnw hMl
  have hkn : kvs.length ≤ 400 := Nat.le_trans hK.le hnn
  have get : ∀ {o t d : Nat} {H' : Hp} {σ : L2.St} {R : VK}, o < ss.length → t < ss.length → M.Dist o t d → Ext H1 H' → σ[6]? = some (some (.ref F)) → σ[2]? = some (some (nV o)) → σ[3]? = some (some (nV t)) →
      (∀ p, H' p = none → R (nV d) (upd H' p (.tup [nV o, nV t]))) → tDGet (tVar 6) (tTup (tCons (tVar 2) (tCons (tVar 3) tNil))) σ H' R := fun {o t d H' σ R} ho ht hd e' s6 s2 s3 h => by
    refine ⟨_, s6, _, s2, _, s3, z2, fun p xp => ⟨F, nV d, rfl, ?_, h p xp⟩⟩
    have hv := hK.val o t
    rw [(hA o t (hnw ▸ ho) (hnw ▸ ht) d).mpr hd] at hv
    have := DGet.t (k := kp o t) (kd (e'.trans (Ext.new (o := .tup [nV o, nV t]) xp)) hF) (upd_same (H := H') (a := p) (o := .tup [nV o, nV t]))
    rw [hv] at this
    exact this
  refine seq_fall (cond := ∀ d, ¬ M.Dist a b d) (fun R qT qF => ?_) (fun hno H2 e2 => ?_) (fun hyes H2 e2 => ?_)
  · refine ⟨_, rfl, _, rfl, z2, fun p xp => ?_⟩
    have eP := Ext.new (o := .tup [nV a, nV b]) xp
    refine ⟨_, rfl, F, _, rfl, DGet.t (k := kp a b) (kd eP hF) upd_same, _, rfl, ?_⟩
    rw [hK.val]
    cases hf : g a b with
    | none => exact qT (fun d hd => by rw [(hA a b (hnw ▸ ha) (hnw ▸ hb) d).mpr hd] at hf; cases hf) _ eP
    | some d => exact qF (fun h => h d ((hA a b (hnw ▸ ha) (hnw ▸ hb) d).mp hf)) _ eP
  · exact qn (fun w hw => by obtain ⟨d, _, hd⟩ := pt_dist hw.1; exact hno d hd) _ (e1.trans e2)
  obtain ⟨d0, hd0⟩ : ∃ d, M.Dist a b d := Classical.byContradiction fun n => hyes fun d hd => n ⟨d, hd⟩
  have hd0l : d0 ≤ 400 := Nat.le_trans (hle a b d0 ha hb ((hA a b (hnw ▸ ha) (hnw ▸ hb) d0).mpr hd0)) hkn
  refine t_setC ?_
  refine t_seq ⟨fun mm σ H3 => ∃ (o t : Nat) (pre : List Nat) (o8 o9 o10 : Option V), M.Dist o t mm ∧ σ = [some (.str L), some (.ref m), some (nV o), some (nV t), some (.ref s'), some (.ref e), some (.ref F), some (.str (wt L pre)), o8, o9, o10] ∧ Ext H1 H3 ∧ o < ss.length ∧ t < ss.length ∧ pre.length + mm = d0 ∧ ∀ w, M.Least o t w → M.Least a b (pre ++ w),
    ⟨d0, a, b, [], none, none, none, hd0, rfl, e2, ha, hb, by simp, fun w h => h⟩, ?_⟩
  rintro mm σ H3 ⟨o, t, pre, o8, o9, o10, hd, rfl, e3, ho, ht, hlen, hlst⟩
  refine get ho ht hd e3 rfl rfl rfl fun p xp => ⟨_, _, rfl, rfl, _, rfl, ?_⟩
  have e4 := e3.trans (Ext.new (o := .tup [nV o, nV t]) xp)
  by_cases h0 : 0 < mm
  case neg =>
    have : mm = 0 := by omega
    subst this
    refine iffF (decide_eq_false (by omega)) ⟨_, rfl, ?_⟩
    have hl := hlst [] (least_nil (dist0.mp hd))
    rw [List.append_nil] at hl
    exact qw pre hl (by omega) _ (e1.trans e4)
  obtain ⟨d, rfl⟩ : ∃ d, mm = d + 1 := ⟨mm - 1, by omega⟩
  refine iffT (decide_eq_true (by omega)) ⟨fun σ' H3 => ∃ m' < d + 1, ∃ (o t : Nat) (pre : List Nat) (o8 o9 o10 : Option V), M.Dist o t m' ∧ σ' = [some (.str L), some (.ref m), some (nV o), some (nV t), some (.ref s'), some (.ref e), some (.ref F), some (.str (wt L pre)), o8, o9, o10] ∧ Ext H1 H3 ∧ o < ss.length ∧ t < ss.length ∧ pre.length + m' = d0 ∧ ∀ w, M.Least o t w → M.Least a b (pre ++ w), fun σ' H' ⟨m', h1, h2⟩ => ⟨m', h1, h2⟩, ?_⟩
  generalize upd H3 p (.tup [nV o, nV t]) = H4 at e4
  have m4 := hm.ext (e1.trans e4)
  obtain ⟨row1, r1, r2, r3, r4⟩ := hw.get ho
  obtain ⟨row2, s1, s2, s3, s4⟩ := hw.get ht
  rw [hMM] at r4 s4
  have hra1 : o < rs.length := by rw [m4.len]; exact ho
  have hra2 : t < rs.length := by rw [m4.len]; exact ht
  obtain ⟨row1', r5, r6⟩ := m4.row _ _ (List.getElem?_eq_getElem hra1)
  cases (r1.symm.trans r5)
  obtain ⟨row2', s5, s6⟩ := m4.row _ _ (List.getElem?_eq_getElem hra2)
  cases (s1.symm.trans s5)
  refine t_set ⟨_, rfl, _, rfl, s', _, _, _, rfl, rfl, SqL.of m4.s, atI_nat (by rw [List.getElem?_map, List.getElem?_eq_getElem hra1]; rfl), _, rfl, _, rfl, s', _, _, _, rfl, rfl, SqL.of m4.s, atI_nat (by rw [List.getElem?_map, List.getElem?_eq_getElem hra2]; rfl), rs[o], rs[t], nVs row1, nVs row2, rfl, SqL.of r6, SqL.of s6, fun D hD => ?_⟩
  refine lc_zipN (K := K) (a := rs[o]) (b := rs[t]) (xs := nVs row1) (ys := nVs row2) (by rw [nVs_len, nVs_len, r2, s2]) (Built H4 D fun k => nV (goals M g o t kvs.length k)) (Built.zero hD) (fun k H' b => ⟨SqL.of (b.1.lst r6), SqL.of (b.1.lst s6)⟩) ?_ ?_
  · intro k x1 x2 T H7 h1 h2 hT b
    have hk : k < (cds L).length := by have := (List.getElem?_eq_some_iff.mp h1).1; rw [nVs_len, r2] at this; exact this
    have ex1 : x1 = nV (M.st o k) := Option.some.inj (h1.symm.trans (nVs_get (r4 k hk)))
    have ex2 : x2 = nV (M.st t k) := Option.some.inj (h2.symm.trans (nVs_get (s4 k hk)))
    subst ex1 ex2
    have eT := Ext.new (o := .tup [nV (M.st o k), nV (M.st t k)]) hT
    have hF7 := kd (e4.trans (b.1.trans eT)) hF
    refine ⟨rfl, _, rfl, F, rfl, .inr ⟨kvs, .inl hF7⟩, _, rfl, _, rfl, F, kvs, rfl, hF7, _, DGet.t (k := kp (M.st o k) (M.st t k)) hF7 upd_same, ?_⟩
    refine b.next hD eT ?_ (l9 k (by omega))
    rw [hK.val]
    unfold goals
    cases g (M.st o k) (M.st t k) <;> rfl
  · intro H5 b
    dsimp only
    have hlen1 : (nVs row1).length = M.l := by rw [nVs_len, r2, hMl]
    rw [hlen1] at b
    have e45 := b.1
    have hD5 := b.2
    have e5 := e4.trans e45
    obtain ⟨k, hk, hkd, hmin⟩ := first_is (p := fun k => M.Dist (M.st o k) (M.st t k) d) (dist_next hd)
    have stn : ∀ {j}, j < M.l → M.st o j < ss.length ∧ M.st t j < ss.length := fun {j} hj => ⟨hnw ▸ ok.st o j (hnw ▸ ho) hj, hnw ▸ ok.st t j (hnw ▸ ht) hj⟩
    have gk : ∀ j, j < M.l → (goals M g o t kvs.length j = d ↔ M.Dist (M.st o j) (M.st t j) d) := fun j hj => by
      obtain ⟨a1, a2⟩ := stn hj
      have hh := hA (M.st o j) (M.st t j) (hnw ▸ a1) (hnw ▸ a2)
      unfold goals
      cases hg : g (M.st o j) (M.st t j) with
      | some x =>
        show x = d ↔ _
        exact ⟨fun e => e ▸ (hh x).mp hg, fun h => ((hh x).mp hg).inj h⟩
      | none =>
        show kvs.length = d ↔ _
        refine ⟨fun e => ?_, fun h => by rw [(hh d).mpr h] at hg; cases hg⟩
        have := hle o t (d + 1) ho ht ((hA o t (hnw ▸ ho) (hnw ▸ ht) (d + 1)).mpr hd)
        omega
    have lk : ∀ j, j < M.l → ((List.range M.l).map fun k => nV (goals M g o t kvs.length k))[j]? = some (nV (goals M g o t kvs.length j)) := fun j hj => by
      rw [List.getElem?_map, List.getElem?_range hj]; rfl
    have hkL : k < (cds L).length := hMl ▸ hk
    refine t_set ⟨_, rfl, .inl ⟨rfl, _, SqL.of hD5⟩, ?_⟩
    refine get ho ht hd e5 rfl rfl rfl fun p2 xp2 => ⟨_, _, rfl, rfl, ?_⟩
    have eP := Ext.new (o := .tup [nV o, nV t]) xp2
    have e6 := e5.trans eP
    have m6 := hm.ext (e1.trans e6)
    obtain ⟨row1', r5, r6⟩ := m6.row _ _ (List.getElem?_eq_getElem hra1)
    cases (r1.symm.trans r5)
    obtain ⟨row2', s5, s6⟩ := m6.row _ _ (List.getElem?_eq_getElem hra2)
    cases (s1.symm.trans s5)
    refine ⟨D, _, _, k, _, rfl, rfl, SqL.of (eP.lst hD5), rfl, ?_, lk k hk, ?_, fun j z hj hz => ?_, ?_⟩
    · rw [List.all_map, List.all_eq_true]; intro x _; rfl
    · show (((goals M g o t kvs.length k : Nat) : Int) == ((d + 1 : Nat) : Int) - 1) = true
      rw [(gk k hk).mpr hkd, beq_iff_eq]; omega
    · rw [lk j (by omega)] at hz
      cases hz
      show (((goals M g o t kvs.length j : Nat) : Int) == ((d + 1 : Nat) : Int) - 1) = false
      rw [beq_eq_false_iff_ne]
      intro e
      exact hmin j hj ((gk j (by omega)).mp (by omega))
    have hat : atI (cds L) (k : Int) = some (lt L k) := atI_nat (lt_get hkL)
    refine t_set ⟨_, rfl, _, rfl, _, rfl, L, _, lt L k, rfl, rfl, Nat.le_of_lt (l9 _ (by have := (good_len hL).2; show L.cps.size ≤ 1000; omega)), hat, _, _, rfl, rfl, Nat.le_of_lt (l9 _ (by rw [wt_len]; show pre.length + 1 ≤ 1000; omega)), ?_⟩
    have ew : wt L pre ++ (⟨#[lt L k]⟩ : Str) = wt L (pre ++ [k]) := wt_snoc L pre k
    refine ⟨_, rfl, _, rfl, s', _, _, _, rfl, rfl, SqL.of m6.s, atI_nat (by rw [List.getElem?_map, List.getElem?_eq_getElem hra1]; rfl), _, rfl, rs[o], _, _, _, rfl, rfl, SqL.of r6, nVs_at (r4 k hkL), _, rfl, _, rfl, s', _, _, _, rfl, rfl, SqL.of m6.s, atI_nat (by rw [List.getElem?_map, List.getElem?_eq_getElem hra2]; rfl), _, rfl, rs[t], _, _, _, rfl, rfl, SqL.of s6, nVs_at (s4 k hkL), _, _, rfl, ?_⟩
    refine ⟨d, by omega, M.st o k, M.st t k, pre ++ [k], some (.ref D), some (nV k), o10, hkd, ?_, e6, (stn hk).1, (stn hk).2, by rw [List.length_append]; show pre.length + 1 + d = d0; omega, fun w hw => ?_⟩
    · rw [← ew]; rfl
    · have := hlst (k :: w) (least_cons hd hk hkd hmin hw)
      rw [List.append_assoc]; exact this
end
end Bo
set_option Elab.async false
set_option linter.all false
set_option maxRecDepth 100000
set_option maxHeartbeats 8000000
namespace Bo
open PySem PySem.Spec PyProof.Rows L2 GE
theorem pickN (n : Int) (m : Nat) (hm : 0 < m) : ∃ j : Nat, n % (m : Int) = (j : Int) ∧ j < m := by
  have h0 := Int.emod_nonneg n (show (m : Int) ≠ 0 by omega)
  have h1 := Int.emod_lt_of_pos n (show (0 : Int) < (m : Int) by omega)
  exact ⟨(n % (m : Int)).toNat, by omega, by omega⟩
def spTt : Sp := fun vs H Q _ => ∃ (L : Str) (c : Int) (m : Nat), vs = [.str L, .int c, nV m] ∧ goodS L = true ∧ m ≤ 20 ∧ ∀ w H', w.length ≤ m → (∀ k ∈ w, k < (cds L).length) → Ext H H' → Q (.str (wt L w)) H'
theorem ne_mem {α : Type} {x a : α} {rs : List α} (h : x ∉ rs) (ha : a ∈ rs) : x ≠ a := by
  intro e
  subst e
  exact h ha
/-- a new machine, all apart -/
structure MacN (H0 H : Hp) (s e : Addr) (rs : List Addr) (ss : List (List Nat)) (es : List Bool) : Prop where
  fs : H s = some (.lst (rs.map V.ref))
  fe : H e = some (.lst (bVs es))
  len : rs.length = ss.length
  row : ∀ (r : Nat) (a : Addr), rs[r]? = some a → ∃ row, ss[r]? = some row ∧ H a = some (.lst (nVs row))
  se : s ≠ e
  sr : s ∉ rs
  er : e ∉ rs
  nd : rs.Nodup
  ns : H0 s = none
  ne : H0 e = none
  nr : ∀ a ∈ rs, H0 a = none
theorem MacN.keep {H0 H H' : Hp} {s e : Addr} {rs : List Addr} {ss : List (List Nat)} {es : List Bool} (h : MacN H0 H s e rs ss es) (x : Ext H H') : MacN H0 H' s e rs ss es :=
  ⟨x.lst h.fs, x.lst h.fe, h.len, fun r a hr => let ⟨row, h1, h2⟩ := h.row r a hr; ⟨row, h1, x.lst h2⟩, h.se, h.sr, h.er, h.nd, h.ns, h.ne, h.nr⟩
theorem MacN.row_in {H0 H : Hp} {s e : Addr} {rs : List Addr} {ss : List (List Nat)} {es : List Bool} (h : MacN H0 H s e rs ss es) {a : Addr} (ha : a ∈ rs) : ∃ row, H a = some (.lst (nVs row)) := by
  obtain ⟨r, hr, e⟩ := List.getElem_of_mem ha
  obtain ⟨row, _, h2⟩ := h.row r a (by rw [List.getElem?_eq_getElem hr, e])
  exact ⟨row, h2⟩
/-- a row more -/
theorem MacN.addRow {H0 H : Hp} {s e D : Addr} {rs : List Addr} {ss : List (List Nat)} {es : List Bool} {row : List Nat} (h : MacN H0 H s e rs ss es) (hD : H D = some (.lst (nVs row))) (d1 : s ≠ D) (d2 : e ≠ D) (d3 : D ∉ rs) (d4 : H0 D = none) :
    MacN H0 (upd H s (.lst ((rs ++ [D]).map V.ref))) s e (rs ++ [D]) (ss ++ [row]) es where
  fs := upd_same
  fe := by rw [upd_ne h.se.symm]; exact h.fe
  len := by rw [List.length_append, List.length_append, h.len]; rfl
  row := fun r a hr => by
    rcases snoc_get hr with hr | ⟨rfl, rfl⟩
    · obtain ⟨row', h1, h2⟩ := h.row r a hr
      have ne : a ≠ s := (ne_mem h.sr (List.mem_of_getElem? hr)).symm
      exact ⟨row', by rw [List.getElem?_append_left (List.getElem?_eq_some_iff.mp h1).1]; exact h1, by rw [upd_ne ne]; exact h2⟩
    · exact ⟨row, by rw [h.len, List.getElem?_append_right (Nat.le_refl _)]; simp, by rw [upd_ne d1.symm]; exact hD⟩
  se := h.se
  sr := fun hm => (List.mem_append.mp hm).elim h.sr fun hm => d1 (List.mem_singleton.mp hm)
  er := fun hm => (List.mem_append.mp hm).elim h.er fun hm => d2 (List.mem_singleton.mp hm)
  nd := List.nodup_append.mpr ⟨h.nd, List.pairwise_singleton _ _, fun a ha b hb e => by rw [List.mem_singleton.mp hb] at e; exact ne_mem d3 ha e.symm⟩
  ns := h.ns
  ne := h.ne
  nr := fun a hm => (List.mem_append.mp hm).elim (h.nr a) fun hm => (List.mem_singleton.mp hm) ▸ d4
/-- a step set -/
theorem MacN.setStep {H0 H : Hp} {s e : Addr} {rs : List Addr} {ss : List (List Nat)} {es : List Bool} {r : Nat} {a : Addr} {row : List Nat} (h : MacN H0 H s e rs ss es) (hr : rs[r]? = some a) (row' : List Nat) : MacN H0 (upd H a (.lst (nVs row'))) s e rs (ss.set r row') es where
  fs := by rw [upd_ne (ne_mem h.sr (List.mem_of_getElem? hr))]; exact h.fs
  fe := by rw [upd_ne (ne_mem h.er (List.mem_of_getElem? hr))]; exact h.fe
  len := by rw [List.length_set]; exact h.len
  row := fun q b hq => by
    obtain ⟨rw_, h1, h2⟩ := h.row q b hq
    have hql := (List.getElem?_eq_some_iff.mp h1).1
    by_cases e : q = r
    · subst e
      have : a = b := Option.some.inj (hr.symm.trans hq)
      subst this
      exact ⟨row', by rw [List.getElem?_set_self hql], upd_same⟩
    · have ne : b ≠ a := fun e' => by
        subst e'
        exact e ((List.getElem?_inj (List.getElem?_eq_some_iff.mp hq).1 h.nd).mp (hq.trans hr.symm))
      exact ⟨rw_, by rw [List.getElem?_set_ne (fun k => e k.symm)]; exact h1, by rw [upd_ne ne]; exact h2⟩
  se := h.se
  sr := h.sr
  er := h.er
  nd := h.nd
  ns := h.ns
  ne := h.ne
  nr := h.nr
/-- the ends set anew -/
theorem MacN.setEnds {H0 H : Hp} {s e : Addr} {rs : List Addr} {ss : List (List Nat)} {es : List Bool} (h : MacN H0 H s e rs ss es) (es' : List Bool) : MacN H0 (upd H e (.lst (bVs es'))) s e rs ss es' where
  fs := by rw [upd_ne h.se]; exact h.fs
  fe := upd_same
  len := h.len
  row := fun q b hq => by
    obtain ⟨rw_, h1, h2⟩ := h.row q b hq
    exact ⟨rw_, h1, by rw [upd_ne (ne_mem h.er (List.mem_of_getElem? hq)).symm]; exact h2⟩
  se := h.se
  sr := h.sr
  er := h.er
  nd := h.nd
  ns := h.ns
  ne := h.ne
  nr := h.nr
def spMa (K : PySem.W.Frag) : Sp := fun vs H Q _ => ∃ (L : Str) (a : Addr) (ns : List Int), vs = [.str L, .ref a] ∧ goodS L = true ∧ SqL K H a (ns.map V.int) ∧
  ∀ m s e rs ss es H', Ext H H' → H' m = some (.tup [.ref s, .ref e]) → MacN H H' s e rs ss es → Well (cds L).length ss es → ss.length ≤ 14 → Q (.ref m) H'
section
variable {P : Program} {w : World} {K : PySem.W.Frag} {mg : Str → Option Value} {base : Heap}
theorem scTt : FnScope ["_law_letters_here", "_law_cell", "_law_most", "_law_found", "_law_k", "_law_number"] ["_law_letters_here", "_law_cell", "_law_most"] (defScope sLawText) := ⟨rfl, rfl, rfl, by decide +kernel, rfl, by decide +kernel, by decide +kernel⟩
theorem tt_ok {f : Addr} {fd : FuncData} (F : FnP K "_law_text" sLawText f fd) (ml : mg "len" = none) (mr : mg "range" = none) : FnOk P w K mg base CX0 1 f fd ["_law_letters_here", "_law_cell", "_law_most"] spTt := by
  refine okD F scTt (fun vs H Q E h => ?_) (fun cdv A outer s H vs Q E hr h => ?_)
  · obtain ⟨L, c, m, rfl, _⟩ := h
    rfl
  obtain ⟨L, c, m, rfl, hL, hm, q⟩ := h
  refine ⟨_, (pss_cons (ps_set (i := 3) scTt.nd rfl (Or.inl rfl) pe_str) (pss_cons (ps_for PassesOwn.never rfl (pi_range1 rfl mr (pa_cons (pe_op op_mod (pv 1) (pe_op op_add (pv 2) pe_int)) pa_nil)) (pg_name (i := 4) scTt.nd rfl (Or.inl rfl))
      (pss_cons (ps_set (i := 5) scTt.nd rfl (Or.inl rfl) (pe_op op_mod (pe_op op_add (pe_op op_mul (pv 1) pe_int) (pe_op op_mul (pe_op op_mul pe_int (pv 4)) (pv 4))) pe_int)) (pss_one (ps_set (i := 3) scTt.nd rfl (Or.inl rfl) (pe_op op_add_str (pv 3) (pe_ix ix_str (pv 0) (pe_op op_mod (pe_op op_fdiv (pv 5) pe_int) (pe_callB call_len rfl ml PySem.boot_len (pa_cons (pv 0) pa_nil))) (fun _ _ => rfl))))))) (pss_one (ps_ret (pv 3))))), ?_⟩
  have l9 : ∀ n : Nat, n ≤ 1000 → n ≤ sizeLine := fun n h => Nat.le_trans h (by decide)
  obtain ⟨hL1, hL4⟩ := good_len hL
  have hcl : (cds L).length = L.cps.size := Array.length_toList
  refine t_setC ?_
  obtain ⟨n, hn, hnm⟩ := pickN c (m + 1) (by omega)
  refine t_seq ⟨_, rfl, _, rfl, _, _, rfl, rfl, _, _, rfl, rfl, show (0 : Int) < (m : Int) + 1 by omega, ?_⟩
  refine ⟨n, congrArg (fun x => [V.int x]) hn, by omega, by omega, ?_⟩
  refine for_rangeN (n := n) (fun i σ' H' => ∃ w o4 o5, σ' = [some (.str L), some (.int c), some (nV m), some (.str (wt L w)), o4, o5] ∧ H = H' ∧ w.length = i ∧ ∀ k ∈ w, k < (cds L).length) ⟨[], none, none, rfl, rfl, rfl, fun k hk => by cases hk⟩ ?_ ?_
  · rintro i σ' H' hi ⟨w, o4, o5, rfl, rfl, hwl, hwk⟩
    refine seq_to (fun σ' H' => ∃ N : Int, σ' = [some (.str L), some (.int c), some (nV m), some (.str (wt L w)), some (nV i), some (.int N)] ∧ H = H') (fun nx hnx => ?_) (fun σ' H' hst => ?_)
    · exact ⟨_, rfl, _, _, rfl, rfl, .inr ⟨by decide, by decide⟩, _, rfl, _, _, rfl, rfl, .inl ⟨by decide, by decide⟩, _, rfl, _, _, rfl, rfl, .inr ⟨by omega, by omega⟩, _, _, rfl, rfl, _, _, rfl, rfl, show (0 : Int) < 1000003 by decide, hnx _ _ ⟨_, rfl, rfl⟩⟩
    obtain ⟨N, rfl, rfl⟩ := hst
    obtain ⟨j, hj, hjl⟩ := pickN (N / 7) L.length (show 0 < L.cps.size by omega)
    have hat : atI (cds L) (N / 7 % ((L.length : Nat) : Int)) = some (lt L j) := by rw [hj]; exact atI_nat (lt_get (by rw [hcl]; exact hjl))
    refine ⟨_, rfl, _, rfl, _, rfl, _, _, rfl, rfl, ⟨by decide, by decide⟩, _, rfl, .str L, _, rfl, ⟨l9 _ (by show L.cps.size ≤ 1000; omega), rfl⟩, _, _, rfl, rfl, show (0 : Int) < ((L.cps.size : Nat) : Int) by omega, L, _, lt L j, rfl, rfl, l9 _ (by show L.cps.size ≤ 1000; omega), hat, _, _, rfl, rfl, l9 _ (by rw [wt_len]; show w.length + 1 ≤ 1000; omega), ?_⟩
    refine ⟨w ++ [j], some (nV i), some (.int N), ?_, rfl, by rw [List.length_append, hwl]; rfl, fun k hk => ?_⟩
    · rw [← wt_snoc]; rfl
    · rcases List.mem_append.mp hk with hk | hk
      · exact hwk k hk
      · rw [List.mem_singleton.mp hk, hcl]; exact hjl
  · rintro σ' H' ⟨w, o4, o5, rfl, rfl, hwl, hwk⟩
    exact ⟨_, rfl, q w _ (by omega) hwk (Ext.refl _)⟩
theorem scMa : FnScope ["_law_letters_here", "_law_script", "_law_cell", "_law_many", "_law_steps", "_law_ends", "_law_room", "_law_own", "_law_k"] ["_law_letters_here", "_law_script"] (defScope sLawMachine) := ⟨rfl, rfl, rfl, by decide +kernel, rfl, by decide +kernel, by decide +kernel⟩
theorem ma_ok {f g : Addr} {fd gd : FuncData} (F : FnP K "_law_machine" sLawMachine f fd) (G : FnOk P w K mg base CX0 1 g gd ["_law_script", "_law_k"] (spCA K)) (bG : Binds K gd ["_law_script", "_law_k"] []) (kG : PySem.W.keepIn K (.ref g) = true) (mG : mg "_law_cell_at" = some (.ref g))
    (ml : mg "len" = none) (mr : mg "range" = none) : FnOk P w K mg base CX0 2 f fd ["_law_letters_here", "_law_script"] (spMa K) := by
  refine okD F scMa (fun vs H Q E h => ?_) (fun cdv A outer s H vs Q E hr h => ?_)
  · obtain ⟨L, a, ns, rfl, _⟩ := h
    rfl
  obtain ⟨L, a, ns, rfl, hL, hS, q⟩ := h
  refine ⟨_, (pss_cons (ps_set (i := 2) scMa.nd rfl (Or.inl rfl) (pe_call G hr rfl mG kG bG .nil pass0 (pa_cons (pv 1) (pa_cons pe_int pa_nil)))) (pss_cons (ps_set (i := 3) scMa.nd rfl (Or.inr rfl) (pe_op op_add pe_int (pe_op op_mod (pv 2) pe_int))) (pss_cons (ps_if (pt_cmpR op_eq (pe_op op_mod (pe_op op_fdiv (pv 2) pe_int) pe_int) pe_int (nomark _)) (pss_one (ps_set (i := 3) scMa.nd rfl (Or.inr rfl) (pe_op op_add pe_int (pe_op op_mod (pe_op op_fdiv (pv 2) pe_int) pe_int)))) pss_nil) (pss_cons (ps_set (i := 4) scMa.nd rfl (Or.inl rfl) (pe_lst pa_nil)) (pss_cons (ps_set (i := 5) scMa.nd rfl (Or.inl rfl) (pe_lst pa_nil)) (pss_cons (ps_for PassesOwn.never rfl (pi_range1 rfl mr (pa_cons (pv 3) pa_nil)) (pg_name (i := 6) scMa.nd rfl (Or.inl rfl))
      (pss_cons (ps_set (i := 7) scMa.nd rfl (Or.inr rfl) (pe_op op_add (pe_op op_add (pe_op op_mul (pe_call G hr rfl mG kG bG .nil pass0 (pa_cons (pv 1) (pa_cons (pe_op op_add pe_int (pv 6)) pa_nil))) pe_int) (pe_op op_mul pe_int (pv 6))) (pv 2))) (pss_cons (ps_expr (pe_bm PySem.F.plainAttrs_list PySem.F.slot_list_append PySem.F.type_list_append mt_append (pv 4) (pa_cons (pe_lc (own := [("_law_k", 8)]) (g := gName 8) (tt := tYes) (te := tOp (rI (fun _ j => 0 < j) fun i j => .int (i % j)) (tOp (rI CDiv fun i j => .int (i / j)) (tVar 7) (tOp (rIxL K) (tLst (tCons (tC (.int 3)) (tCons (tC (.int 17)) (tCons (tC (.int 101)) (tCons (tC (.int 613)) tNil))))) (tVar 8))) (tVar 3)) rfl scMa.nd (pi_range1 rfl mr (pa_cons (pe_callB call_len rfl ml PySem.boot_len (pa_cons (pv 0) pa_nil)) pa_nil))
        (blkOk_by (N := ["_law_letters_here", "_law_script", "_law_cell", "_law_many", "_law_steps", "_law_ends", "_law_room", "_law_own", "_law_k"]) (sc := defScope sLawMachine) (by decide +kernel))
        (fun _ _ _ _ _ => pg_name (i := 8) scMa.nd rfl (Or.inl rfl) (Or.inr rfl)) (fun _ _ _ _ _ => pts_nil)
        (fun _ _ _ _ _ => pe_op op_mod (pe_op op_fdiv (pv 7) (pe_ix ix_list (pe_lst (pa_cons pe_int (pa_cons pe_int (pa_cons pe_int (pa_cons pe_int pa_nil))))) (pv 8) (fun _ _ => rfl))) (pv 3))) pa_nil))) (pss_cons (ps_if (pt_cmpR op_eq (pe_op op_mod (pv 7) pe_int) pe_int (nomark _))
        (pss_one (ps_asg (pe_op op_mod (pe_op op_add (pv 6) pe_int) (pv 3)) (pg_sub (pe_ix ix_list (pv 4) (pe_un un_neg pe_int) (fun _ _ => rfl)) (pe_op op_mod (pe_op op_fdiv (pv 7) pe_int) (pe_callB call_len rfl ml PySem.boot_len (pa_cons (pv 0) pa_nil))) set_list))) pss_nil) (pss_one (ps_expr (pe_bm PySem.F.plainAttrs_list PySem.F.slot_list_append PySem.F.type_list_append mt_append (pv 5) (pa_cons (pe_cmpR op_eq (pe_op op_mod (pe_op op_fdiv (pv 7) pe_int) pe_int) pe_int (nomark _)) pa_nil)))))))) (pss_one (ps_ret (pe_tup (pa_cons (pv 4) (pa_cons (pv 5) pa_nil))))))))))), ?_⟩
  have l9 : ∀ n : Nat, n ≤ 1000 → n ≤ sizeLine := fun n h => Nat.le_trans h (by decide)
  have l9' : ∀ n : Nat, n ≤ 1000 → n < sizeLine := fun n h => Nat.lt_of_le_of_lt h (by decide)
  obtain ⟨hL1, hL4⟩ := good_len hL
  have hcl : (cds L).length = L.cps.size := Array.length_toList
  have hLs : L.length = (cds L).length := hcl.symm
  have hl0 : 0 < (cds L).length := by omega
  have hl4 : (cds L).length ≤ 4 := by omega
  refine t_set ⟨_, rfl, a, ns, 1, rfl, hS, ?_⟩
  generalize ns.getD 1 0 = c
  refine t_set ⟨_, rfl, _, _, rfl, rfl, show (0 : Int) < 9 by decide, _, _, rfl, rfl, ?_⟩
  refine seq_to (fun σ' H' => ∃ many : Nat, 1 ≤ many ∧ many ≤ 14 ∧ σ' = [some (.str L), some (.ref a), some (.int c), some (nV many), none, none, none, none, none] ∧ H = H') (fun nx hnx => ?_) (fun σ' H1 hst => ?_)
  · refine ⟨_, rfl, _, _, rfl, rfl, ⟨by decide, by decide⟩, _, _, rfl, rfl, show (0 : Int) < 8 by decide, rfl, _, rfl, ?_⟩
    obtain ⟨j, hj, hjl⟩ := pickN c 9 (by omega)
    obtain ⟨j2, hj2, hjl2⟩ := pickN (c / 72) 14 (by omega)
    by_cases h : c / 9 % 8 = 1
    · refine iffT (decide_eq_true (congrArg V.int h)) ⟨_, rfl, _, _, rfl, rfl, ⟨by decide, by decide⟩, _, _, rfl, rfl, show (0 : Int) < 14 by decide, _, _, rfl, rfl, hnx _ _ ⟨1 + j2, by omega, by omega, ?_, rfl⟩⟩
      have : V.int (1 + c / 72 % 14) = nV (1 + j2) := by show V.int _ = V.int _; congr 1; omega
      rw [← this]; rfl
    · refine iffF (decide_eq_false fun k => h (by injection k)) (hnx _ _ ⟨1 + j, by omega, by omega, ?_, rfl⟩)
      have : V.int (1 + c % 9) = nV (1 + j) := by show V.int _ = V.int _; congr 1; omega
      rw [← this]; rfl
  obtain ⟨many, hm1, hm14, rfl, rfl⟩ := hst
  refine t_set ⟨Nat.zero_le _, fun S xS => ?_⟩
  refine t_set ⟨Nat.zero_le _, fun E' xE => ?_⟩
  have f1 := Ext.new (o := .lst []) xS
  have f2 := Ext.new (o := .lst []) xE
  have hS2 := f2.lst (show upd H S (.lst []) S = some (.lst []) from upd_same)
  have hE2 : upd (upd H S (.lst [])) E' (.lst []) E' = some (.lst []) := upd_same
  have hSE : S ≠ E' := fun e => by rw [← e, upd_same] at xE; cases xE
  have f12 := f1.trans f2
  have mn0 : MacN H (upd (upd H S (.lst [])) E' (.lst [])) S E' [] [] [] := ⟨hS2, hE2, rfl, fun r a h => (by cases h), hSE, fun h => (by cases h), fun h => (by cases h), List.nodup_nil, xS, f1.free xE, fun a h => (by cases h)⟩
  generalize upd (upd H S (.lst [])) E' (.lst []) = H2 at f12 mn0
  clear f1 f2 hS2 hE2 hSE xS xE
  refine t_seq ⟨_, rfl, many, rfl, by omega, by omega, ?_⟩
  refine for_rangeN (n := many) (fun i σ' H' => ∃ rs ss es o6 o7, σ' = [some (.str L), some (.ref a), some (.int c), some (nV many), some (.ref S), some (.ref E'), o6, o7, none] ∧ Ext H H' ∧ MacN H H' S E' rs ss es ∧ ss.length = i ∧ es.length = i ∧ ∀ row ∈ ss, row.length = (cds L).length ∧ ∀ x ∈ row, x < many)
    ⟨[], [], [], none, none, rfl, f12, mn0, rfl, rfl, fun r h => by cases h⟩ ?_ ?_
  · rintro i σ' H3 hi ⟨rs, ss, es, o6, o7, rfl, e3, mn, hsl, hel, hrow⟩
    refine seq_to (fun σ' H' => ∃ N : Int, σ' = [some (.str L), some (.ref a), some (.int c), some (nV many), some (.ref S), some (.ref E'), some (nV i), some (.int N), none] ∧ H3 = H') (fun nx hnx => ?_) (fun σ' H' hst => ?_)
    · exact ⟨_, rfl, _, rfl, _, _, rfl, rfl, a, ns, 6 + i, rfl, e3.sqL hS, _, _, rfl, rfl, .inr ⟨by decide, by decide⟩, _, rfl, _, _, rfl, rfl, .inl ⟨by decide, by decide⟩, _, _, rfl, rfl, _, rfl, _, _, rfl, rfl, hnx _ _ ⟨_, rfl, rfl⟩⟩
    obtain ⟨N, rfl, rfl⟩ := hst
    -- the row
    refine t_seq ⟨_, rfl, .inl ⟨rfl, _, SqL.of mn.fs⟩, _, rfl, .str L, _, rfl, ⟨l9 _ (by show L.cps.size ≤ 1000; omega), rfl⟩, L.length, rfl, by show (-(2 ^ 62) : Int) ≤ ((L.cps.size : Nat) : Int); omega, by show ((L.cps.size : Nat) : Int) < 2 ^ 62; omega, fun D hD => ?_⟩
    have hdk : ∀ k : Nat, k < 4 → ∃ d : Int, 0 < d ∧ d < 1073741824 ∧ atI [V.int 3, .int 17, .int 101, .int 613] (0 + (k : Int)) = some (.int d) := fun k hk => by
      rw [Int.zero_add]
      have : k = 0 ∨ k = 1 ∨ k = 2 ∨ k = 3 := by omega
      rcases this with rfl | rfl | rfl | rfl
      · exact ⟨3, by decide, by decide, rfl⟩
      · exact ⟨17, by decide, by decide, rfl⟩
      · exact ⟨101, by decide, by decide, rfl⟩
      · exact ⟨613, by decide, by decide, rfl⟩
    have hrv : ∃ rv : Nat → Nat, ∀ k, k < 4 → rv k < many ∧ ∃ d : Int, 0 < d ∧ d < 1073741824 ∧ atI [V.int 3, .int 17, .int 101, .int 613] (0 + (k : Int)) = some (.int d) ∧ N / d % (many : Int) = (rv k : Int) := by
      refine ⟨fun k => if h : k < 4 then (N / (hdk k h).choose % (many : Int)).toNat else 0, fun k hk => ?_⟩
      obtain ⟨d1, d2, d3⟩ := (hdk k hk).choose_spec
      obtain ⟨j, hj, hjl⟩ := pickN (N / (hdk k hk).choose) many (by omega)
      simp only [hk, dif_pos]
      refine ⟨by rw [hj]; exact hjl, _, d1, d2, d3, ?_⟩
      rw [hj]; rfl
    obtain ⟨rv, hrv⟩ := hrv
    refine lc_range (n := L.length) (Built H3 D fun k => nV (rv k)) (Built.zero hD) ?_ ?_
    · intro k H4 hk b
      have hk4 : k < 4 := by have : k < L.cps.size := hk; omega
      obtain ⟨_, d, d1, d2, d3, d4⟩ := hrv k hk4
      refine ⟨rfl, _, rfl, l9 4 (by omega), fun p xp => ?_⟩
      refine ⟨_, rfl, p, _, _, .int d, rfl, rfl, SqL.of upd_same, d3, _, _, rfl, rfl, ⟨d1, d2⟩, _, rfl, _, _, rfl, rfl, show (0 : Int) < (many : Int) by omega, ?_⟩
      exact b.next hD (Ext.new xp) (congrArg V.int d4) (l9' k (by omega))
    · intro H4 b
      have hDr : H4 D = some (.lst (nVs ((List.range L.length).map rv))) := by rw [b.2]; unfold nVs; rw [List.map_map]; rfl
      have e34 := b.1
      have mn4 := mn.keep e34
      have dS : S ≠ D := ne_of_none mn.fs hD
      have dE : E' ≠ D := ne_of_none mn.fe hD
      have dR : D ∉ rs := fun hm => by obtain ⟨row, hr⟩ := mn.row_in hm; rw [hD] at hr; cases hr
      have dH : H D = none := e3.free hD
      have mn5 := mn4.addRow hDr dS dE dR dH
      have e5 : Ext H (upd H4 S (.lst ((rs ++ [D]).map V.ref))) := (e3.trans e34).wr mn.ns
      have hD5 : upd H4 S (.lst ((rs ++ [D]).map V.ref)) D = some (.lst (nVs ((List.range L.length).map rv))) := by rw [upd_ne dS.symm]; exact hDr
      refine ⟨S, _, _, rfl, rfl, mn4.fs, l9' _ (by rw [List.length_map, mn.len]; omega), ?_⟩
      rw [show rs.map V.ref ++ [V.ref D] = (rs ++ [D]).map V.ref by rw [List.map_append]; rfl]
      generalize upd H4 S (.lst ((rs ++ [D]).map V.ref)) = H5 at mn5 e5 hD5
      dsimp only
      have hrvl : ∀ x ∈ (List.range L.length).map rv, x < many := fun x hx => by
        obtain ⟨k, hk, rfl⟩ := List.mem_map.mp hx
        have hk : k < L.cps.size := List.mem_range.mp hk
        exact (hrv k (by omega)).1
      refine seq_to (fun σ' H' => ∃ row, σ' = [some (.str L), some (.ref a), some (.int c), some (nV many), some (.ref S), some (.ref E'), some (nV i), some (.int N), none] ∧ Ext H H' ∧ MacN H H' S E' (rs ++ [D]) (ss ++ [row]) es ∧ row.length = (cds L).length ∧ ∀ x ∈ row, x < many) (fun nx hnx => ?_) (fun σ' H' hst => ?_)
      · refine ⟨_, rfl, _, _, rfl, rfl, show (0 : Int) < 3 by decide, rfl, _, rfl, ?_⟩
        by_cases h : N % 3 = 0
        · refine iffT (decide_eq_true (congrArg V.int h)) ?_
          obtain ⟨j, hj, hjl⟩ := pickN ((i : Int) + 1) many (by omega)
          obtain ⟨j2, hj2, hjl2⟩ := pickN (N / 7) L.length (show 0 < L.cps.size by omega)
          have hat : atI ((rs ++ [D]).map V.ref) (-1) = some (.ref D) := by rw [List.map_append]; exact atI_last _ _
          refine ⟨_, rfl, _, _, rfl, rfl, _, rfl, _, _, rfl, rfl, show (0 : Int) < (many : Int) by omega, ?_⟩
          refine ⟨_, rfl, _, rfl, S, _, _, .ref D, rfl, rfl, SqL.of mn5.fs, hat, _, rfl, _, _, rfl, rfl, ⟨by decide, by decide⟩, _, rfl, .str L, _, rfl, ⟨l9 _ (by show L.cps.size ≤ 1000; omega), rfl⟩, _, _, rfl, rfl, show (0 : Int) < ((L.cps.size : Nat) : Int) by omega, ?_⟩
          refine ⟨D, _, _, j2, rfl, rfl, hD5, ?_, ?_⟩
          · show ixN _ (N / 7 % ((L.length : Nat) : Int)) = some j2
            rw [hj2]; exact ix_nat (by rw [nVs_len, List.length_map, List.length_range]; exact hjl2)
          · have ev : V.int (((i : Int) + 1) % (many : Int)) = nV j := congrArg V.int hj
            show nx _ (upd H5 D (.lst ((nVs ((List.range L.length).map rv)).set j2 (V.int (((i : Int) + 1) % (many : Int))))))
            rw [ev, nVs_set]
            have hrD : (rs ++ [D])[i]? = some D := by rw [List.getElem?_append_right (by rw [mn.len, hsl]; exact Nat.le_refl _), mn.len, hsl, Nat.sub_self]; rfl
            have mn6 := mn5.setStep (row := (List.range L.length).map rv) hrD (((List.range L.length).map rv).set j2 j)
            rw [show (ss ++ [(List.range L.length).map rv]).set i (((List.range L.length).map rv).set j2 j) = ss ++ [((List.range L.length).map rv).set j2 j] by rw [← hsl, List.set_append_right _ _ (Nat.le_refl _), Nat.sub_self]; rfl] at mn6
            refine hnx _ _ ⟨_, rfl, e5.wr dH, mn6, by rw [List.length_set, List.length_map, List.length_range]; exact hLs, fun x hx => ?_⟩
            rcases List.mem_or_eq_of_mem_set hx with hx | rfl
            · exact hrvl x hx
            · exact hjl
        · exact iffF (decide_eq_false fun k => h (by injection k)) (hnx _ _ ⟨_, rfl, e5, mn5, by rw [List.length_map, List.length_range]; exact hLs, hrvl⟩)
      obtain ⟨row, rfl, e6, mn6, hrl, hrx⟩ := hst
      refine ⟨_, rfl, .inl ⟨rfl, _, SqL.of mn6.fe⟩, _, rfl, _, _, rfl, rfl, ⟨by decide, by decide⟩, _, _, rfl, rfl, show (0 : Int) < 4 by decide, rfl, ?_⟩
      refine ⟨E', _, _, rfl, rfl, mn6.fe, l9' _ (by show (es.map V.bl).length ≤ 1000; rw [List.length_map]; omega), ?_⟩
      have mn7 := mn6.setEnds (es ++ [decide (V.int (N / 5 % 4) = V.int 0)])
      have eb : bVs (es ++ [decide (V.int (N / 5 % 4) = V.int 0)]) = bVs es ++ [.bl (decide (V.int (N / 5 % 4) = V.int 0))] := by unfold bVs; rw [List.map_append]; rfl
      rw [eb] at mn7
      refine ⟨rs ++ [D], ss ++ [row], es ++ [decide (V.int (N / 5 % 4) = V.int 0)], _, _, rfl, e6.wr mn.ne, mn7, by rw [List.length_append, hsl]; rfl, by rw [List.length_append, hel]; rfl, fun r hr => ?_⟩
      · rcases List.mem_append.mp hr with hr | hr
        · exact hrow r hr
        · rw [List.mem_singleton.mp hr]; exact ⟨hrl, hrx⟩
  · rintro σ' H3 ⟨rs, ss, es, o6, o7, rfl, e3, mn, hsl, hel, hrow⟩
    refine ⟨_, rfl, _, rfl, l9 2 (by omega), fun m xm => ?_⟩
    have fm := Ext.new (o := .tup [V.ref S, .ref E']) xm
    exact q m S E' rs ss es _ (e3.trans fm) upd_same (mn.keep fm) ⟨by omega, by omega, by omega, fun row hr => by rw [hsl]; exact hrow row hr⟩ (by omega)
end
end Bo
set_option Elab.async false
set_option linter.all false
set_option maxRecDepth 100000
set_option maxHeartbeats 4000000
/-! where an error is handled: the end of a list, a tuple taken apart, a list comprehension -/
namespace GH
open PySem PySem.Spec PyProof.Rows L2 L2H HotX
section
variable {prog : Program} {w : World} {A : Around} {E : Value → Shared → Prop} {s : Shared}
/-- the handled error is no iterator -/
theorem no_iter {x1 it : Addr} {o o1 : Obj} {vs1 : Array Value} {u : Value} {i : Int} {tk : Tok} (h1 : s.heap.get? x1 = some o1) (d1 : o1.data = .fields vs1) (c1 : vs1[2]? = some .none) (ho : s.heap.get? it = some o) (hd : o.data = .fields #[u, .int i tk]) : x1 ≠ it := by
  rintro rfl
  cases h1.symm.trans ho
  cases d1.symm.trans hd
  cases c1
/-- StopIteration raised while an error is handled: a new object more, the rest stays -/
theorem stop_hot {α : Type} {Q : α → Shared → Prop} {x1 : Addr} (hot : HotAt A x1 s.heap)
    (hE : ∀ (a : Addr) (h' : Heap), (∀ b o, s.heap.get? b = some o → h'.get? b = some o) → ({ s with heap := h' } : Shared).TypeIs (.ref a) "StopIteration" → E (.ref a) { s with heap := h' }) :
    wpAny (model prog w) A ((newExc (.type "StopIteration") [] >>= fun e => raiseNew e) : Sem α) Q E s := by
  obtain ⟨hh, o1, vs1, h1, d1, c1⟩ := hot
  have up : ∀ {c1 c2 : Obj} {b : Addr} {o : Obj}, s.heap.get? b = some o → ((s.heap.push c1).push c2).get? b = some o := fun e => Heap.get?_push_of_some _ (Heap.get?_push_of_some _ e)
  refine wpAny_bind ?_
  simp only [newExc, newTuple]
  refine wpAny_bind (wpAny_newObj_type ?_ (by size_fits))
  have none_ : ∀ {R : Value → Shared → Prop} {s' : Shared}, R .none s' → wpAny (model prog w) A (firstArgMember (.type "StopIteration") []) R E s' := fun r => wpAny_of_eq (a := Value.none) (by first | rfl | (simp only [firstArgMember]; rfl)) r
  refine wpAny_bind (none_ (wpAny_newObj_type ?_ (by size_fits)))
  refine raiseNew_hot ⟨hh, o1, vs1, up h1, d1, c1⟩ (Nat.ne_of_lt (Heap.lt_size (Heap.get?_push_of_some _ h1))) (Heap.get?_push_size _ rfl) rfl (by first | (simp; done) | (simp; omega) | (simp only [Array.size_append]; simp; omega)) ?_
  refine hE _ _ (fun b o e => ?_) ⟨_, Heap.get?_update_self _ (Heap.get?_push_size _ rfl) rfl, rfl⟩
  rw [Heap.get?_update_other _ _ (Nat.ne_of_gt (Heap.lt_size (Heap.get?_push_of_some _ e)))]
  exact up e
theorem list_end_hot {it l x1 : Addr} {i : Nat} {items : Array Value} {Q : Option Value → Shared → Prop} (hot : HotAt A x1 s.heap) (hit : s.heap.IsListIter it l i) (hl : s.heap.IsList l items) (hx : items[i]? = none)
    (hQ : ∀ h', Heap.ExtBut it s.heap h' → Q none { s with heap := h' }) : wpAny (model prog w) A (pyNext (.ref it)) Q E s := by
  obtain ⟨o, ho, hc, hd⟩ := id hit
  obtain ⟨ol, hol, _, nl, hdl⟩ := hl
  obtain ⟨hh, o1, vs1, h1, d1, c1⟩ := hot
  have ne := no_iter h1 d1 c1 ho hd
  unfold pyNext
  have run := fun (R : Value → Shared → Prop) (F : Value → Shared → Prop) (hF : ∀ (a : Addr) (h' : Heap), Heap.ExtBut it s.heap h' → ({ s with heap := h' } : Shared).TypeIs (.ref a) "StopIteration" → F (.ref a) { s with heap := h' }) =>
    (wpAny_call_entry (prog := prog) (w := w) (A := A) (E := F) (s := s) (rest := []) (Q := R) slot_listiter_next hit.typeIs entry_listiter_next (by
      refine wpAny_bind (m := field (.ref it) 0) (wpAny_field ho hd (x := .ref l) rfl ?_)
      show wpAny _ A.in1 (if (Value.ref l == Value.none) = true then _ else _) _ F s
      rw [if_neg (by exact Bool.false_ne_true)]
      refine wpAny_bind (m := field (.ref it) 1) (wpAny_field ho hd (x := .int i 0) rfl ?_)
      refine wpAny_bind (m := seqItems? (.ref l)) (wpAny_seqItems hol hdl ?_)
      simp only [Int.toNat_natCast, hx]
      refine wpAny_bind (wpAny_rule (wpAny_bind (wpAny_setField ho hd (by simp) ?_)))
      refine stop_hot (x1 := x1) ⟨hh, o1, vs1, (Heap.get?_update_other _ _ (Ne.symm ne)).trans h1, d1, c1⟩ fun a h' k ty => hF a h' (fun b o hb e => k b o ?_) ty
      rw [Heap.get?_update_other _ _ (Ne.symm hb)]
      exact e) (args_listiter_next _))
  refine wpAny_bind (wpAny_attempt (wpAny_callSpecial?_slot hit.typeIs slot_listiter_next (run _ _ fun a h' k ty => ?_)))
  exact wpAny_bind (wpAny_isInstance (b := true) ty isSubtype_stop (wpAny_pure (hQ h' k)))
theorem tup_end_hot {it l x1 : Addr} {i : Nat} {items : Array Value} {Q : Option Value → Shared → Prop} (hot : HotAt A x1 s.heap) (hit : IsTupIter s.heap it l i) (hl : IsTup s.heap l items) (hx : items[i]? = none)
    (hQ : ∀ h', Heap.ExtBut it s.heap h' → Q none { s with heap := h' }) : wpAny (model prog w) A (pyNext (.ref it)) Q E s := by
  obtain ⟨o, ho, hc, hd⟩ := id hit
  obtain ⟨ol, hol, _, nl, hdl⟩ := hl
  obtain ⟨hh, o1, vs1, h1, d1, c1⟩ := hot
  have ne := no_iter h1 d1 c1 ho hd
  unfold pyNext
  have run := fun (R : Value → Shared → Prop) (F : Value → Shared → Prop) (hF : ∀ (a : Addr) (h' : Heap), Heap.ExtBut it s.heap h' → ({ s with heap := h' } : Shared).TypeIs (.ref a) "StopIteration" → F (.ref a) { s with heap := h' }) =>
    (wpAny_call_entry (prog := prog) (w := w) (A := A) (E := F) (s := s) (rest := []) (Q := R) slot_tupleiter_next hit.typeIs entry_tupleiter_next (by
      refine wpAny_bind (m := field (.ref it) 0) (wpAny_field ho hd (x := .ref l) rfl ?_)
      show wpAny _ A.in1 (if (Value.ref l == Value.none) = true then _ else _) _ F s
      rw [if_neg (by exact Bool.false_ne_true)]
      refine wpAny_bind (m := field (.ref it) 1) (wpAny_field ho hd (x := .int i 0) rfl ?_)
      refine wpAny_bind (m := seqItems? (.ref l)) (wpAny_seqItems hol hdl ?_)
      simp only [Int.toNat_natCast, hx]
      refine wpAny_bind (wpAny_rule (wpAny_bind (wpAny_setField ho hd (by simp) ?_)))
      refine stop_hot (x1 := x1) ⟨hh, o1, vs1, (Heap.get?_update_other _ _ (Ne.symm ne)).trans h1, d1, c1⟩ fun a h' k ty => hF a h' (fun b o hb e => k b o ?_) ty
      rw [Heap.get?_update_other _ _ (Ne.symm hb)]
      exact e) (args_tupleiter_next _))
  refine wpAny_bind (wpAny_attempt (wpAny_callSpecial?_slot hit.typeIs slot_tupleiter_next (run _ _ fun a h' k ty => ?_)))
  exact wpAny_bind (wpAny_isInstance (b := true) ty isSubtype_stop (wpAny_pure (hQ h' k)))
end
end GH
set_option Elab.async false
set_option linter.all false
set_option maxRecDepth 100000
set_option maxHeartbeats 4000000
namespace GH
open PySem PySem.Spec PyProof.Rows L2 L2H HotX
section
variable {prog : Program} {w : World} {A : Around} {E : Value → Shared → Prop} {s : Shared}
theorem HotAt.ext {x1 : Addr} {h h' : Heap} (hot : HotAt A x1 h) (k : ∀ b o, h.get? b = some o → h'.get? b = some o) : HotAt A x1 h' := by
  obtain ⟨hh, o, vs, h1, d, c⟩ := hot
  exact ⟨hh, o, vs, k _ _ h1, d, c⟩
theorem hot_lt {x1 : Addr} {h : Heap} (hot : HotAt A x1 h) : x1 < h.objs.size := by
  obtain ⟨_, o, vs, h1, _, _⟩ := hot
  exact Heap.lt_size h1
theorem parts_hot {t x1 : Addr} {items : Array Value} {Q : List Value → Shared → Prop} (hot : HotAt A x1 s.heap) (ht : IsTup s.heap t items)
    (hQ : ∀ h', Heap.ExtBut s.heap.objs.size s.heap h' → Q items.toList { s with heap := h' }) : wpAny (model prog w) A (unpackItems (.ref t) items.size none) Q E s := by
  have hlt : t < s.heap.objs.size := by obtain ⟨o, ho, _⟩ := ht; exact Heap.lt_size ho
  have hx := hot_lt hot
  unfold unpackItems
  refine wpAny_bind ?_
  unfold notIterableAtAll
  refine wpAny_bind (wpAny_specialOf ht.typeIs slot_tuple_iter.lookup (wpAny_pure ?_))
  simp only [Bool.false_eq_true, if_false]
  refine wpAny_bind (wpAny_holding (iter_tuple ht (wpAny_bind (wpAny_holding (draw_tuple (Nat.ne_of_lt hlt) items.size 0 _ _ ⟨_, Heap.get?_push_size _ rfl, rfl, rfl⟩ (ht.push _) (by omega) fun h1 hit hs => ?_)))))
  have hall : (items.toList.drop 0).take items.size = items.toList := List.take_of_length_le (by simp)
  rw [hall, if_neg (by simp)]
  have hot1 : HotAt A x1 h1 := by
    obtain ⟨hh, o, vs, g, d, c⟩ := hot
    exact ⟨hh, o, vs, hs.extBut _ _ (Nat.ne_of_lt hx) (Heap.get?_push_of_some _ g), d, c⟩
  have ht1 : IsTup h1 t items := (ht.push _).extBut hs.extBut (Nat.ne_of_lt hlt)
  refine wpAny_bind (wpAny_holding (tup_end_hot (s := { s with heap := h1 }) hot1 hit ht1 (by simp) fun h2 he => ?_))
  simp only [Option.isSome_none, Bool.false_eq_true, if_false]
  exact wpAny_pure (hQ h2 fun b o hb e => he b o hb (hs.extBut b o hb (Heap.get?_push_of_some _ e)))
end
/-- what a block's context keeps of the handled error -/
structure HotB (X : Cx) (p : Addr × Obj) : Prop where
  hot : Hot1 X.A p
  get : X.s_0.heap.get? p.1 = some p.2
  free : X.H_0 p.1 = none
  nofs : p.1 ∉ X.fs
  noex : p.1 ∉ X.ex
section
variable {X : Cx} {p : Addr × Obj} {pins : List (Addr × Obj)} {σ : L2.St} {H : Hp} {s : Shared}
theorem HotB.at (b : HotB X p) (I : Inv X pins σ H s) : HotAt X.A p.1 s.heap := by
  obtain ⟨hh, vs, d, c⟩ := b.hot
  exact ⟨hh, p.2, vs, I.base.keep _ _ b.get b.free b.nofs b.noex, d, c⟩
theorem pg_tupH {es : List Expr} {k : Nat} {t : TGs} {n : Nat} {pos : Pos} (b : HotB X p) (h : PGs X es t)
    (hn : (assignEach es X.env).length = n := by rfl) (hst : (assignEach es X.env).findIdx? (·.1) = none := by rfl) : PG X (.Tuple es k pos) (gTup X.K n t) := by
  refine ⟨fun pins s σ H v u Q I r hw => ?_⟩
  obtain ⟨a, xs, rfl, hq, hl, hw⟩ := hw
  cases r
  obtain ⟨its, rv, ht, hz⟩ := I.tuple hq
  have hsz : (assignEach es X.env).length = its.toArray.size := by simp [hn, ← hl, rv.length]
  rw [assign_Tuple]
  refine wpAny_bind (wpAny_standAt ?_)
  unfold unpack
  rw [hsz, hst]
  refine wpAny_bind (wpAny_holding (parts_hot (b.at I) ht fun h' hx => ?_))
  have I1 : Inv X pins σ H { s with heap := h' } := I.kept (t' := s.toks) fun b o e => hx b o (Nat.ne_of_lt (Heap.lt_size e)) e
  exact h.run pins _ σ H xs _ Q I1 (by simpa using rv) hw
end
end GH
set_option Elab.async false
set_option linter.all false
set_option maxRecDepth 100000
set_option maxHeartbeats 4000000
namespace GH
open PySem PySem.Spec PyProof.Rows L2 L2H HotX
section
variable {X : Cx} {p : Addr × Obj}
/-- the block of [elt for tg in a list if ..] where an error is handled; what uses the list comes behind it -/
theorem lcH {pins : List (Addr × Obj)} {s : Shared} {σ : L2.St} {H : Hp} {Q : VK} {elt tg l : Expr} {ifs : List Expr} {scope : Scope} {own : List (Str × Nat)} {pos pos' : Pos} {tl : TE} {g : TG} {tt : TT} {te : TE} {use : Option (Value → Sem Unit)} {Qf : Value → Shared → Prop}
    (hp : Hot1 X.A p) (hin : p ∈ X.pn) (hN : X.N.Nodup) (I : Inv X pins σ H s) (hl : PE X l tl) (ok : BlkOk X.N X.env.scope scope own)
    (hg : ∀ (s : Shared) (H : Hp) (C : Addr) (cl : List (Str × Addr)) (fp : List Addr), HotB (X.blk s H scope (compEnvC scope cl C X.env) fp) p → PG (X.blk s H scope (compEnvC scope cl C X.env) fp) tg g)
    (ht : ∀ (s : Shared) (H : Hp) (C : Addr) (cl : List (Str × Addr)) (fp : List Addr), PTs (X.blk s H scope (compEnvC scope cl C X.env) fp) ifs tt)
    (he : ∀ (s : Shared) (H : Hp) (C : Addr) (cl : List (Str × Addr)) (fp : List Addr), PE (X.blk s H scope (compEnvC scope cl C X.env) fp) elt te) (hs : ∀ x, foldedSetIterable l X.env x = pure x)
    (h : tLc (iList X.K tl) g tt te (own.map (·.2)) σ H Q)
    (out : ∀ (D C : Addr) (s' : Shared) (m : Str → Option Value) (H' : Hp), Inv X pins σ H' s' → Q (.ref D) H' → s'.heap.Ns C m → FpOk X pins H' C → compPost (model X.prog X.w) X.A X.xe use Qf (.ref D) C (.ok .next) s') :
    wpAny (model X.prog X.w) X.A (comprehension (.ListComp elt [⟨tg, l, ifs, 0⟩] scope pos) scope X.env pos' (newList []) false (eval l X.env) use) Qf X.xe s := by
  have cells : ∀ y ∈ scope.names, y.2 = .free → ∃ c, X.env.cells.lookup y.1 = some c := fun y hy e => (ok.free y hy e).elim (fun k => I.ok.has _ (.inl k)) (fun k => I.ok.has _ (.inr k))
  refine wpAny_comprehension_free (use := use) rfl hs (closure_ok cells) ok.kind (fun y hy e => by rw [ok.uniq y hy, e]) (thn (hl.run pins s σ H _ I h) fun v s1 hv => ?_)
  obtain ⟨x, H1, I1, rx, a, rfl, ⟨xs, hxs⟩, q⟩ := hv
  cases (show v = Value.ref a from rx)
  obtain ⟨us, rv, pl, hz⟩ := I1.list hxs
  refine wpAny_pyIter_list pl.isList ?_
  -- the iterator
  have Ii : Inv X pins σ H1 { s1 with heap := s1.heap.push { cls := .type "list_iterator", data := .fields #[.ref a, .int 0 0] } } := I1.kept (t' := s1.toks) fun b o e => Heap.get?_push_of_some _ e
  generalize hit : s1.heap.objs.size = it
  have fi : FpOk X pins H1 it := by rw [← hit]; exact I1.fpOk (Nat.le_refl _) (I1.hok.fresh (Nat.le_refl _))
  have ti : (s1.heap.push { cls := .type "list_iterator", data := .fields #[.ref a, .int 0 0] }).IsListIter it a 0 := by rw [← hit]; exact ⟨_, Heap.get?_push_size _ rfl, rfl, rfl⟩
  generalize hs2 : ({ s1 with heap := s1.heap.push { cls := .type "list_iterator", data := .fields #[.ref a, .int 0 0] } } : Shared) = s2 at Ii
  have h2 : s2.heap = s1.heap.push { cls := .type "list_iterator", data := .fields #[.ref a, .int 0 0] } := by rw [← hs2]
  rw [← h2] at ti
  refine wpAny_newObj_type (newEnv_comp ?_) (by show 0 ≤ sizeLine; decide)
  generalize hD : s2.heap.objs.size = D
  have nD : H1 D = none := Ii.hok.fresh (Nat.le_of_eq hD)
  obtain ⟨W, ⟨m0, w0⟩, turn⟩ := q D nD
  -- the new list
  generalize hs3 : ({ s2 with heap := s2.heap.push { cls := .type "list", data := .seq ([] : List Value).toArray } } : Shared) = s3
  have h3 : s3.heap = s2.heap.push { cls := .type "list", data := .seq ([] : List Value).toArray } := by rw [← hs3]
  have I3 : Inv X pins σ (upd H1 D (.lst [])) s3 := by
    rw [← hs3]
    refine Ii.laid (t' := s2.toks) (fun b o e => Heap.get?_push_of_some _ e) (Nat.le_of_eq hD) ⟨Nat.zero_le _, [], 0, .nil, ?_⟩
    rw [← hD]
    exact Heap.get?_push_size _ rfl
  have lit : it < s2.heap.objs.size := by obtain ⟨o, e, _⟩ := ti; exact Heap.lt_size e
  have f3 : FpOk X pins (upd H1 D (.lst [])) it ∧ it < s3.heap.objs.size := by
    refine ⟨⟨?_, fi.2⟩, by rw [h3, Heap.size_push]; exact Nat.lt_succ_of_lt lit⟩
    rw [upd_ne (by rw [← hD]; exact Nat.ne_of_lt lit)]
    exact fi.1
  have t3 : s3.heap.IsListIter it a 0 := by
    rw [h3]
    obtain ⟨o, e, c, d⟩ := ti
    exact ⟨o, Heap.get?_push_of_some _ e, c, d⟩
  have f3' : ∀ b ∈ [it], FpOk X pins (upd H1 D (.lst [])) b ∧ b < s3.heap.objs.size := fun b hb => by rw [List.mem_singleton.mp hb]; exact f3
  have I4 := block_start I3 ok hN f3'
  have pp := I3.pin p (List.mem_append_left _ hin)
  have hb : HotB (X.blk s3 (upd H1 D (.lst [])) scope (compEnvC scope (cellsFrom (s3.heap.objs.size + 1) scope.names (cloFrom X.env.cells scope.names [])) s3.heap.objs.size X.env) [it]) p :=
    ⟨hp, pp.1, pp.2.1, fun hm => (List.mem_cons.mp (I3.stkSub p.1 hm)).elim pp.2.2.1 pp.2.2.2.1, fun z => f3.1.2.2.2.2.2 p (List.mem_append_left _ hin) (List.mem_singleton.mp z)⟩
  have pg := hg s3 (upd H1 D (.lst [])) s3.heap.objs.size (cellsFrom (s3.heap.objs.size + 1) scope.names (cloFrom X.env.cells scope.names [])) [it] hb
  have pt := ht s3 (upd H1 D (.lst [])) s3.heap.objs.size (cellsFrom (s3.heap.objs.size + 1) scope.names (cloFrom X.env.cells scope.names [])) [it]
  have pe := he s3 (upd H1 D (.lst [])) s3.heap.objs.size (cellsFrom (s3.heap.objs.size + 1) scope.names (cloFrom X.env.cells scope.names [])) [it]
  generalize hce : compEnvC scope (cellsFrom (s3.heap.objs.size + 1) scope.names (cloFrom X.env.cells scope.names [])) s3.heap.objs.size X.env = ce at I4 hb pg pt pe
  have cL : ce.locals = s3.heap.objs.size := by rw [← hce]; rfl
  have nit : (upd H1 D (.lst [])) it = none := f3.1.1
  generalize hH3 : upd H1 D (.lst []) = H3 at I3 I4 hb pg pt pe w0 nit f3 f3'
  generalize hs4 : ({ s3 with heap := pushCells (s3.heap.push { cls := .type "dict", data := .dict #[] }) scope.names } : Shared) = s4 at I4
  have t4 : s4.heap.IsListIter it a 0 := by
    obtain ⟨o, e, c, d⟩ := t3
    rw [← hs4]
    exact ⟨o, pushCells_keeps _ _ _ _ (Heap.get?_push_of_some _ e), c, d⟩
  have fpk : ∀ {σ' : L2.St} {H' : Hp} {s' : Shared}, Inv (X.blk s3 H3 scope ce [it]) [] σ' H' s' → H' it = none → FpOk (X.blk s3 H3 scope ce [it]) [] H' it := fun {σ' H' s'} I' hn =>
    ⟨hn, (I'.ok.exf it (List.mem_singleton.mpr rfl)).1, I'.ok.exfs it (List.mem_singleton.mpr rfl), .inl (List.mem_singleton.mpr rfl), fun x c e => (I'.ok.exf it (List.mem_singleton.mpr rfl)).2 x c e, fun r hr => absurd (show r ∈ ([] : List (Addr × Obj)) ++ [] from hr) (by simp)⟩
  have loop : codeAny (model X.prog X.w) X.A (.compLoop (.ListComp elt [⟨tg, l, ifs, 0⟩] scope pos) 0 (.ref it) (.ref D) ce) (compPost (model X.prog X.w) X.A X.xe use Qf (.ref D) s3.heap.objs.size) s4 := by
    refine compLoop_any (fun n s' => ∃ i H', Inv (X.blk s3 H3 scope ce [it]) [] (wipe σ (own.map (·.2))) H' s' ∧ s'.heap.IsListIter it a i ∧ H' it = none ∧ W i n H') ?_ m0 ⟨0, H3, I4, t4, nit, w0⟩
    rintro n s5 ⟨i, H5, I5, t5, n5, w5⟩
    rcases turn i n H5 w5 with ⟨⟨ys, hys, hle⟩, qq⟩ | ⟨⟨ys, y, hys, hy⟩, Nx, hNx, step⟩
    · -- the list is used up
      obtain ⟨vs, r5, p5, _⟩ := I5.list hys
      obtain ⟨g0, g1, g2, g3, g4, g5⟩ := fpk I5 n5
      refine thnF (list_end_hot (E := fun _ _ => False) (hb.at I5) t5 p5.isList (by have := r5.length; simp; omega) (Q := fun r s6 => r = none ∧ Inv (X.blk s3 H3 scope ce [it]) [] (wipe σ (own.map (·.2))) H5 s6) fun h' eb => ⟨rfl, I5.turned (t' := s5.toks) (fun b o k e => eb b o k e) g0 g1 g3 g4 g5⟩) fun r s6 hr => ?_
      obtain ⟨rfl, I6⟩ := hr
      have I7 : Inv X pins σ H5 s6 := I3.call' (ch := [it]) I6.os I6.base I6.hok I6.bare fun b hb => ⟨(f3' b hb).1.2.2.2.1, (f3' b hb).1.2.1, (f3' b hb).1.2.2.2.2.1, (f3' b hb).1.2.2.2.2.2⟩
      have nC : H5 s3.heap.objs.size = none := cL ▸ I6.free
      obtain ⟨m, hn, _⟩ := I6.loc
      have hn : s6.heap.Ns ce.locals m := hn
      rw [cL] at hn
      exact out D s3.heap.objs.size s6 m H5 I7 qq hn (I3.fpOk (Nat.le_refl _) nC)
    · -- one more
      obtain ⟨vs, r5, p5, _⟩ := I5.list hys
      obtain ⟨u, hu, ru⟩ := r5.get hy
      obtain ⟨g0, g1, g2, g3, g4, g5⟩ := fpk I5 n5
      refine thnF (wpAny_pyNext_list_item (E := fun _ _ => False) t5 p5.isList (x := u) (by simpa using hu) (Q := fun r s6 => r = some u ∧ Inv (X.blk s3 H3 scope ce [it]) [] (wipe σ (own.map (·.2))) H5 s6 ∧ s6.heap.IsListIter it a (i + 1)) fun h' st' sb => ⟨rfl, I5.turned (t' := s5.toks) (fun b o hb e => (sb.2 b hb).trans e) g0 g1 g3 g4 g5, st'⟩) fun r s6 hr => ?_
      obtain ⟨rfl, I6, t6⟩ := hr
      obtain ⟨o6, e6, c6, d6⟩ := id t6
      refine go_of e6 c6 d6 (by decide) ?_
      have I6' := I6.pinned (fp := [it]) (fun b hb => by rw [List.mem_singleton.mp hb]; exact fpk I6 n5) (fun b hb => by rw [List.mem_singleton.mp hb]; exact ⟨o6, e6, fun v z => by rw [d6] at z; cases z⟩)
      have mine : (it, o6) ∈ ([] : List (Addr × Obj)) ++ pinsAt [it] s6.heap := List.mem_append_right _ (mem_pinsAt (List.mem_singleton.mpr rfl) e6)
      refine thnF (pg.run _ s6 _ H5 y u _ I6' ru (step y H5 ⟨rfl, fun zs hzs => by rw [I5.list_inj hzs hys]; exact hy⟩)) fun _ s8 ⟨σ8, H8, I8, hw8, q8⟩ => ?_
      refine thnF (pt.run _ s8 σ8 H8 _ I8 q8) fun b s9 ⟨H9, I9, q9⟩ => ?_
      have fin : ∀ {s' : Shared} {H' : Hp}, Inv (X.blk s3 H3 scope ce [it]) ([] ++ pinsAt [it] s6.heap) σ8 H' s' → Nx H' → ∃ m, m < n ∧ ∃ i H', Inv (X.blk s3 H3 scope ce [it]) [] (wipe σ (own.map (·.2))) H' s' ∧ s'.heap.IsListIter it a i ∧ H' it = none ∧ W i m H' := fun {s' H'} I' nx => by
        obtain ⟨m', hm, w'⟩ := hNx H' nx
        have kept := I'.pin (it, o6) (List.mem_append_right _ mine)
        have hl : (wipe σ (own.map (·.2))).length = σ8.length := by rw [← hw8, wipe_length]
        refine ⟨m', hm, i + 1, H', (I'.unpinned (pins := [])).weak hl (fun j v e => ?_), ⟨o6, kept.1, c6, d6⟩, kept.2.1, w'⟩
        rw [← hw8] at e
        exact (wipe_some e).1
      cases b with
      | false =>
        simp only [Bool.false_eq_true, if_false] at q9 ⊢
        exact fin I9 q9
      | true =>
        simp only [if_true] at q9 ⊢
        refine thnF (pe.run _ s9 σ8 H9 _ I9 q9) fun z s10 ⟨yv, H10, I10, r10, acc, hD10, hz10, nx⟩ => ?_
        exact app_ok (X := X.blk s3 H3 scope ce [it]) I10 hD10 hz10 r10 fun s11 I11 => fin I11 nx
  rw [← hce] at loop
  exact codeAny_compStart_list loop (wpAny_pyIter_listiter t4 loop)
/-- as a value -/
theorem pe_lcH {elt tg l : Expr} {ifs : List Expr} {scope : Scope} {own : List (Str × Nat)} {pos : Pos} {tl : TE} {g : TG} {tt : TT} {te : TE} (hp : Hot1 X.A p) (hin : p ∈ X.pn) (hN : X.N.Nodup) (hl : PE X l tl) (ok : BlkOk X.N X.env.scope scope own)
    (hg : ∀ (s : Shared) (H : Hp) (C : Addr) (cl : List (Str × Addr)) (fp : List Addr), HotB (X.blk s H scope (compEnvC scope cl C X.env) fp) p → PG (X.blk s H scope (compEnvC scope cl C X.env) fp) tg g)
    (ht : ∀ (s : Shared) (H : Hp) (C : Addr) (cl : List (Str × Addr)) (fp : List Addr), PTs (X.blk s H scope (compEnvC scope cl C X.env) fp) ifs tt)
    (he : ∀ (s : Shared) (H : Hp) (C : Addr) (cl : List (Str × Addr)) (fp : List Addr), PE (X.blk s H scope (compEnvC scope cl C X.env) fp) elt te) (hs : ∀ x, foldedSetIterable l X.env x = pure x := by intro _; rfl) :
    PE X (.ListComp elt [⟨tg, l, ifs, 0⟩] scope pos) (tLc (iList X.K tl) g tt te (own.map (·.2))) := by
  refine ⟨fun pins s σ H Q I h => ?_⟩
  rw [eval_ListComp]
  refine lcH hp hin hN I hl ok hg ht he hs h fun D C s' m H' I' q hn f => ⟨m, hn, fun h'' sb => ?_⟩
  obtain ⟨k0, k1, k2, k3, k4, k5⟩ := f
  exact ⟨.ref D, H', I'.turned (t' := s'.toks) (fun b o hb e => (sb.2 b hb).trans e) k0 k1 k3 k4 k5, rfl, q⟩
end
end GH
set_option Elab.async false
set_option linter.all false
set_option maxRecDepth 100000
set_option maxHeartbeats 4000000
namespace GH
open PySem PySem.Spec PyProof.Rows L2 L2H HotX
/-- what a def promises where just the error p is handled -/
structure FnAt (p : Addr × Obj) (P : Program) (w : World) (K : PySem.W.Frag) (mg : Str → Option Value) (base : Heap) (k : Nat) (f : Addr) (fd : FuncData) (ps : List Str) (sp : Sp) : Prop where
  len : ∀ vs H Q E, sp vs H Q E → vs.length = ps.length
  run : ∀ (A : Around) (outer : List Env) (s : Shared) (H : Hp) (args : Args) (us : List Value) (vs : List V) (Q : VK), RoomH k A → Hot1 A p → PinOk outer H s p → Env0 P w K mg base A outer s H → BindsTo s fd args (ps.zip us) → Vals vs us → sp vs H Q (fun _ _ _ => False) →
    codeAny (model P w) A (.call (.ref f) args) (CR CX0 outer P w H s Q fun _ _ _ => False) s
theorem fnAt_of {p : Addr × Obj} {P : Program} {w : World} {K : PySem.W.Frag} {mg : Str → Option Value} {base : Heap} {k : Nat} {x qual : Str} {params : Arguments} {body : List Stmt} {scope : Scope} {f : Addr} {fd : FuncData} {N ps : List Str} {sp : Sp}
    (F : FunD K x qual params body scope [] [] f fd) (S : FnScope N ps scope) (len : ∀ vs H Q E, sp vs H Q E → vs.length = ps.length)
    (hbody : ∀ (cdv : Value) (A : Around) (outer : List Env) (s : Shared) (H : Hp) (vs : List V) (Q : VK), Hot1 A p → RoomH k (A.deeper (envOfC qual scope s.heap.objs.size f cdv)) → sp vs H Q (fun _ _ _ => False) →
      ∃ t, PSs (cxH CX0 P w K mg base N qual scope f cdv A outer s H (fun _ _ _ => False) p) body t ∧ t { nx := fun _ H' => Q .non H', rt := Q } (L2.start N vs) H) : FnAt p P w K mg base (k + 1) f fd ps sp := by
  obtain ⟨oc, od, dV, kV, doc, pm, an, cdv, ct, osl, e, lk, hcd, _, _⟩ := F.ex
  subst e
  refine ⟨len, fun A outer s H args us vs Q hr hot hpin e0 hb r hsp => ?_⟩
  have up : ∀ b o, base.get? b = some o → s.heap.get? b = some o := fun b o e => (e0.bs b o e).1
  have KX := e0.mod.kin.keeps up
  have lim := e0.mod.nolimit.keeps up
  have kinds : ∀ y ∈ ps.zip us, scope.names.lookup y.1 = some .local ∨ (scope.names.lookup y.1 = some .cell ∧ ((cellsFrom (s.heap.objs.size + 1) scope.names []).lookup y.1).isSome = true) := by
    rintro ⟨n, v⟩ hy
    refine (S.par n (List.of_mem_zip hy).1).imp id fun q => ⟨q, ?_⟩
    exact PySem.W.cellsFrom_some _ _ _ (.inl q)
  refine codeAny_call_function hr.depth (KX _ _ lk) rfl S.co S.gen rfl (PySem.W.codeRec_of KX hcd) (hb _ _ _ _ ?_)
  refine wpAny_newFunctionEnv_cells S.kind kinds fun env he s1 inC => ?_
  subst he
  refine ⟨lim.keeps inC.toInCall.keep, codeAny_func ?_⟩
  obtain ⟨t, ht, hq⟩ := hbody cdv A outer s H vs Q hot (hr.deeper _) hsp
  have I : Inv (cxH CX0 P w K mg base N qual scope f cdv A outer s H (fun _ _ _ => False) p) [] (L2.start N vs) H s1 := inv_startH S hpin e0 (len _ _ _ _ hsp) r inC
  refine wpAny_mono (ht.run [] s1 (L2.start N vs) H _ I hq) (fun fl s' hs => ?_) fun e s' hs => hs
  cases fl with
  | ret u =>
    obtain ⟨v, σ', H', J, rv, q⟩ := hs
    exact ⟨v, H', J.os, J.bare, J.base, J.hok, rv, q⟩
  | next =>
    obtain ⟨σ', H', J, q⟩ := hs
    exact ⟨.non, H', J.os, J.bare, J.base, J.hok, rfl, q⟩
  | brk => exact hs.elim fun _ z => z.elim fun _ z => z.2.elim
  | cont => exact hs.elim fun _ z => z.elim fun _ z => z.2.elim
section
variable {X : Cx} {p : Addr × Obj} {k : Nat} {f : Addr} {fd : FuncData} {ps : List Str} {sp : Sp} {x : Str} {q pos : Pos} {e : Expr} {es : List Expr} {t : TA}
theorem pe_callAt (F : FnAt p X.prog X.w X.K X.mg X.base k f fd ps sp) (hr : RoomH k X.A) (hot : Hot1 X.A p) (hin : p ∈ X.pn) (hg : Gl X x) (hm : X.mg x = some (.ref f)) (hk : PySem.W.keepIn X.K (.ref f) = true) (hb : Binds X.K fd ps [])
    (ha : PA X (e :: es) t) (hdb : (x == ("__debug__" : Str)) = false := by decide) (he : starEach (e :: es) X.env = (false, eval e X.env) :: starEach es X.env := by rfl) (hpl : (backTo pos (starEach es X.env)).any (·.1) = false := by rfl) :
    PE X (.Call (.Name x q) (e :: es) [] pos) (tCall sp [] (fun _ _ _ => False) t) := by
  refine ⟨fun pins s σ H Q I h => ?_⟩
  refine wpAny_Call_Name_kw (ld_glob I hg hm ?_ hdb)
  refine PySem.W.callWith_K (h₀ := X.base) I.ok.mod.kin hk (thn (ha.run pos pins s σ H _ I h) fun us s1 ⟨vs, H1, I1, r, h1⟩ => ⟨I1.kIn, ?_⟩) he hpl
  simp only [List.append_nil] at h1
  have hl : us.length = ps.length := by rw [← r.length]; exact F.len _ _ _ _ h1
  have b := hb s1 us I1.kIn (by rw [List.append_nil]; exact hl)
  rw [List.append_nil] at b
  have P1 := I1.pin p (List.mem_append_left _ hin)
  refine wpAny_call (codeAny_mono (F.run X.A X.stack s1 H1 ⟨us, []⟩ us vs Q hr hot ⟨P1.1, P1.2.1, fun hm => (List.mem_cons.mp (I1.stkSub p.1 hm)).elim P1.2.2.1 P1.2.2.2.1, P1.2.2.2.2⟩ I1.env0 b r h1) fun res s' hq => ?_)
  cases res with
  | error e => exact hq.elim
  | ok fl =>
    cases fl with
    | ret u => exact I1.after hq
    | next => exact hq.elim
    | brk => exact hq.elim
    | cont => exact hq.elim
/-- isinstance of the handled error -/
theorem call_isAt {D : Addr} (C : ExcC X.K D) (hz : Zc (.ref D) none p.2) (hf : ∃ vs, p.2.data = .fields vs) (hin : p ∈ X.pn) : CallR X (.builtin "isinstance") (rIsE X.K D p.1) := by
  intro pins s σ H xs us Q I r h
  obtain ⟨c, cv, b, rfl, hcv, e, q⟩ := h
  obtain ⟨u1, u2, rfl, rx, rt⟩ : ∃ u1 u2, us = [u1, u2] ∧ RelV (.ref p.1) u1 ∧ RelV c u2 := by
    cases r with
    | cons a r => cases r with
      | cons b r => cases r; exact ⟨_, _, rfl, a, b⟩
  cases (show u1 = Value.ref p.1 from rx)
  cases hcv _ rt
  have hget := (I.pin p (List.mem_append_left _ hin)).1
  have J : PySem.W.InstAt s.heap p.1 p.2 D none := by
    obtain ⟨⟨a, oc, od, oda, osl⟩, h1, h2, ⟨vs, hv⟩⟩ : ∃ z : Addr × Obj, z = p ∧ Zc (.ref D) none z.2 ∧ ∃ vs, z.2.data = .fields vs := ⟨p, rfl, hz, hf⟩
    subst h1
    obtain ⟨h2, h3⟩ := h2
    dsimp only at h2 h3 hv
    subst h2 h3 hv
    exact ⟨hget, rfl, rfl, trivial⟩
  exact PySem.W.kia_one (PySem.W.handS_kitx_exc C.hg C.hk C.hs C.hd C.ha C.hn C.ht C.hm) I.kIn J e (fun z => nomatch z) fun tk => ⟨.bl b, H, I.kept (t' := tk) fun _ _ z => z, rfl, q⟩
end
end GH
set_option Elab.async false
set_option linter.all false
set_option maxRecDepth 100000
set_option maxHeartbeats 4000000
namespace GH
open PySem PySem.Spec PyProof.Rows L2 L2H HotX
section
variable {X : Cx} {p : Addr × Obj}
/-- name = [..] on one line where an error is handled -/
theorem ps_setLcH {i : Nat} {y : Str} {py : Pos} {elt tg l : Expr} {ifs : List Expr} {scope : Scope} {own : List (Str × Nat)} {pos spos : Pos} {tl : TE} {g : TG} {tt : TT} {te : TE} (hp : Hot1 X.A p) (hin : p ∈ X.pn) (hN : X.N.Nodup) (hy : X.N[i]? = some y) (hyl : X.env.scope.names.lookup y = some .local)
    (hsw : swapsWith (.ListComp elt [⟨tg, l, ifs, 0⟩] scope pos) (some (.Name y py)) spos.line X.env = pure true) (hl : PE X l tl) (ok : BlkOk X.N X.env.scope scope own)
    (hg : ∀ (s : Shared) (H : Hp) (C : Addr) (cl : List (Str × Addr)) (fp : List Addr), HotB (X.blk s H scope (compEnvC scope cl C X.env) fp) p → PG (X.blk s H scope (compEnvC scope cl C X.env) fp) tg g)
    (ht : ∀ (s : Shared) (H : Hp) (C : Addr) (cl : List (Str × Addr)) (fp : List Addr), PTs (X.blk s H scope (compEnvC scope cl C X.env) fp) ifs tt)
    (he : ∀ (s : Shared) (H : Hp) (C : Addr) (cl : List (Str × Addr)) (fp : List Addr), PE (X.blk s H scope (compEnvC scope cl C X.env) fp) elt te) (hs : ∀ x, foldedSetIterable l X.env x = pure x := by intro _; rfl) :
    PS X (.Assign [.Name y py] (.ListComp elt [⟨tg, l, ifs, 0⟩] scope pos) spos) (tAsg (tLc (iList X.K tl) g tt te (own.map (·.2))) (gName i)) := by
  refine ⟨fun pins s σ H D I h => ?_⟩
  rw [exec_Assign_Name_used _ _ _ _ hsw]
  have h : tLc (iList X.K tl) g tt te (own.map (·.2)) σ H (fun x H1 => gName i x σ H1 D.nx) := h
  have store : ∀ (L C : Addr) (s' : Shared) (m : Str → Option Value) (H' : Hp), Inv X pins σ H' s' → gName i (.ref L) σ H' D.nx → s'.heap.Ns C m → FpOk X pins H' C → compPost (model X.prog X.w) X.A X.xe (some (assign (.Name y py) X.env)) (fun _ s' => SP X pins D .next s') (.ref L) C (.ok .next) s' := by
    intro L C s' m H' I' q hn f
    show wpAny _ _ (assign (.Name y py) X.env (.ref L)) _ _ _
    obtain ⟨f0, f1, f2, f3, f4, f5⟩ := f
    refine wpAny_assign_Name (store_ok2 (v := V.ref L) I' hN hy (.inl hyl) rfl (fun s2 I2 ⟨a, sb, ha⟩ => ?_) (.inr hyl))
    have apart : C ≠ a := ha.elim (fun z => z ▸ f1) fun z e => f4 y a z e.symm
    exact ⟨m, hn.sameBut sb apart, fun h3 sb3 => ⟨_, H', I2.turned (t' := s2.toks) (fun b o hb e => (sb3.2 b hb).trans e) f0 f1 f3 f4 f5, q⟩⟩
  refine wpAny_bind (wpAny_standAt (wpAny_bind ?_))
  show wpAny _ X.A (do
    let _ ← comprehension (.ListComp elt [⟨tg, l, ifs, 0⟩] scope pos) scope X.env (firstIterPos [⟨tg, l, ifs, 0⟩] pos) (newList []) false (eval l X.env) (some (assign (.Name y py) X.env))
    _) _ _ s
  exact wpAny_bind (thn (lcH (Qf := fun _ s' => SP X pins D .next s') hp hin hN I hl ok hg ht he hs h store) fun _ s' hq => wpAny_pure (wpAny_pure hq))
end
end GH
set_option Elab.async false
set_option linter.all false
set_option maxRecDepth 100000
set_option maxHeartbeats 4000000
namespace Bo
open PySem PySem.Spec PyProof.Rows L2 GE GH
/-- the classes of error, in the law's order -/
structure Err (K : PySem.W.Frag) (ca : Nat → Addr) : Prop where
  exc : ∀ i, i < 5 → ExcC K (ca i)
  kit : ∀ i j, i < 5 → j < 5 → PySem.W.kitOne K (.ref (ca i)) (.ref (ca j)) = Option.some (decide (i = j))
  ve : ∀ i, i < 5 → PySem.W.kitOne K (.ref (ca i)) (.type "ValueError") = Option.some true
def word : Nat → Str
  | 0 => "letters" | 1 => "pattern" | 2 => "great" | 3 => "text" | _ => "room"
def spKi (i : Nat) (a : Addr) : Sp := fun vs H Q _ => vs = [.ref a] ∧ ∀ r H', H r = Option.none → Ext H H' → H' r = Option.some (.lst [.str (word i)]) → Q (.ref r) H'
section
variable {P : Program} {w : World} {K : PySem.W.Frag} {mg : Str → Option Value} {base : Heap}
theorem scKi : FnScope ["_law_error", "_law_found", "_law_word", "_law_is_one"] ["_law_error"] (defScope sLawKind) := ⟨rfl, rfl, rfl, by decide +kernel, rfl, by decide +kernel, by decide +kernel⟩
theorem ki_ok {f : Addr} {fd : FuncData} {p : Addr × Obj} {ca : Nat → Addr} {i : Nat} (F : FnP K "_law_kind" sLawKind f fd) (er : Err K ca) (hi : i < 5) (hz : Zc (.ref (ca i)) Option.none p.2) (hf : ∃ vs, p.2.data = .fields vs)
    (m0 : mg "NoLetters" = Option.some (.ref (ca 0))) (m1 : mg "NoPattern" = Option.some (.ref (ca 1))) (m2 : mg "TooGreat" = Option.some (.ref (ca 2))) (m3 : mg "NoText" = Option.some (.ref (ca 3))) (m4 : mg "NoRoom" = Option.some (.ref (ca 4)))
    (mi : mg "isinstance" = none) (mn : mg "int" = none) (ml : mg "len" = none) (mv : mg "ValueError" = none) : FnAt p P w K mg base 1 f fd ["_law_error"] (spKi i p.1) := by
  refine fnAt_of F scKi (fun vs H Q E h => ?_) (fun cdv A outer s H vs Q hot hr h => ?_)
  · obtain ⟨rfl, _⟩ := h
    rfl
  obtain ⟨rfl, q⟩ := h
  have is_ : ∀ {X : Cx}, X.K = K → p ∈ X.pn → CallR X (.builtin "isinstance") (rIsE X.K (ca i) p.1) := fun hK hin => call_isAt (hK ▸ er.exc i hi) hz hf hin
  have pin : ∀ {X : Cx}, X.pn = [p] → p ∈ X.pn := fun h => h ▸ List.mem_singleton.mpr rfl
  refine ⟨_, pss_cons (ps_set (i := 1) scKi.nd rfl (Or.inl rfl) (pe_lst (pa_cons (pe_tup (pa_cons pe_str (pa_cons (pe_callB (is_ rfl (pin rfl)) rfl mi (by decide +kernel) (pa_cons (pv 0) (pa_cons (pe_glob (v := .ref (ca 0)) rfl m0 rfl) pa_nil))) pa_nil)))
      (pa_cons (pe_tup (pa_cons pe_str (pa_cons (pe_callB (is_ rfl (pin rfl)) rfl mi (by decide +kernel) (pa_cons (pv 0) (pa_cons (pe_glob (v := .ref (ca 1)) rfl m1 rfl) pa_nil))) pa_nil))) pa_nil))))
    (pss_cons (ps_set (i := 1) scKi.nd rfl (Or.inl rfl) (pe_op op_cat (pv 1) (pe_lst (pa_cons (pe_tup (pa_cons pe_str (pa_cons (pe_callB (is_ rfl (pin rfl)) rfl mi (by decide +kernel) (pa_cons (pv 0) (pa_cons (pe_glob (v := .ref (ca 2)) rfl m2 rfl) pa_nil))) pa_nil)))
      (pa_cons (pe_tup (pa_cons pe_str (pa_cons (pe_callB (is_ rfl (pin rfl)) rfl mi (by decide +kernel) (pa_cons (pv 0) (pa_cons (pe_glob (v := .ref (ca 3)) rfl m3 rfl) pa_nil))) pa_nil))) pa_nil)))))
    (pss_cons (ps_setLcH (i := 1) (own := [("_law_word", 2), ("_law_is_one", 3)]) (g := gTup K 2 (gCons (gName 2) (gCons (gName 3) gNil))) (tt := tB (tVar 3)) (te := tVar 2) hot (pin rfl) scKi.nd rfl rfl (sw_true rfl rfl rfl (by decide +kernel))
      (pe_op op_cat (pv 1) (pe_lst (pa_cons (pe_tup (pa_cons pe_str (pa_cons (pe_callB (is_ rfl (pin rfl)) rfl mi (by decide +kernel) (pa_cons (pv 0) (pa_cons (pe_glob (v := .ref (ca 4)) rfl m4 rfl) pa_nil))) pa_nil))) pa_nil)))
      (blkOk_by (N := ["_law_error", "_law_found", "_law_word", "_law_is_one"]) (sc := defScope sLawKind) (by decide +kernel))
      (fun _ _ _ _ _ hb => pg_tupH hb (pgs_cons (pg_name (i := 2) scKi.nd rfl (Or.inl rfl) (Or.inr rfl)) (pgs_cons (pg_name (i := 3) scKi.nd rfl (Or.inl rfl) (Or.inr rfl)) pgs_nil)))
      (fun _ _ _ _ _ => pts_one (pt_val (pv 3))) (fun _ _ _ _ _ => pv 2))
    (pss_one (ps_ret (pe_op op_rep (pv 1) (pe_callTy call_int1 rfl mn boot_int (pa_cons (pe_and (pe_cmpR op_eq (pe_callB call_len rfl ml PySem.boot_len (pa_cons (pv 1) pa_nil)) pe_int (nomark _))
      (pe_one (pe_callB (is_ rfl (pin rfl)) rfl mi (by decide +kernel) (pa_cons (pv 0) (pa_cons (pe_bltn (v := .ty "ValueError") (u := .type "ValueError") rfl mv (by decide +kernel) rfl) pa_nil))))) pa_nil))))))), ?_⟩
  have isi : ∀ (j : Nat), j < 5 → ∀ {σ : L2.St} {H' : Hp} {R : VK}, σ[0]? = Option.some (Option.some (.ref p.1)) → R (.bl (decide (i = j))) H' → tCB (rIsE K (ca i) p.1) (tCons (tVar 0) (tCons (tC (.ref (ca j))) tNil)) σ H' R := fun j hj σ H' R h0 r =>
    ⟨_, h0, .ref (ca j), .ref (ca j), _, rfl, fun u h => h, er.kit i j hi hj, r⟩
  have z2 : 2 ≤ sizeLine := by decide
  refine t_set (isi 0 (by omega) rfl ⟨z2, fun q0 y0 => isi 1 (by omega) rfl ⟨z2, fun q1 y1 => ⟨z2, fun l1 x1 => ?_⟩⟩⟩)
  have e1 := Ext.new (o := .tup [V.str "letters", .bl (decide (i = 0))]) y0
  have e2 := Ext.new (o := .tup [V.str "pattern", .bl (decide (i = 1))]) y1
  have e3 := Ext.new (o := .lst [.ref q0, .ref q1]) x1
  refine t_set ⟨_, rfl, isi 2 (by omega) rfl ⟨z2, fun q2 y2 => isi 3 (by omega) rfl ⟨z2, fun q3 y3 => ⟨z2, fun l2 x2 => ?_⟩⟩⟩⟩
  have e4 := Ext.new (o := .tup [V.str "great", .bl (decide (i = 2))]) y2
  have e5 := Ext.new (o := .tup [V.str "text", .bl (decide (i = 3))]) y3
  have e6 := Ext.new (o := .lst [.ref q2, .ref q3]) x2
  refine ⟨l1, l2, _, _, rfl, rfl, (e4.trans (e5.trans e6)).lst upd_same, upd_same, by show 4 ≤ sizeLine; decide, fun l3 x3 => ?_⟩
  have e7 := Ext.new (o := .lst ([V.ref q0, .ref q1] ++ [V.ref q2, .ref q3])) x3
  refine t_set ⟨_, rfl, isi 4 (by omega) rfl ⟨z2, fun q4 y4 => ⟨by show 1 ≤ sizeLine; decide, fun l4 x4 => ?_⟩⟩⟩
  have e8 := Ext.new (o := .tup [V.str "room", .bl (decide (i = 4))]) y4
  have e9 := Ext.new (o := .lst [.ref q4]) x4
  refine ⟨l3, l4, _, _, rfl, rfl, (e8.trans e9).lst upd_same, upd_same, by show 5 ≤ sizeLine; decide, fun l5 x5 => ?_⟩
  have e10 := Ext.new (o := .lst ([V.ref q0, .ref q1] ++ [V.ref q2, .ref q3] ++ [V.ref q4])) x5
  have all := e1.trans (e2.trans (e3.trans (e4.trans (e5.trans (e6.trans (e7.trans (e8.trans (e9.trans e10))))))))
  refine ⟨l5, rfl, ⟨_, SqL.of upd_same⟩, fun D hD => ?_⟩
  have t4 := (e9.trans e10).tup (show upd _ q4 _ q4 = _ from upd_same)
  have t3 := (e6.trans (e7.trans (e8.trans (e9.trans e10)))).tup (show upd _ q3 _ q3 = _ from upd_same)
  have t2 := (e5.trans (e6.trans (e7.trans (e8.trans (e9.trans e10))))).tup (show upd _ q2 _ q2 = _ from upd_same)
  have t1 := (e3.trans (e4.trans (e5.trans (e6.trans (e7.trans (e8.trans (e9.trans e10))))))).tup (show upd _ q1 _ q1 = _ from upd_same)
  have t0 := (e2.trans (e3.trans (e4.trans (e5.trans (e6.trans (e7.trans (e8.trans (e9.trans e10)))))))).tup (show upd _ q0 _ q0 = _ from upd_same)
  have t5 : upd (upd (upd (upd (upd (upd (upd (upd (upd (upd H q0 (.tup [V.str "letters", .bl (decide (i = 0))])) q1 (.tup [V.str "pattern", .bl (decide (i = 1))])) l1 (.lst [.ref q0, .ref q1])) q2 (.tup [V.str "great", .bl (decide (i = 2))])) q3 (.tup [V.str "text", .bl (decide (i = 3))])) l2 (.lst [.ref q2, .ref q3])) l3 (.lst ([V.ref q0, .ref q1] ++ [V.ref q2, .ref q3]))) q4 (.tup [V.str "room", .bl (decide (i = 4))])) l4 (.lst [.ref q4])) l5 (.lst ([V.ref q0, .ref q1] ++ [V.ref q2, .ref q3] ++ [V.ref q4])) l5 = Option.some (.lst [.ref q0, .ref q1, .ref q2, .ref q3, .ref q4]) := upd_same
  generalize hG : upd (upd (upd (upd (upd (upd (upd (upd (upd (upd H q0 (.tup [V.str "letters", .bl (decide (i = 0))])) q1 (.tup [V.str "pattern", .bl (decide (i = 1))])) l1 (.lst [.ref q0, .ref q1])) q2 (.tup [V.str "great", .bl (decide (i = 2))])) q3 (.tup [V.str "text", .bl (decide (i = 3))])) l2 (.lst [.ref q2, .ref q3])) l3 (.lst ([V.ref q0, .ref q1] ++ [V.ref q2, .ref q3]))) q4 (.tup [V.str "room", .bl (decide (i = 4))])) l4 (.lst [.ref q4])) l5 (.lst ([V.ref q0, .ref q1] ++ [V.ref q2, .ref q3] ++ [V.ref q4])) = G at hD t0 t1 t2 t3 t4 t5 all ⊢
  clear e1 e2 e3 e4 e5 e6 e7 e8 e9 e10
  refine lc_list (K := K) (a := l5) (xs := [.ref q0, .ref q1, .ref q2, .ref q3, .ref q4]) (fun m H' => Ext G H' ∧ H' D = Option.some (.lst (((List.range m).filter fun j => decide (i = j)).map fun j => V.str (word j)))) ⟨(Ext.refl _).wr hD, upd_same⟩ (fun m H' _ s => SqL.of (s.1.lst t5)) ?_ ?_
  · rintro m x H' hx ⟨e, hDm⟩
    obtain ⟨hm5, qm, rfl, hqm⟩ : m < 5 ∧ ∃ qm, x = .ref qm ∧ G qm = Option.some (.tup [.str (word m), .bl (decide (i = m))]) := by
      rcases m with _ | _ | _ | _ | _ | m
      · exact ⟨by omega, q0, (Option.some.inj hx).symm, t0⟩
      · exact ⟨by omega, q1, (Option.some.inj hx).symm, t1⟩
      · exact ⟨by omega, q2, (Option.some.inj hx).symm, t2⟩
      · exact ⟨by omega, q3, (Option.some.inj hx).symm, t3⟩
      · exact ⟨by omega, q4, (Option.some.inj hx).symm, t4⟩
      · cases hx
    refine g_pair (e.tup hqm) ⟨rfl, _, rfl, _, rfl, ?_⟩
    by_cases h9 : i = m
    · refine iffT (decide_eq_true h9) ⟨_, rfl, _, hDm, ?_, e.wr hD, ?_⟩
      · rw [List.length_map]
        have h8 := List.length_filter_le (fun j => decide (i = j)) (List.range m)
        rw [List.length_range] at h8
        exact Nat.lt_of_le_of_lt h8 (Nat.lt_of_lt_of_le hm5 (by decide))
      · rw [upd_same, List.range_succ, List.filter_append, List.map_append]
        simp [List.filter, h9]
    · refine iffF (decide_eq_false h9) ⟨e, ?_⟩
      rw [List.range_succ, List.filter_append, List.map_append]
      simpa [List.filter, h9] using hDm
  · rintro H1 ⟨e, hD5⟩
    have h5 : (((List.range ([.ref q0, .ref q1, .ref q2, .ref q3, .ref q4] : List V).length).filter fun j => decide (i = j)).map fun j => V.str (word j)) = [V.str (word i)] := by
      have : i = 0 ∨ i = 1 ∨ i = 2 ∨ i = 3 ∨ i = 4 := by omega
      rcases this with rfl | rfl | rfl | rfl | rfl <;> rfl
    rw [h5] at hD5
    refine ⟨_, rfl, _, rfl, .ref D, _, rfl, .inl ⟨_, SqL.of hD5, rfl⟩, rfl, _, rfl, iffT (decide_eq_true rfl) ?_⟩
    refine ⟨_, rfl, .ty "ValueError", .type "ValueError", _, rfl, fun u h => h, er.ve i hi, .inr ⟨_, rfl, D, 1, _, rfl, rfl, hD5, by decide, by decide, by show 1 * 1 ≤ sizeLine; decide, fun r hr => ?_⟩⟩
    exact q r _ ((all.trans e).free hr) ((all.trans e).trans (Ext.new hr)) upd_same
end
end Bo
set_option Elab.async false
set_option linter.all false
set_option maxRecDepth 100000
set_option maxHeartbeats 8000000
namespace Bo
open PySem PySem.Spec PyProof.Rows L2 GE GH
def dRoom : PyData := .list [.str "room"]
def dTold (x : PyData) : PyData := .tuple [.str "told", x]
/-- what is told of a room and a thing -/
structure ToldR (ss : List (List Nat)) (es : List Bool) (lv rv tv : V) (d : PyData) : Prop where
  bad : goodV lv = false → d = dLetters
  room : goodV lv = true → goodR ss.length rv = false → d = dRoom
  text : ∀ L, lv = .str L → goodS L = true → goodR ss.length rv = true → goodT L tv = false → d = dText
  good : ∀ L r, lv = .str L → goodS L = true → rv = nV r → r < ss.length → goodT L tv = true → ∃ w, tv = .str (wt L w) ∧ (∀ k ∈ w, k < (cds L).length) ∧ Well (cds L).length ss es ∧ d = dTold (.int ((macOf (cds L).length ss es).run r w : Nat))
structure ToldP (ss : List (List Nat)) (es : List Bool) (lv rv ov : V) (d : PyData) : Prop where
  bad : goodV lv = false → d = dLetters
  room : goodV lv = true → goodR ss.length rv = false → d = dRoom
  other : goodV lv = true → goodR ss.length rv = true → goodR ss.length ov = false → d = dRoom
  good : ∀ L a b, lv = .str L → goodS L = true → rv = nV a → a < ss.length → ov = nV b → b < ss.length → Well (cds L).length ss es ∧ ((∃ w, (macOf (cds L).length ss es).Least a b w ∧ d = dTold (.str (wt L w))) ∨ ((∀ w, ¬ (macOf (cds L).length ss es).Least a b w) ∧ d = dTold .none))
def spTo (K : PySem.W.Frag) (T1 T2 : Addr) : Sp := fun vs H Q _ => ∃ (y : Int) (lv rv tv : V) (m s e : Addr) (rs : List Addr) (ss : List (List Nat)) (es : List Bool) (Tr Tt : String) (d : PyData), vs = [.int y, lv, .ref m, rv, tv] ∧ GxR.TabG H T1 ∧ GxR.TabG H T2 ∧ LV K H lv ∧ MacAt H m s e rs ss es ∧ ss.length ≤ 500 ∧ Kn K H rv Tr ∧ Kn K H tv Tt ∧ (∀ z, tv = .str z → z.cps.size ≤ 500) ∧
  ((y = 0 ∧ ToldR ss es lv rv tv d) ∨ (y = 1 ∧ ToldP ss es lv rv tv d)) ∧ ∀ v H', Ext H H' → Dp K H' v d → Q v H'
section
variable {P : Program} {w : World} {K : PySem.W.Frag} {mg : Str → Option Value} {base : Heap}
def tsK (i : Nat) (ca : Nat → Addr) (a : Addr) (cls : Value) (d : Option Addr) : TS := fun D σ H => ∃ j, j < 5 ∧ cls = .ref (ca j) ∧ d = Option.none ∧ tRet (tCall (spKi j a) [] (fun _ _ _ => False) (tCons (tVar i) tNil)) D σ H
theorem scTo : FnScope ["_law_way", "_law_letters_here", "_law_machine_here", "_law_room", "_law_thing", "_law_error"] ["_law_way", "_law_letters_here", "_law_machine_here", "_law_room", "_law_thing"] (defScope sLawTold) := ⟨rfl, rfl, rfl, by decide +kernel, rfl, by decide +kernel, by decide +kernel⟩
theorem to_ok {f g g2 k : Addr} {fd gd gd2 kd : FuncData} {ca : Nat → Addr} {PE_ : Addr} {T1 T2 : Addr} (F : FnP K "_law_told" sLawTold f fd) (er : Err K ca) (exm : ∀ i, i < 5 → PySem.W.exmOne K (.ref (ca i)) (.ref PE_) = Option.some true) (mP : mg "PatternError" = Option.some (.ref PE_))
    (G : FnOk P w K mg base (L2N.CX P w) 4 g gd ["letters", "machine", "room", "text"] (spRo K (ca 0) (ca 4) (ca 3) T1 T2)) (bG : Binds K gd ["letters", "machine", "room", "text"] []) (kG : PySem.W.keepIn K (.ref g) = true) (mG : mg "room_of" = Option.some (.ref g))
    (G2 : FnOk P w K mg base (L2N.CX P w) 4 g2 gd2 ["letters", "machine", "room", "other"] (spPa K (ca 0) (ca 4) T1)) (bG2 : Binds K gd2 ["letters", "machine", "room", "other"] []) (kG2 : PySem.W.keepIn K (.ref g2) = true) (mG2 : mg "parting" = Option.some (.ref g2))
    (J : FnP K "_law_kind" sLawKind k kd) (bJ : Binds K kd ["_law_error"] []) (mJ : mg "_law_kind" = Option.some (.ref k))
    (m0 : mg "NoLetters" = Option.some (.ref (ca 0))) (m1 : mg "NoPattern" = Option.some (.ref (ca 1))) (m2 : mg "TooGreat" = Option.some (.ref (ca 2))) (m3 : mg "NoText" = Option.some (.ref (ca 3))) (m4 : mg "NoRoom" = Option.some (.ref (ca 4)))
    (mi : mg "isinstance" = none) (mn : mg "int" = none) (ml : mg "len" = none) (mv : mg "ValueError" = none) : FnOk P w K mg base CX0 5 f fd ["_law_way", "_law_letters_here", "_law_machine_here", "_law_room", "_law_thing"] (spTo K T1 T2) := by
  refine okX F scTo (fun vs H Q E h => ?_) (fun cdv A outer s H vs Q E hr h => ?_)
  · obtain ⟨y, lv, rv, tv, m, s, e, rs, ss, es, Tr, Tt, d, rfl, _⟩ := h
    rfl
  obtain ⟨y, lv, rv, tv, m, s', e, rs, ss, es, Tr, Tt, d, rfl, hT1, hT2, hL, hm, hn, hrk, htk, htz, hd, q⟩ := h
  refine ⟨_, pss_one (L2N.ps_try_as (Wout := fun _ _ _ _ => False) (ts := tsK 5 ca) (i := 5) (c := .ref PE_) rfl rfl scTo.nd rfl rfl ⟨rfl, by decide, .inl mP⟩ (fun u s' ⟨_, _, _, _, _, _, _, _, _, _, _, _, _, _, _, _, w⟩ => w.elim)
    (fun W pn xe tk _ => (pss_cons (ps_if (pt_cmpR op_eq (pv 0) pe_int (nomark _)) (pss_one (ps_ret (pe_tup (pa_cons pe_str (pa_cons (pe_callS G hr rfl mG kG bG (fun σ => L2N.passAt tk σ) (pa_cons (pv 1) (pa_cons (pv 2) (pa_cons (pv 3) (pa_cons (pv 4) pa_nil))))) pa_nil))))) pss_nil) (pss_one (ps_ret (pe_tup (pa_cons pe_str (pa_cons (pe_callS G2 hr rfl mG2 kG2 bG2 (fun σ => L2N.passAt tk σ) (pa_cons (pv 1) (pa_cons (pv 2) (pa_cons (pv 3) (pa_cons (pv 4) pa_nil))))) pa_nil)))))))
    (fun a oe cls d pn hzn hf => ⟨fun pins s σ H D I h => ?_⟩)), ?_⟩
  · obtain ⟨i, hi, rfl, rfl, q⟩ := h
    obtain ⟨vs, hv⟩ := id hf
    refine PSs.run (t := tRet (tCall (spKi i a) [] (fun _ _ _ => False) (tCons (tVar 5) tNil))) ?_ pins s σ H D I q
    refine pss_one (ps_ret (pe_callAt (p := (a, oe)) (k := 1) (ki_ok J er hi hzn.zc hf m0 m1 m2 m3 m4 mi mn ml mv) ⟨?_, ?_⟩ ⟨rfl, vs, hv, hzn.2.2 vs hv⟩ List.mem_cons_self rfl mJ J.kp bJ (pa_cons (pv 5) pa_nil)))
    · have := hr.dp
      show A.depth + 1 + 3 * 1 + 5 < recursionLimit
      have h9 : A.depth + 1 + 3 * 4 + 5 < recursionLimit := this
      omega
    · have := hr.un
      show A.units + 3 + 16 * 1 + 200 < cLine
      have h9 : A.units + 3 + 16 * 4 + 200 < cLine := this
      omega
  have z2 : 2 ≤ sizeLine := by decide
  have tell : ∀ i, i < 5 → d = .list [.str (word i)] → ∀ H', Ext H H' → wAs K (.ref PE_) 5 (tsK 5 ca) (fun _ _ _ _ => False) { nx := fun _ H' => Q .non H', rt := Q } (.ref (ca i)) Option.none [Option.some (.int y), Option.some lv, Option.some (.ref m), Option.some rv, Option.some tv, Option.none] H' := fun i hi e H' e1 =>
    ⟨true, exm i hi, fun _ a ha => ⟨i, hi, rfl, rfl, _, rfl, rfl, fun r H'' n e2 hr => q _ H'' (e1.trans e2) (e ▸ dp_word hr)⟩, fun h => by cases h⟩
  have say : ∀ (x : V) (dx : PyData), d = dTold dx → ∀ H', Ext H H' → (∀ H'', Dp K H'' x dx) → (2 ≤ sizeLine ∧ ∀ p, H' p = none → Q (.ref p) (upd H' p (.tup [.str "told", x]))) := fun x dx e H' e1 hx =>
    ⟨z2, fun p xp => q _ _ (e1.trans (Ext.new xp)) (e ▸ .tup (SqT.of upd_same) (.cons (.str _) (.cons (hx _) .nil)))⟩
  rcases hd with ⟨rfl, hd⟩ | ⟨rfl, hd⟩
  · refine t_seq ⟨_, rfl, rfl, _, rfl, iffT rfl ?_⟩
    refine ⟨_, rfl, _, rfl, _, rfl, _, rfl, lv, rv, tv, m, s', e, rs, ss, es, Tr, rfl, hT1, hT2, hL, hm, hn, hrk, ⟨Tt, htk⟩, htz, fun b H' e' => tell 0 (by omega) (hd.bad b) H' e', fun g b H' e' => tell 4 (by omega) (hd.room g b) H' e', fun L e1 g1 g2 b H' e' => tell 3 (by omega) (hd.text L e1 g1 g2 b) H' e', fun L r e1 g1 e2 hr9 g3 => ?_⟩
    obtain ⟨w, a1, a2, a3, a4⟩ := hd.good L r e1 g1 e2 hr9 g3
    exact ⟨w, a1, a2, a3, fun H' e' => say _ _ a4 H' e' fun _ => .int _⟩
  · refine t_seq ⟨_, rfl, rfl, _, rfl, iffF rfl ?_⟩
    refine ⟨_, rfl, _, rfl, _, rfl, _, rfl, lv, rv, tv, m, s', e, rs, ss, es, Tr, Tt, rfl, hT1, hL, hm, hn, hrk, htk, fun b H' e' => tell 0 (by omega) (hd.bad b) H' e', fun g b H' e' => tell 4 (by omega) (hd.room g b) H' e', fun g g1 b H' e' => tell 4 (by omega) (hd.other g g1 b) H' e', fun L a b e1 g1 e2 ha e3 hb => ?_⟩
    obtain ⟨a1, a2⟩ := hd.good L a b e1 g1 e2 ha e3 hb
    refine ⟨a1, fun w hw H' e' => ?_, fun hno H' e' => ?_⟩
    · rcases a2 with ⟨w', hw', e9⟩ | ⟨hno, _⟩
      · have : w = w' := hw.unique hw'
        subst this
        exact say _ _ e9 H' e' fun _ => .str _
      · exact absurd hw (hno w)
    · rcases a2 with ⟨w', hw', _⟩ | ⟨_, e9⟩
      · exact absurd hw' (hno w')
      · exact say _ _ e9 H' e' fun _ => .non
end
end Bo
set_option Elab.async false
set_option linter.all false
set_option maxRecDepth 100000
set_option maxHeartbeats 8000000
namespace Bo
open PySem PySem.Spec PyProof.Rows L2 GE
theorem gvT {L : Str} (hL : goodS L = true) : goodV (.str L) = true := hL
section
variable {ss : List (List Nat)} {es : List Bool} {L : Str}
theorem told_r (hL : goodS L = true) {r : Nat} {w : List Nat} (hr : r < ss.length) (hw : ∀ k ∈ w, k < (cds L).length) (hl : w.length ≤ 200) (W : Well (cds L).length ss es) : ToldR ss es (.str L) (nV r) (.str (wt L w)) (dTold (.int ((macOf (cds L).length ss es).run r w : Nat))) where
  bad := fun h => by rw [gvT hL] at h; cases h
  room := fun _ h => by rw [goodR_of hr] at h; cases h
  text := fun L' e _ _ h => by
    have e : L = L' := by injection e
    subst e
    rw [goodT_wt hw hl] at h; cases h
  good := fun L' r' e _ e2 _ _ => by
    have e : L = L' := by injection e
    subst e
    have e2 : (r : Int) = (r' : Int) := by injection e2
    have : r = r' := by omega
    subst this
    exact ⟨w, rfl, hw, W, rfl⟩
theorem told_rbad {lv rv tv : V} (h : goodV lv = false) : ToldR ss es lv rv tv dLetters where
  bad := fun _ => rfl
  room := fun g _ => by rw [h] at g; cases g
  text := fun L e g _ _ => by rw [e, gvT g] at h; cases h
  good := fun L r e g _ _ _ => by rw [e, gvT g] at h; cases h
theorem told_rroom {lv rv tv : V} (h : goodV lv = true) (g : goodR ss.length rv = false) : ToldR ss es lv rv tv dRoom where
  bad := fun k => by rw [h] at k; cases k
  room := fun _ _ => rfl
  text := fun L _ _ k _ => by rw [g] at k; cases k
  good := fun L r _ _ e k _ => by rw [e, goodR_of k] at g; cases g
theorem told_rtext {rv tv : V} (hL : goodS L = true) (g : goodR ss.length rv = true) (t : goodT L tv = false) : ToldR ss es (.str L) rv tv dText where
  bad := fun k => by rw [gvT hL] at k; cases k
  room := fun _ k => by rw [g] at k; cases k
  text := fun _ _ _ _ _ => rfl
  good := fun L' r e _ _ _ k => by
    have e : L = L' := by injection e
    subst e
    rw [t] at k; cases k
theorem told_p (hL : goodS L = true) {a b : Nat} {d : PyData} (ha : a < ss.length) (hb : b < ss.length) (W : Well (cds L).length ss es) (h : (∃ w, (macOf (cds L).length ss es).Least a b w ∧ d = dTold (.str (wt L w))) ∨ ((∀ w, ¬ (macOf (cds L).length ss es).Least a b w) ∧ d = dTold .none)) : ToldP ss es (.str L) (nV a) (nV b) d where
  bad := fun h => by rw [gvT hL] at h; cases h
  room := fun _ h => by rw [goodR_of ha] at h; cases h
  other := fun _ _ h => by rw [goodR_of hb] at h; cases h
  good := fun L' a' b' e _ e2 _ e3 _ => by
    have e : L = L' := by injection e
    subst e
    have e2 : (a : Int) = (a' : Int) := by injection e2
    have e3 : (b : Int) = (b' : Int) := by injection e3
    have : a = a' := by omega
    subst this
    have : b = b' := by omega
    subst this
    exact ⟨W, h⟩
theorem told_pbad {lv rv tv : V} (h : goodV lv = false) : ToldP ss es lv rv tv dLetters where
  bad := fun _ => rfl
  room := fun g _ => by rw [h] at g; cases g
  other := fun g _ _ => by rw [h] at g; cases g
  good := fun L a b e g _ _ _ _ => by rw [e, gvT g] at h; cases h
theorem told_proom {lv rv tv : V} (h : goodV lv = true) (g : goodR ss.length rv = false ∨ goodR ss.length tv = false) : ToldP ss es lv rv tv dRoom where
  bad := fun k => by rw [h] at k; cases k
  room := fun _ _ => rfl
  other := fun _ _ _ => rfl
  good := fun L a b _ _ e k e2 k2 => by
    rcases g with g | g
    · rw [e, goodR_of k] at g; cases g
    · rw [e2, goodR_of k2] at g; cases g
end
theorem strOk_wt {L : Str} (hL : goodS L = true) {w : List Nat} (hw : ∀ k ∈ w, k < (cds L).length) : PyData.strOk (wt L w) = true := by
  show ((w.map (lt L)).toArray).all (fun c => decide (c < 0x110000)) = true
  rw [List.all_toArray, List.all_eq_true]
  intro c hc
  obtain ⟨k, hk, rfl⟩ := List.mem_map.mp hc
  have hm := lt_mem (hw k hk)
  unfold goodS at hL
  simp only [Bool.and_eq_true] at hL
  have := of_decide_eq_true (List.all_eq_true.mp hL.1.2 _ hm)
  exact decide_eq_true (by omega)
theorem dok_told {x : PyData} (h : x.canLay0 = true) (g : x.depth ≤ 500) : DOk (dTold x) := by
  refine ⟨?_, ?_⟩
  · show (PyData.strOk "told" && (x.canLay0 && true)) = true
    rw [h]; decide +kernel
  · show max 0 (max x.depth 0) + 1 ≤ 600
    omega
/-! a machine as data -/
def rowD (row : List Nat) : PyData := .list (row.map fun (x : Nat) => .int (x : Int))
def mdata (ss : List (List Nat)) (es : List Bool) : PyData := .tuple [.list (ss.map rowD), .list (es.map .bool)]
theorem dp_ints {K : PySem.W.Frag} {H : Hp} : ∀ row : List Nat, DpAll K H (nVs row) (row.map fun (x : Nat) => .int (x : Int))
  | [] => .nil
  | x :: r => .cons (.int _) (dp_ints r)
theorem dp_bools {K : PySem.W.Frag} {H : Hp} : ∀ es : List Bool, DpAll K H (bVs es) (es.map .bool)
  | [] => .nil
  | x :: r => .cons (.bl _) (dp_bools r)
theorem dp_rows {K : PySem.W.Frag} {H : Hp} : ∀ (rs : List Addr) (ss : List (List Nat)), rs.length = ss.length → (∀ (r : Nat) (a : Addr), rs[r]? = some a → ∃ row, ss[r]? = some row ∧ H a = some (.lst (nVs row))) → DpAll K H (rs.map V.ref) (ss.map rowD)
  | [], [], _, _ => .nil
  | a :: rs, row :: ss, hl, h => by
    obtain ⟨row', h1, h2⟩ := h 0 a rfl
    have h1 : row = row' := Option.some.inj h1
    subst h1
    exact .cons (.lst (SqL.of h2) (dp_ints row)) (dp_rows rs ss (Nat.succ.inj hl) fun r a hr => h (r + 1) a hr)
  | [], _ :: _, hl, _ => by cases hl
  | _ :: _, [], hl, _ => by cases hl
theorem MacAt.dp {K : PySem.W.Frag} {H : Hp} {m s e : Addr} {rs : List Addr} {ss : List (List Nat)} {es : List Bool} (h : MacAt H m s e rs ss es) : Dp K H (.ref m) (mdata ss es) :=
  .tup (SqT.of h.m) (.cons (.lst (SqL.of h.s) (dp_rows rs ss h.len h.row)) (.cons (.lst (SqL.of h.e) (dp_bools es)) .nil))
theorem lay_ints : ∀ row : List Nat, PyData.canLayAll0 (row.map fun (x : Nat) => .int (x : Int)) = true
  | [] => rfl
  | x :: r => by show (true && PyData.canLayAll0 _) = true; rw [lay_ints r]; rfl
theorem dep_ints : ∀ row : List Nat, PyData.depthAll (row.map fun (x : Nat) => .int (x : Int)) ≤ 0
  | [] => Nat.le_refl _
  | x :: r => by show max 0 (PyData.depthAll _) ≤ 0; have := dep_ints r; omega
theorem lay_bools : ∀ es : List Bool, PyData.canLayAll0 (es.map .bool) = true
  | [] => rfl
  | x :: r => by show (true && PyData.canLayAll0 _) = true; rw [lay_bools r]; rfl
theorem dep_bools : ∀ es : List Bool, PyData.depthAll (es.map .bool) ≤ 0
  | [] => Nat.le_refl _
  | x :: r => by show max 0 (PyData.depthAll _) ≤ 0; have := dep_bools r; omega
theorem lay_rows : ∀ ss : List (List Nat), PyData.canLayAll0 (ss.map rowD) = true
  | [] => rfl
  | x :: r => by show (PyData.canLayAll0 _ && PyData.canLayAll0 _) = true; rw [lay_rows r, lay_ints x]; rfl
theorem dep_rows : ∀ ss : List (List Nat), PyData.depthAll (ss.map rowD) ≤ 1
  | [] => Nat.zero_le _
  | x :: r => by show max (PyData.depthAll _ + 1) (PyData.depthAll _) ≤ 1; have := dep_rows r; have := dep_ints x; omega
theorem dok_m (ss : List (List Nat)) (es : List Bool) : DOk (mdata ss es) := by
  refine ⟨?_, ?_⟩
  · show (PyData.canLayAll0 (ss.map rowD) && (PyData.canLayAll0 (es.map .bool) && true)) = true
    rw [lay_rows, lay_bools]; rfl
  · show max (PyData.depthAll (ss.map rowD) + 1) (max (PyData.depthAll (es.map .bool) + 1) 0) + 1 ≤ 600
    have := dep_rows ss
    have := dep_bools es
    omega
theorem dp_told_inv {K : PySem.W.Frag} {H : Hp} {v : V} {i : Int} (h : Dp K H v (dTold (.int i))) : ∃ a, v = .ref a ∧ SqT K H a [.str "told", .int i] := by
  unfold dTold at h
  cases h with
  | tup hs ha =>
    cases ha with
    | cons h1 h2 =>
      cases h2 with
      | cons h3 h4 =>
        cases h4
        cases h1
        cases h3
        exact ⟨_, rfl, hs⟩
end Bo
set_option Elab.async false
set_option linter.all false
set_option maxRecDepth 100000
set_option maxHeartbeats 8000000
namespace Bo
open PySem PySem.Spec PyProof.Rows L2 GE
/-- a thing that is no text over the letters -/
def BadT (K : PySem.W.Frag) (L : Str) (H : Hp) (v : V) : Prop := (∃ Ty, Kn K H v Ty) ∧ (∀ z, v = .str z → z.cps.size ≤ 500) ∧ goodT L v = false
theorem BadT.ext {K : PySem.W.Frag} {L : Str} {H H' : Hp} {v : V} (e : Ext H H') (h : BadT K L H v) : BadT K L H' v := ⟨let ⟨Ty, k⟩ := h.1; ⟨Ty, kn_ext e k⟩, h.2⟩
theorem bad_str {K : PySem.W.Frag} {L z : Str} {H : Hp} (hz : z.cps.size ≤ 500) (h : goodT L (.str z) = false) : BadT K L H (.str z) := ⟨⟨_, Kn.ofStr _ _ _⟩, fun y e => by cases e; exact hz, h⟩
theorem bad_no {K : PySem.W.Frag} {L : Str} {H : Hp} {v : V} {T : String} (k : Kn K H v T) (n : ∀ z, v ≠ .str z) : BadT K L H v := ⟨⟨T, k⟩, fun z e => absurd e (n z), goodT_not n⟩
theorem goodT_mem {L z : Str} {c : Nat} (h : c ∈ cds z) (n : c ∉ cds L) : goodT L (.str z) = false := by
  show (decide (z.cps.size ≤ 200) && (cds z).all (fun c => decide (c ∈ cds L))) = false
  rw [Bool.and_eq_false_iff]
  refine .inr ?_
  rw [List.all_eq_false]
  exact ⟨c, h, by simp [n]⟩
theorem cds_app (a b : Str) : cds (a ++ b) = cds a ++ cds b := by
  show (a.cps ++ b.cps).toList = _
  rw [Array.toList_append]
theorem good_az {L : Str} (h : goodS L = true) {c : Nat} (hc : c ∈ cds L) : 97 ≤ c ∧ c ≤ 122 := by
  unfold goodS at h
  simp only [Bool.and_eq_true] at h
  exact of_decide_eq_true (List.all_eq_true.mp h.1.2 c hc)
def spNo (K : PySem.W.Frag) : Sp := fun vs H Q _ => ∃ (L : Str) (c : Int), vs = [.str L, .int c] ∧ goodS L = true ∧ ∀ v H', Ext H H' → BadT K L H' v → Q v H'
section
variable {P : Program} {w : World} {K : PySem.W.Frag} {mg : Str → Option Value} {base : Heap}
theorem scNo : FnScope ["_law_letters_here", "_law_cell", "_law_others", "_law_other", "_law_some", "_law_sign"] ["_law_letters_here", "_law_cell"] (defScope sLawNoText) := ⟨rfl, rfl, rfl, by decide +kernel, rfl, by decide +kernel, by decide +kernel⟩
theorem no_ok {f : Addr} {fd : FuncData} (F : FnP K "_law_no_text" sLawNoText f fd) (ml : mg "len" = none) : FnOk P w K mg base CX0 1 f fd ["_law_letters_here", "_law_cell"] (spNo K) := by
  refine okD F scNo (fun vs H Q E h => ?_) (fun cdv A outer s H vs Q E hr h => ?_)
  · obtain ⟨L, c, rfl, _⟩ := h
    rfl
  obtain ⟨L, n, rfl, hL, q⟩ := h
  refine ⟨_, (pss_cons (ps_setLc (i := 2) (own := [("_law_sign", 5)]) (g := gName 5) rfl scNo.nd rfl rfl (sw_true rfl rfl rfl (by decide +kernel)) (pi_str pe_str)
      (blkOk_by (N := ["_law_letters_here", "_law_cell", "_law_others", "_law_other", "_law_some", "_law_sign"]) (sc := defScope sLawNoText) (by decide +kernel))
      (fun _ _ _ _ _ => pg_name (i := 5) scNo.nd rfl (Or.inl rfl) (Or.inr rfl)) (fun _ _ _ _ _ => pts_one (pt_cmpR op_notIn_sign (pv 5) (pv 0) (by rfl))) (fun _ _ _ _ _ => pv 5)) (pss_cons (ps_set (i := 3) scNo.nd rfl (Or.inl rfl) (pe_ix ix_list (pv 2) (pe_op op_mod (pe_op op_fdiv (pv 1) pe_int) (pe_callB call_len rfl ml PySem.boot_len (pa_cons (pv 2) pa_nil))) (fun _ _ => rfl))) (pss_cons (ps_set (i := 4) scNo.nd rfl (Or.inl rfl) (pe_lst (pa_cons pe_non (pa_cons pe_int (pa_cons (pe_lst (pa_cons (pv 0) pa_nil)) (pa_cons (pe_tup (pa_cons (pe_ix ix_str (pv 0) pe_int (fun _ _ => rfl)) pa_nil)) (pa_cons (pe_op op_add_str (pv 0) pe_str) (pa_cons (pv 3) (pa_cons (pe_op op_add_str (pv 0) (pv 3)) (pa_cons (pe_op op_add_str (pv 3) (pv 0)) (pa_cons pe_str pa_nil))))))))))) (pss_one (ps_ret (pe_ix ix_list (pe_op op_cat (pv 4) (pe_lst (pa_cons (pe_op op_repS (pe_ix ix_str (pv 0) pe_int (fun _ _ => rfl)) pe_int) (pa_cons pe_bl pa_nil)))) (pe_op op_mod (pv 1) pe_int) (fun _ _ => rfl))))))), ?_⟩
  have l9 : ∀ n : Nat, n ≤ 1000 → n ≤ sizeLine := fun n h => Nat.le_trans h (by decide)
  obtain ⟨hL1, hL4⟩ := good_len hL
  have hcl : (cds L).length = L.cps.size := Array.length_toList
  refine t_set ⟨alphabet, rfl, fun D hD => ?_⟩
  refine lc_signs (fun i H' => Ext H H' ∧ H' D = Option.some (.lst ((((cds alphabet).take i).filter fun c => !decide (c ∈ cds L)).map fun c => V.str (sgn c)))) ⟨(Ext.refl _).wr hD, upd_same⟩ ?_ ?_
  · rintro i ch H' hc ⟨e, hD1⟩
    have hc' : (cds alphabet)[i]? = Option.some ch := by rw [← hc]; exact Array.getElem?_toList
    have htk : (cds alphabet).take (i + 1) = (cds alphabet).take i ++ [ch] := by rw [List.take_succ, hc']; rfl
    have hi : i < 26 := Nat.lt_of_lt_of_le (List.getElem?_eq_some_iff.mp hc').1 (by decide +kernel)
    refine ⟨rfl, _, rfl, _, rfl, ch, L, rfl, rfl, _, rfl, ?_⟩
    by_cases hm : ch ∈ cds L
    · refine iffF (by show (!decide (ch ∈ cds L)) = false; rw [decide_eq_true hm]; rfl) ⟨e, ?_⟩
      rw [htk, List.filter_append, List.map_append]
      simpa [List.filter, hm] using hD1
    · refine iffT (by show (!decide (ch ∈ cds L)) = true; rw [decide_eq_false hm]; rfl) ⟨_, rfl, _, hD1, ?_, e.wr hD, ?_⟩
      · rw [List.length_map]
        have h8 := List.length_filter_le (fun c => !decide (c ∈ cds L)) ((cds alphabet).take i)
        rw [List.length_take] at h8
        exact Nat.lt_of_le_of_lt h8 (Nat.lt_of_lt_of_le (show min i (cds alphabet).length < 27 by omega) (by decide))
      · rw [upd_same, htk, List.filter_append, List.map_append]
        simp [List.filter, hm, sgn]
  rintro H1 ⟨e1, hD1⟩
  rw [← cds_len, List.take_length] at hD1
  have hol := offs_ne hL
  obtain ⟨j, hj, hjl⟩ := pickN (n / 11) (offs L).length hol
  have hocm : (offs L)[j] ∈ offs L := List.getElem_mem hjl
  have hat : (offs L)[j]? = some (offs L)[j] := List.getElem?_eq_getElem hjl
  generalize (offs L)[j] = oc at hocm hat
  have hoc : oc ∉ cds L := by
    have := (List.mem_filter.mp hocm).2
    simpa using this
  dsimp only
  refine seq_to (fun σ' H' => σ' = [some (.str L), some (.int n), some (.ref D), some (.str (sgn oc)), none, none] ∧ H1 = H') (fun nx hnx => ?_) (fun σ' H' hst => ?_)
  · refine ⟨_, rfl, _, rfl, _, _, rfl, rfl, ⟨by decide, by decide⟩, _, rfl, .ref D, _, rfl, .inl ⟨_, SqL.of hD1, rfl⟩, _, _, rfl, rfl, ?_, D, _, _, .str (sgn oc), rfl, rfl, SqL.of hD1, ?_, hnx _ _ ⟨rfl, rfl⟩⟩
    · rw [List.length_map]; show (0 : Int) < (((offs L).length : Nat) : Int); omega
    · rw [List.length_map]
      show atI ((offs L).map fun c => V.str (sgn c)) (n / 11 % (((offs L).length : Nat) : Int)) = _
      rw [hj]
      exact atI_nat (by rw [List.getElem?_map, hat]; rfl)
  obtain ⟨rfl, rfl⟩ := hst
  have hA : (cds ("A" : Str)) = [65] := by decide +kernel
  have hsp : (cds (" " : Str)) = [32] := by decide +kernel
  have nA : 65 ∉ cds L := fun h => by have := good_az hL h; omega
  have nsp : 32 ∉ cds L := fun h => by have := good_az hL h; omega
  have c0 : (cds L)[0]? = some (lt L 0) := lt_get (by omega)
  have sl : L.length ≤ 4 := hL4
  have hso : (sgn oc).length = 1 := rfl
  have hlA : ("A" : Str).length = 1 := by decide +kernel
  refine seq_to (fun σ' H' => ∃ S us, σ' = [some (.str L), some (.int n), some (.ref D), some (.str (sgn oc)), some (.ref S), none] ∧ Ext H1 H' ∧ H' S = some (.lst us) ∧ us.length = 9 ∧ ∀ v ∈ us, BadT K L H' v) (fun nx hnx => ?_) (fun σ' H2 hst => ?_)
  · refine ⟨_, rfl, l9 1 (by omega), fun p1 x1 => ?_⟩
    refine ⟨_, rfl, L, _, lt L 0, rfl, rfl, l9 _ (by omega), atI_nat c0, l9 1 (by omega), fun p2 x2 => ?_⟩
    refine ⟨_, rfl, _, _, rfl, rfl, l9 _ (by rw [hlA]; omega), _, rfl, _, rfl, _, rfl, _, _, rfl, rfl, l9 _ (by rw [hso]; omega), _, rfl, _, rfl, _, _, rfl, rfl, l9 _ (by rw [hso]; omega), l9 9 (by omega), fun S xS => ?_⟩
    have f1 := Ext.new (o := .lst [V.str L]) x1
    have f2 := Ext.new (o := .tup [V.str ⟨#[lt L 0]⟩]) x2
    have h1 := f2.lst (show upd H1 p1 (.lst [V.str L]) p1 = some (.lst [V.str L]) from upd_same)
    have h2 : upd (upd H1 p1 (.lst [V.str L])) p2 (.tup [V.str ⟨#[lt L 0]⟩]) p2 = some (.tup [V.str ⟨#[lt L 0]⟩]) := upd_same
    refine hnx _ _ ⟨S, _, rfl, f1.trans (f2.trans (Ext.new xS)), upd_same, rfl, fun v hv => BadT.ext (Ext.new xS) ?_⟩
    simp only [List.mem_cons, List.not_mem_nil, or_false] at hv
    rcases hv with rfl | rfl | rfl | rfl | rfl | rfl | rfl | rfl | rfl
    · exact bad_no (T := "NoneType") ⟨.base .non, by decide⟩ (fun z h => by cases h)
    · exact bad_no (T := "int") ⟨.base (.int 5), by decide⟩ (fun z h => by cases h)
    · exact bad_no (kn_lstA h1) (fun z h => by cases h)
    · exact bad_no (kn_tupA h2) (fun z h => by cases h)
    · exact bad_str (by show (L ++ "A" : Str).length ≤ 500; rw [slen, hlA]; omega) (goodT_mem (c := 65) (by rw [cds_app, hA]; simp) nA)
    · exact bad_str (by show 1 ≤ 500; omega) (goodT_mem (c := oc) (by show oc ∈ [oc]; simp) hoc)
    · exact bad_str (by show (L ++ sgn oc : Str).length ≤ 500; rw [slen, hso]; omega) (goodT_mem (c := oc) (by rw [cds_app]; show oc ∈ cds L ++ [oc]; simp) hoc)
    · exact bad_str (by show (sgn oc ++ L : Str).length ≤ 500; rw [slen, hso]; omega) (goodT_mem (c := oc) (by rw [cds_app]; show oc ∈ [oc] ++ cds L; simp) hoc)
    · exact bad_str (by decide) (goodT_mem (c := 32) (by rw [hsp]; simp) nsp)
  obtain ⟨S, us, rfl, e2, hS, hul, hB⟩ := hst
  refine ⟨_, rfl, _, rfl, L, _, lt L 0, rfl, rfl, l9 _ (by omega), atI_nat c0, lt L 0, 201, rfl, rfl, by omega, l9 2 (by omega), fun p1 x1 => ?_⟩
  have f1 := Ext.new (o := .lst [V.str (txt (List.replicate 201 (lt L 0))), .bl true]) x1
  refine ⟨S, p1, us, _, rfl, rfl, f1.lst hS, upd_same, l9 _ (by rw [hul]; show 9 + 2 ≤ 1000; omega), fun p2 x2 => ?_⟩
  have f2 := Ext.new (o := .lst (us ++ [V.str (txt (List.replicate 201 (lt L 0))), .bl true])) x2
  obtain ⟨k, hk, hkl⟩ := pickN n 11 (by omega)
  have hall : ∀ v ∈ us ++ [V.str (txt (List.replicate 201 (lt L 0))), .bl true], BadT K L _ v := fun v hv => by
    rcases List.mem_append.mp hv with hv | hv
    · exact (hB v hv).ext (f1.trans f2)
    · simp only [List.mem_cons, List.not_mem_nil, or_false] at hv
      rcases hv with rfl | rfl
      · have hsz : (txt (List.replicate 201 (lt L 0))).length = 201 := by rw [txt_len, List.length_replicate]
        refine bad_str (by show (txt (List.replicate 201 (lt L 0))).length ≤ 500; omega) ?_
        show (decide ((txt (List.replicate 201 (lt L 0))).length ≤ 200) && (cds (txt (List.replicate 201 (lt L 0)))).all (fun c => decide (c ∈ cds L))) = false
        rw [hsz, show decide (201 ≤ 200) = false by decide]; rfl
      · exact bad_no (T := "bool") ⟨.base (.bl true), by decide⟩ (fun z h => by cases h)
  have hlen : (us ++ [V.str (txt (List.replicate 201 (lt L 0))), .bl true]).length = 11 := by rw [List.length_append, hul]; rfl
  have hg : (us ++ [V.str (txt (List.replicate 201 (lt L 0))), .bl true])[k]? = some (us ++ [V.str (txt (List.replicate 201 (lt L 0))), .bl true])[k] := List.getElem?_eq_getElem (by omega)
  refine ⟨_, rfl, _, _, rfl, rfl, show (0 : Int) < 11 by decide, p2, _, _, _, rfl, rfl, SqL.of upd_same, ?_, q _ _ (e1.trans (e2.trans (f1.trans f2))) (hall _ (List.mem_of_getElem? hg))⟩
  have hk : n % (11 : Int) = (k : Int) := hk
  rw [hk]; exact atI_nat hg
end
end Bo
set_option Elab.async false
set_option linter.all false
set_option maxRecDepth 100000
set_option maxHeartbeats 8000000
namespace Bo
open PySem PySem.Spec PyProof.Rows L2 GE
theorem one_lastL {α : Type} {zs : List α} (h : zs ≠ []) : ∃ zs0 x, zs = zs0 ++ [x] := by
  rcases List.eq_nil_or_concat zs with rfl | ⟨ys, y, rfl⟩
  · exact absurd rfl h
  exact ⟨ys, y, by simp⟩
theorem wt_rep (L : Str) (n k : Nat) : txt (List.replicate n (lt L k)) = wt L (List.replicate n k) := by unfold wt; rw [List.map_replicate]
theorem lvs (K : PySem.W.Frag) (H : Hp) {L : Str} (h : L.length ≤ 100) : LV K H (.str L) := ⟨⟨_, Kn.ofStr _ _ _⟩, fun z e => by cases e; exact h⟩
theorem kn_nat {K : PySem.W.Frag} {H : Hp} (r : Nat) : Kn K H (nV r) "int" := ⟨.base (.int _), by decide⟩
def spLo (K : PySem.W.Frag) (T1 T2 : Addr) : Sp := fun vs H Q _ => ∃ (L : Str) (m s e : Addr) (rs : List Addr) (ss : List (List Nat)) (es : List Bool) (r : Nat), vs = [.str L, .ref m, nV r] ∧ goodS L = true ∧ GxR.TabG H T1 ∧ GxR.TabG H T2 ∧ MacAt H m s e rs ss es ∧ Well (cds L).length ss es ∧ r < ss.length ∧ ∀ H', Ext H H' → Q (.bl true) H'
def spGo (K : PySem.W.Frag) (T1 T2 : Addr) : Sp := fun vs H Q _ => ∃ (L : Str) (m s e : Addr) (rs : List Addr) (ss : List (List Nat)) (es : List Bool) (a b : Nat) (w : List Nat), vs = [.str L, .ref m, nV a, nV b, .str (wt L w)] ∧ goodS L = true ∧ GxR.TabG H T1 ∧ GxR.TabG H T2 ∧ MacAt H m s e rs ss es ∧ Well (cds L).length ss es ∧ ss.length ≤ 20 ∧ a < ss.length ∧ b < ss.length ∧ (∀ k ∈ w, k < (cds L).length) ∧ w.length ≤ 100 ∧ ∀ H', Ext H H' → Q (.bl true) H'
section
variable {P : Program} {w : World} {K : PySem.W.Frag} {mg : Str → Option Value} {base : Heap}
theorem scLo : FnScope ["_law_letters_here", "_law_machine_here", "_law_room", "_law_here", "_law_turn"] ["_law_letters_here", "_law_machine_here", "_law_room"] (defScope sLawLongest) := ⟨rfl, rfl, rfl, by decide +kernel, rfl, by decide +kernel, by decide +kernel⟩
theorem lo_ok {f g : Addr} {fd gd : FuncData} {T1 T2 : Addr} (F : FnP K "_law_longest" sLawLongest f fd) (G : FnOk P w K mg base CX0 5 g gd ["_law_way", "_law_letters_here", "_law_machine_here", "_law_room", "_law_thing"] (spTo K T1 T2)) (bG : Binds K gd ["_law_way", "_law_letters_here", "_law_machine_here", "_law_room", "_law_thing"] []) (kG : PySem.W.keepIn K (.ref g) = true) (mG : mg "_law_told" = some (.ref g))
    (ml : mg "len" = none) (mr : mg "range" = none) : FnOk P w K mg base CX0 50 f fd ["_law_letters_here", "_law_machine_here", "_law_room"] (spLo K T1 T2) := by
  refine okD F scLo (fun vs H Q E h => ?_) (fun cdv A outer s H vs Q E hr h => ?_)
  · obtain ⟨L, m, s, e, rs, ss, es, r, rfl, _⟩ := h
    rfl
  obtain ⟨L, m, s', e, rs, ss, es, r, rfl, hL, hT1, hT2, hm, hw, hrn, q⟩ := h
  have hu := Nat.lt_of_le_of_lt (Nat.add_le_add_left (show 700 ≤ 16 * 49 + 200 by decide) _) (Nat.lt_of_le_of_lt (Nat.le_of_eq (Nat.add_assoc _ (16 * 49) 200).symm) hr.un)
  refine ⟨_, (pss_cons (ps_set (i := 3) scLo.nd rfl (Or.inl rfl) (pv 2)) (pss_cons (ps_for PassesOwn.never rfl (pi_range1 rfl mr (pa_cons pe_int pa_nil)) (pg_name (i := 4) scLo.nd rfl (Or.inl rfl))
      (pss_one (ps_set (i := 3) scLo.nd rfl (Or.inl rfl) (pe_ix ix_list (pe_ix ix_list (pe_ix ix_tup (pv 1) pe_int (fun _ _ => rfl)) (pv 3) (fun _ _ => rfl)) (pe_op op_sub (pe_callB call_len rfl ml PySem.boot_len (pa_cons (pv 0) pa_nil)) pe_int) (fun _ _ => rfl))))) (pss_one (ps_ret (pe_cmpR (op_eqS hu) (pe_call G (hr.mono (by decide)) rfl mG kG bG .nil pass0 (pa_cons pe_int (pa_cons (pv 0) (pa_cons (pv 1) (pa_cons (pv 2) (pa_cons (pe_op op_repS (pe_ix ix_str (pv 0) (pe_un un_neg pe_int) (fun _ _ => rfl)) pe_int) pa_nil)))))) (pe_tup (pa_cons pe_str (pa_cons (pv 3) pa_nil))) (by rfl)))))), ?_⟩
  have l9 : ∀ n : Nat, n ≤ 1000 → n ≤ sizeLine := fun n h => Nat.le_trans h (by decide)
  obtain ⟨hL1, hL4⟩ := good_len hL
  have hcl : (cds L).length = L.cps.size := Array.length_toList
  obtain ⟨l1, hl1⟩ : ∃ l1, (cds L).length = l1 + 1 := ⟨(cds L).length - 1, by omega⟩
  have ok := hw.ok (by omega)
  have hk : l1 < (cds L).length := by omega
  generalize hMM : macOf (cds L).length ss es = M at ok
  have hnw : M.n = ss.length := by rw [← hMM]; rfl
  have hMl : M.l = (cds L).length := by rw [← hMM]; rfl
  refine t_set ⟨_, rfl, ?_⟩
  have hin : ∀ i, M.run r (List.replicate i l1) < ss.length := fun i => by
    rw [← hnw]
    exact ok.run _ (hnw ▸ hrn) (fun k hk => by rw [(List.mem_replicate.mp hk).2, hMl]; omega)
  refine t_seq ⟨200, rfl, by decide, by decide, ?_⟩
  refine for_rangeN (n := 200) (fun i σ' H' => ∃ o4, σ' = [some (.str L), some (.ref m), some (nV r), some (nV (M.run r (List.replicate i l1))), o4] ∧ H = H') ⟨none, rfl, rfl⟩ ?_ ?_
  · rintro i σ' H' hi ⟨o4, rfl, rfl⟩
    obtain ⟨row, r1, r2, r3, r4⟩ := hw.get (hin i)
    rw [hMM] at r4
    have hra : M.run r (List.replicate i l1) < rs.length := by rw [hm.len]; exact hin i
    obtain ⟨row', r5, r6⟩ := hm.row _ _ (List.getElem?_eq_getElem hra)
    cases (r1.symm.trans r5)
    refine ⟨_, rfl, m, _, _, .ref s', rfl, rfl, SqT.of hm.m, atI_nat (j := 0) rfl, _, rfl, s', _, _, _, rfl, rfl, SqL.of hm.s, atI_nat (by rw [List.getElem?_map, List.getElem?_eq_getElem hra]; rfl), _, rfl, .str L, _, rfl, ⟨l9 _ (by show L.cps.size ≤ 1000; omega), rfl⟩, _, _, rfl, rfl, _, _, _, nV (M.st (M.run r (List.replicate i l1)) l1), rfl, rfl, SqL.of r6, ?_, ?_⟩
    · show atI (nVs row) (((L.cps.size : Nat) : Int) - 1) = _
      rw [show ((L.cps.size : Nat) : Int) - 1 = (l1 : Int) by omega]
      exact nVs_at (r4 l1 hk)
    · refine ⟨some (nV i), ?_, rfl⟩
      rw [List.replicate_succ', M.run_app]
      rfl
  · rintro σ' H' ⟨o4, rfl, rfl⟩
    dsimp only
    have hat : atI (cds L) (-1) = some (lt L l1) := by
      obtain ⟨xs, x, hx⟩ := one_lastL (show cds L ≠ [] from fun e => by rw [e] at hl1; cases hl1)
      have hxl : xs.length = l1 := by rw [hx, List.length_append] at hl1; simpa using hl1
      have h1 := lt_get hk
      rw [hx, ← hxl, List.getElem?_append_right (Nat.le_refl _), Nat.sub_self] at h1
      have h1 : some x = some (lt L xs.length) := h1
      rw [hx, atI_last, h1, hxl]
    have hrw : ∀ k ∈ List.replicate 200 l1, k < (cds L).length := fun k hk' => by rw [(List.mem_replicate.mp hk').2]; exact hk
    have ht := told_r (ss := ss) (es := es) hL hrn hrw (by rw [List.length_replicate]; omega) hw
    refine ⟨_, rfl, _, rfl, _, rfl, _, rfl, _, rfl, L, _, lt L l1, rfl, rfl, l9 _ (by show L.cps.size ≤ 1000; omega), hat, lt L l1, 200, rfl, rfl, by omega, ?_⟩
    rw [wt_rep]
    refine ⟨0, .str L, nV r, .str (wt L (List.replicate 200 l1)), m, s', e, rs, ss, es, "int", "str", _, rfl, hT1, hT2, lvs K _ (by show L.cps.size ≤ 100; omega), hm, by have := hw.most; omega, kn_nat r, Kn.ofStr _ _ _, fun z ez => ?_, .inl ⟨rfl, ht⟩, fun v H1 e1 hv => ?_⟩
    · cases ez
      show (wt L (List.replicate 200 l1)).length ≤ 500
      rw [wt_len, List.length_replicate]; omega
    · refine ⟨_, rfl, l9 2 (by omega), fun p xp => ?_⟩
      have eP := Ext.new (o := .tup [V.str "told", nV (M.run r (List.replicate 200 l1))]) xp
      have dk := dok_told (x := .int (((macOf (cds L).length ss es).run r (List.replicate 200 l1) : Nat) : Int)) rfl (Nat.zero_le _)
      refine ⟨_, dk.1, dk.2, dp_ext eP _ _ hv, ?_, q _ (e1.trans eP)⟩
      rw [hMM]
      exact .tup (SqT.of upd_same) (.cons (.str _) (.cons (.int _) .nil))
end
end Bo
set_option Elab.async false
set_option linter.all false
set_option maxRecDepth 100000
set_option maxHeartbeats 8000000
namespace Bo
open PySem PySem.Spec PyProof.Rows L2 GE
section
variable {P : Program} {w : World} {K : PySem.W.Frag} {mg : Str → Option Value} {base : Heap}
def rLof (K : PySem.W.Frag) : List V → L2.Hp → L2.VK → Prop := fun xs H Q => ∃ p ys, xs = [.ref p] ∧ (SqL K H p ys ∨ SqT K H p ys) ∧ ∀ l, H l = none → Q (.ref l) (upd H l (.lst ys))
theorem scGo : FnScope ["_law_letters_here", "_law_machine_here", "_law_one", "_law_two", "_law_text_here", "_law_here", "_law_sign", "_law_kept", "_law_found", "_law_due_here", "_law_pair", "_law_row"] ["_law_letters_here", "_law_machine_here", "_law_one", "_law_two", "_law_text_here"] (defScope sLawGood) := ⟨rfl, rfl, rfl, by decide +kernel, rfl, by decide +kernel, by decide +kernel⟩
theorem go_ok {f g g2 : Addr} {fd gd gd2 : FuncData} {T1 T2 : Addr} (F : FnP K "_law_good" sLawGood f fd) (G : FnOk P w K mg base CX0 5 g gd ["_law_way", "_law_letters_here", "_law_machine_here", "_law_room", "_law_thing"] (spTo K T1 T2)) (bG : Binds K gd ["_law_way", "_law_letters_here", "_law_machine_here", "_law_room", "_law_thing"] []) (kG : PySem.W.keepIn K (.ref g) = true) (mG : mg "_law_told" = some (.ref g))
    (G2 : FnOk P w K mg base CX0 2 g2 gd2 ["_law_letters_here", "_law_machine_here", "_law_one", "_law_two"] (spDuP K)) (bG2 : Binds K gd2 ["_law_letters_here", "_law_machine_here", "_law_one", "_law_two"] []) (kG2 : PySem.W.keepIn K (.ref g2) = true) (mG2 : mg "_law_due" = some (.ref g2))
    (ml : mg "list" = none) (mi : mg "isinstance" = none) (mb : mg "bool" = none) : FnOk P w K mg base CX0 50 f fd ["_law_letters_here", "_law_machine_here", "_law_one", "_law_two", "_law_text_here"] (spGo K T1 T2) := by
  refine okD F scGo (fun vs H Q E h => ?_) (fun cdv A outer s H vs Q E hr h => ?_)
  · obtain ⟨L, m, s, e, rs, ss, es, a, b, w, rfl, _⟩ := h
    rfl
  obtain ⟨L, m, s', e, rs, ss, es, a, b, wd, rfl, hL, hT1, hT2, hm, hw, hn, ha, hb, hwd, hwl, q⟩ := h
  have hu := Nat.lt_of_le_of_lt (Nat.add_le_add_left (show 700 ≤ 16 * 49 + 200 by decide) _) (Nat.lt_of_le_of_lt (Nat.le_of_eq (Nat.add_assoc _ (16 * 49) 200).symm) hr.un)
  refine ⟨_, (pss_cons (ps_set (i := 5) scGo.nd rfl (Or.inl rfl) (pv 2)) (pss_cons (ps_for PassesOwn.never rfl (pi_str (pv 4)) (pg_name (i := 6) scGo.nd rfl (Or.inl rfl))
      (pss_one (ps_set (i := 5) scGo.nd rfl (Or.inl rfl) (pe_ix ix_list (pe_ix ix_list (pe_ix ix_tup (pv 1) pe_int (fun _ _ => rfl)) (pv 5) (fun _ _ => rfl)) (pe_m1 PySem.F.slot_str_index PySem.F.type_str_index mt_sindex (pv 0) (pv 6)) (fun _ _ => rfl))))) (pss_cons (ps_set (i := 7) scGo.nd rfl (Or.inl rfl) (pe_tup (pa_cons (pe_lc (own := [("_law_row", 11)]) (g := gName 11) (tt := tYes) (te := tCB (rLof K) (tCons (tVar 11) tNil)) rfl scGo.nd (pi_list (pe_ix ix_tup (pv 1) pe_int (fun _ _ => rfl)))
        (blkOk_by (N := ["_law_letters_here", "_law_machine_here", "_law_one", "_law_two", "_law_text_here", "_law_here", "_law_sign", "_law_kept", "_law_found", "_law_due_here", "_law_pair", "_law_row"]) (sc := defScope sLawGood) (by decide +kernel))
        (fun _ _ _ _ _ => pg_name (i := 11) scGo.nd rfl (Or.inl rfl) (Or.inr rfl)) (fun _ _ _ _ _ => pts_nil)
        (fun _ _ _ _ _ => pe_callTy (r := rLof K) call_list_of rfl ml boot_list (pa_cons (pv 11) pa_nil))) (pa_cons (pe_callTy call_list_of rfl ml boot_list (pa_cons (pe_ix ix_tup (pv 1) pe_int (fun _ _ => rfl)) pa_nil)) pa_nil)))) (pss_cons (ps_set (i := 8) scGo.nd rfl (Or.inl rfl) (pe_call G (hr.mono (by decide)) rfl mG kG bG .nil pass0 (pa_cons pe_int (pa_cons (pv 0) (pa_cons (pv 1) (pa_cons (pv 2) (pa_cons (pv 4) pa_nil))))))) (pss_cons (ps_if (PW.pt (pw_or (pt_cmpR (op_neS hu) (pv 8) (pe_tup (pa_cons pe_str (pa_cons (pv 5) pa_nil))) (by rfl)) (pw_or1 (pt_val (pe_callB call_isi rfl mi (by decide +kernel) (pa_cons (pe_ix ix_tup (pv 8) pe_int (fun _ _ => rfl)) (pa_cons (pe_bltn (v := .ty "bool") (u := .type "bool") rfl mb (by decide +kernel) rfl) pa_nil))))))) (pss_one (ps_ret pe_bl)) pss_nil) (pss_cons (ps_set (i := 9) scGo.nd rfl (Or.inl rfl) (pe_tup (pa_cons pe_str (pa_cons (pe_call G2 (hr.mono (by decide)) rfl mG2 kG2 bG2 .nil pass0 (pa_cons (pv 0) (pa_cons (pv 1) (pa_cons (pv 2) (pa_cons (pv 3) pa_nil))))) pa_nil)))) (pss_cons (ps_for PassesOwn.never rfl (pi_tup (pe_tup (pa_cons (pe_tup (pa_cons (pv 2) (pa_cons (pv 3) pa_nil))) (pa_cons (pe_tup (pa_cons (pv 3) (pa_cons (pv 2) pa_nil))) (pa_cons (pe_tup (pa_cons (pv 2) (pa_cons (pv 3) pa_nil))) pa_nil))))) (pg_name (i := 10) scGo.nd rfl (Or.inl rfl))
      (pss_cons (ps_set (i := 8) scGo.nd rfl (Or.inl rfl) (pe_call G (hr.mono (by decide)) rfl mG kG bG .nil pass0 (pa_cons pe_int (pa_cons (pv 0) (pa_cons (pv 1) (pa_cons (pe_ix ix_tup (pv 10) pe_int (fun _ _ => rfl)) (pa_cons (pe_ix ix_tup (pv 10) pe_int (fun _ _ => rfl)) pa_nil))))))) (pss_one (ps_if (PW.pt (pw_or (pt_cmpR (op_neS hu) (pv 8) (pv 9) (by rfl)) (pw_or1 (pt_cmpR (op_neS hu) (pv 1) (pv 7) (by rfl))))) (pss_one (ps_ret pe_bl)) pss_nil)))) (pss_one (ps_ret pe_bl))))))))), ?_⟩
  have l9 : ∀ n : Nat, n ≤ 1000 → n ≤ sizeLine := fun n h => Nat.le_trans h (by decide)
  have l9' : ∀ n : Nat, n ≤ 1000 → n < sizeLine := fun n h => Nat.lt_of_le_of_lt h (by decide)
  obtain ⟨hL1, hL4⟩ := good_len hL
  have hcl : (cds L).length = L.cps.size := Array.length_toList
  have hl0 : 0 < (cds L).length := by omega
  have ok := hw.ok hl0
  have hLv : ∀ H', LV K H' (.str L) := fun H' => lvs K H' (by show L.cps.size ≤ 100; omega)
  generalize hMM : macOf (cds L).length ss es = M at ok
  have hnw : M.n = ss.length := by rw [← hMM]; rfl
  have hMl : M.l = (cds L).length := by rw [← hMM]; rfl
  refine t_set ⟨_, rfl, ?_⟩
  -- the room that the text leads to
  refine t_seq ⟨_, rfl, wt L wd, rfl, ?_⟩
  refine for_str (x := wt L wd) (fun i σ' H' => ∃ o6, σ' = [some (.str L), some (.ref m), some (nV a), some (nV b), some (.str (wt L wd)), some (nV (M.run a (wd.take i))), o6, none, none, none, none, none] ∧ H = H') ⟨none, rfl, rfl⟩ ?_ ?_
  · rintro i c σ' H' hc ⟨o6, rfl, rfl⟩
    have hc' : (wd.map (lt L))[i]? = some c := by
      rw [← hc]; exact Array.getElem?_toList
    rw [List.getElem?_map] at hc'
    obtain ⟨k, hk, rfl⟩ := Option.map_eq_some_iff.mp hc'
    have hkl := hwd k (List.mem_of_getElem? hk)
    obtain ⟨rest, hocc⟩ := occ_lt hL hkl
    have hin : M.run a (wd.take i) < ss.length := by
      rw [← hnw]; exact ok.run _ (hnw ▸ ha) (fun j hj => hMl ▸ hwd j (List.mem_of_mem_take hj))
    obtain ⟨row, r1, r2, r3, r4⟩ := hw.get hin
    rw [hMM] at r4
    have hra : M.run a (wd.take i) < rs.length := by rw [hm.len]; exact hin
    obtain ⟨row', r5, r6⟩ := hm.row _ _ (List.getElem?_eq_getElem hra)
    cases (r1.symm.trans r5)
    refine ⟨_, rfl, m, _, _, .ref s', rfl, rfl, SqT.of hm.m, atI_nat (j := 0) rfl, _, rfl, s', _, _, _, rfl, rfl, SqL.of hm.s, atI_nat (by rw [List.getElem?_map, List.getElem?_eq_getElem hra]; rfl), _, rfl, ⟨_, rfl⟩, _, rfl, L, sgn (lt L k), k, rest, rfl, rfl, hocc, _, _, _, nV (M.st (M.run a (wd.take i)) k), rfl, rfl, SqL.of r6, nVs_at (r4 k hkl), ?_⟩
    refine ⟨some (.str (sgn (lt L k))), ?_, rfl⟩
    rw [List.take_succ, hk]
    show _ = [some (.str L), some (.ref m), some (nV a), some (nV b), some (.str (wt L wd)), some (nV (M.run a (wd.take i ++ [k]))), some (.str (sgn (lt L k))), none, none, none, none, none]
    rw [M.run_app]
    rfl
  rintro σ' H' ⟨o6, rfl, rfl⟩
  rw [show (wt L wd).cps.size = wd.length from wt_len L wd, List.take_length]
  dsimp only
  -- the copy
  refine seq_to (fun σ' H' => ∃ k7, σ' = [some (.str L), some (.ref m), some (nV a), some (nV b), some (.str (wt L wd)), some (nV (M.run a wd)), o6, some (.ref k7), none, none, none, none] ∧ Ext H H' ∧ Dp K H' (.ref k7) (mdata ss es)) (fun nx hnx => ?_) (fun σ' H1 hst => ?_)
  · refine ⟨_, rfl, m, _, _, .ref s', rfl, rfl, SqT.of hm.m, atI_nat (j := 0) rfl, s', rfl, ⟨_, SqL.of hm.s⟩, fun D hD => ?_⟩
    refine lc_list (K := K) (a := s') (xs := rs.map V.ref) (fun i H' => Ext H H' ∧ ∃ ds : List Addr, H' D = some (.lst (ds.map V.ref)) ∧ ds.length = i ∧ i ≤ rs.length ∧ ∀ (r : Nat) (a : Addr), ds[r]? = some a → ∃ row, ss[r]? = some row ∧ H' a = some (.lst (nVs row)) ∧ a ≠ D) ⟨(Ext.refl _).wr hD, [], upd_same, rfl, Nat.zero_le _, fun r a h => by cases h⟩ (fun i H' _ p => SqL.of (p.1.lst hm.s)) ?_ ?_
    · rintro i x H' hx ⟨e1, ds, hd1, hdl, hil, hdr⟩
      rw [List.getElem?_map] at hx
      obtain ⟨ra, hra, rfl⟩ := Option.map_eq_some_iff.mp hx
      obtain ⟨row, r1, r2⟩ := hm.row i ra hra
      have hil' : i < rs.length := (List.getElem?_eq_some_iff.mp hra).1
      refine ⟨rfl, _, rfl, ra, _, rfl, .inl (SqL.of (e1.lst r2)), fun l xl => ?_⟩
      have eL := Ext.new (o := .lst (nVs row)) xl
      have lD : l ≠ D := (ne_of_none hd1 xl).symm
      have := hw.most
      refine ⟨_, eL.lst hd1, l9' _ (by rw [List.length_map, hdl]; have := hm.len; omega), (e1.trans eL).wr hD, ds ++ [l], by rw [upd_same, List.map_append]; rfl, by rw [List.length_append, hdl]; rfl, hil', fun r a' hr => ?_⟩
      rcases snoc_get hr with hr | ⟨rfl, rfl⟩
      · obtain ⟨row', s1, s2, s3⟩ := hdr r a' hr
        exact ⟨row', s1, by rw [upd_ne s3]; exact eL.lst s2, s3⟩
      · exact ⟨row, by rw [hdl]; exact r1, by rw [upd_ne lD]; exact upd_same, lD⟩
    · rintro H' ⟨e1, ds, hd1, hdl, hil, hdr⟩
      rw [List.length_map] at hdl
      refine ⟨_, rfl, m, _, _, .ref e, rfl, rfl, SqT.of (e1.tup hm.m), atI_nat (j := 1) rfl, e, _, rfl, .inl (SqL.of (e1.lst hm.e)), fun l2 xl2 => ⟨l9 2 (by omega), fun p xp => ?_⟩⟩
      have f1 := Ext.new (o := .lst (bVs es)) xl2
      have f2 := Ext.new (o := .tup [V.ref D, .ref l2]) xp
      have f := f1.trans f2
      refine hnx _ _ ⟨p, rfl, e1.trans f, .tup (SqT.of upd_same) (.cons (.lst (SqL.of (f.lst hd1)) (dp_rows ds ss (by rw [hdl, hm.len]) fun r a' hr => ?_)) (.cons (.lst (SqL.of (f2.lst upd_same)) (dp_bools es)) .nil))⟩
      obtain ⟨row', s1, s2, _⟩ := hdr r a' hr
      exact ⟨row', s1, f.lst s2⟩
  obtain ⟨k7, rfl, e1, hk7⟩ := hst
  have m1 := hm.ext e1
  have dkm := dok_m ss es
  have htr := told_r (ss := ss) (es := es) hL ha hwd (by omega) hw
  rw [hMM] at htr
  refine t_set ⟨_, rfl, _, rfl, _, rfl, _, rfl, 0, .str L, nV a, .str (wt L wd), m, s', e, rs, ss, es, "int", "str", _, rfl, e1.tab _ hT1, e1.tab _ hT2, hLv _, m1, by have := hw.most; omega, kn_nat a, Kn.ofStr _ _ _, fun z ez => ?_, .inl ⟨rfl, htr⟩, fun v H2 e2 hv => ?_⟩
  · cases ez
    show (wt L wd).length ≤ 500
    rw [wt_len]; omega
  obtain ⟨va, rfl, hva⟩ := dp_told_inv hv
  have dk1 := dok_told (x := .int ((M.run a wd : Nat) : Int)) rfl (Nat.zero_le _)
  refine seq_fall (cond := False) (fun R qT qF => ?_) (fun k => k.elim) (fun _ H3 e3 => ?_)
  · refine ⟨_, rfl, _, rfl, l9 2 (by omega), fun p xp => ?_⟩
    have eP := Ext.new (o := .tup [V.str "told", nV (M.run a wd)]) xp
    refine ⟨_, dk1.1, dk1.2, dp_ext eP _ _ hv, .tup (SqT.of upd_same) (.cons (.str _) (.cons (.int _) .nil)), _, rfl, iffF rfl ?_⟩
    refine ⟨_, rfl, va, _, _, .int ((M.run a wd : Nat) : Int), rfl, rfl, eP.sqT _ _ hva, atI_nat (j := 1) rfl, _, .ty "bool", .type "int", .type "bool", _, rfl, .ty _, .base (.int _), kn_boolK (by decide), _, rfl, ?_⟩
    exact qF (fun h => h) _ eP
  have e13 := e1.trans (e2.trans e3)
  have m3 := hm.ext e13
  -- what is due
  refine seq_to (fun σ' H' => ∃ p9 d, σ' = [some (.str L), some (.ref m), some (nV a), some (nV b), some (.str (wt L wd)), some (nV (M.run a wd)), o6, some (.ref k7), some (.ref va), some (.ref p9), none, none] ∧ Ext H3 H' ∧ Dp K H' (.ref p9) d ∧ DOk d ∧ ((∃ w, M.Least a b w ∧ d = dTold (.str (wt L w))) ∨ ((∀ w, ¬ M.Least a b w) ∧ d = dTold .none))) (fun nx hnx => ?_) (fun σ' H4 hst => ?_)
  · refine ⟨_, rfl, _, rfl, _, rfl, _, rfl, L, m, s', e, rs, ss, es, a, b, rfl, hL, m3, hw, hn, ha, hb, ?_, ?_⟩
    · intro w hwL _ H4 e4
      rw [hMM] at hwL
      refine ⟨l9 2 (by omega), fun p xp => hnx _ _ ⟨p, _, rfl, e4.trans (Ext.new xp), .tup (SqT.of upd_same) (.cons (.str _) (.cons (.str _) .nil)), dok_told (strOk_wt hL (fun k hk => hMl ▸ hwL.1.1 k hk)) (Nat.zero_le _), .inl ⟨w, hwL, rfl⟩⟩⟩
    · intro hno H4 e4
      rw [hMM] at hno
      exact ⟨l9 2 (by omega), fun p xp => hnx _ _ ⟨p, _, rfl, e4.trans (Ext.new xp), .tup (SqT.of upd_same) (.cons (.str _) (.cons .non .nil)), dok_told rfl (Nat.zero_le _), .inr ⟨hno, rfl⟩⟩⟩
  obtain ⟨p9, d, rfl, e4, h9, dk9, hD⟩ := hst
  have e14 := e13.trans e4
  refine t_seq ⟨_, rfl, _, rfl, l9 2 (by omega), fun t1 x1 => ⟨_, rfl, _, rfl, l9 2 (by omega), fun t2 x2 => ⟨_, rfl, _, rfl, l9 2 (by omega), fun t3 x3 => ⟨l9 3 (by omega), fun t4 x4 => ?_⟩⟩⟩⟩
  have f1 := Ext.new (o := .tup [nV a, nV b]) x1
  have f2 := Ext.new (o := .tup [nV b, nV a]) x2
  have f3 := Ext.new (o := .tup [nV a, nV b]) x3
  have f4 := Ext.new (o := .tup [V.ref t1, .ref t2, .ref t3]) x4
  have h1 := (f2.trans (f3.trans f4)).sqT (K := K) t1 [nV a, nV b] (SqT.of upd_same)
  have h2 := (f3.trans f4).sqT (K := K) t2 [nV b, nV a] (SqT.of upd_same)
  have h3 := f4.sqT (K := K) t3 [nV a, nV b] (SqT.of upd_same)
  have f := f1.trans (f2.trans (f3.trans f4))
  have h4 : upd (upd (upd (upd H4 t1 (.tup [nV a, nV b])) t2 (.tup [nV b, nV a])) t3 (.tup [nV a, nV b])) t4 (.tup [V.ref t1, .ref t2, .ref t3]) t4 = some (.tup [V.ref t1, .ref t2, .ref t3]) := upd_same
  generalize upd (upd (upd (upd H4 t1 (.tup [nV a, nV b])) t2 (.tup [nV b, nV a])) t3 (.tup [nV a, nV b])) t4 (.tup [V.ref t1, .ref t2, .ref t3]) = H5 at h1 h2 h3 h4 f
  clear f1 f2 f3 f4 x1 x2 x3 x4
  have e15 := e14.trans f
  refine ⟨t4, rfl, ⟨_, SqT.of h4⟩, ?_⟩
  refine for_tup (K := K) (a := t4) (xs := [V.ref t1, .ref t2, .ref t3]) (fun i σ' H' => ∃ o8 o10, σ' = [some (.str L), some (.ref m), some (nV a), some (nV b), some (.str (wt L wd)), some (nV (M.run a wd)), o6, some (.ref k7), o8, some (.ref p9), o10, none] ∧ Ext H5 H') ⟨_, none, rfl, Ext.refl _⟩ (fun i σ' H' _ p => by obtain ⟨_, _, _, e⟩ := p; exact SqT.of (e.tup h4)) ?_ ?_
  · rintro i x σ' H6 hx ⟨o8, o10, rfl, e6⟩
    have pick : ∃ t x' y', x = .ref t ∧ SqT K H5 t [nV x', nV y'] ∧ x' < ss.length ∧ y' < ss.length ∧ ((∃ w, M.Least x' y' w ∧ d = dTold (.str (wt L w))) ∨ ((∀ w, ¬ M.Least x' y' w) ∧ d = dTold .none)) := by
      have sy : (∃ w, M.Least b a w ∧ d = dTold (.str (wt L w))) ∨ ((∀ w, ¬ M.Least b a w) ∧ d = dTold .none) := hD.imp (fun ⟨w, h, e⟩ => ⟨w, h.symm, e⟩) (fun ⟨h, e⟩ => ⟨fun w k => h w k.symm, e⟩)
      match i, hx with
      | 0, hx => exact ⟨t1, a, b, (Option.some.inj hx).symm, h1, ha, hb, hD⟩
      | 1, hx => exact ⟨t2, b, a, (Option.some.inj hx).symm, h2, hb, ha, sy⟩
      | 2, hx => exact ⟨t3, a, b, (Option.some.inj hx).symm, h3, ha, hb, hD⟩
    obtain ⟨t, x', y', rfl, ht, hx', hy', hD'⟩ := pick
    have e16 := e15.trans e6
    have m6 := hm.ext e16
    rw [← hMM] at hD'
    have htp := told_p (ss := ss) (es := es) hL hx' hy' hw hD'
    refine t_set ⟨_, rfl, _, rfl, _, rfl, t, _, _, nV x', rfl, rfl, e6.sqT _ _ ht, atI_nat (j := 0) rfl, _, rfl, t, _, _, nV y', rfl, rfl, e6.sqT _ _ ht, atI_nat (j := 1) rfl, ?_⟩
    refine ⟨1, .str L, nV x', nV y', m, s', e, rs, ss, es, "int", "int", d, rfl, e16.tab _ hT1, e16.tab _ hT2, hLv _, m6, by have := hw.most; omega, kn_nat x', kn_nat y', fun z ez => (by cases ez), .inr ⟨rfl, htp⟩, fun v H7 e7 hv => ?_⟩
    have e17 := e16.trans e7
    refine if_fall (cond := False) (fun R qT qF => ?_) (fun k => k.elim) (fun _ H8 e8 => ⟨_, _, rfl, e6.trans (e7.trans e8)⟩)
    refine ⟨_, rfl, _, rfl, d, dk9.1, dk9.2, hv, dp_ext (f.trans (e6.trans e7)) _ _ h9, _, rfl, iffF rfl ?_⟩
    refine ⟨_, rfl, _, rfl, mdata ss es, dkm.1, dkm.2, (hm.ext e17).dp, dp_ext ((e2.trans e3).trans (e4.trans (f.trans (e6.trans e7)))) _ _ hk7, _, rfl, ?_⟩
    exact qF (fun h => h) _ (Ext.refl _)
  · rintro σ' H6 ⟨o8, o10, rfl, e6⟩
    exact q _ (e15.trans e6)
end
end Bo
set_option Elab.async false
set_option linter.all false
set_option maxRecDepth 100000
set_option maxHeartbeats 8000000
namespace Bo
open PySem PySem.Spec PyProof.Rows L2 GE
/-- a thing that is no room of n rooms -/
def BadR (K : PySem.W.Frag) (n : Nat) (H : Hp) (v : V) : Prop := (∃ Ty, Kn K H v Ty) ∧ (∀ z, v = .str z → z.cps.size ≤ 500) ∧ goodR n v = false
theorem BadR.ext {K : PySem.W.Frag} {n : Nat} {H H' : Hp} {v : V} (e : Ext H H') (h : BadR K n H v) : BadR K n H' v := ⟨let ⟨Ty, k⟩ := h.1; ⟨Ty, kn_ext e k⟩, h.2⟩
/-- letters that are none -/
def BadV (K : PySem.W.Frag) (H : Hp) (v : V) : Prop := LV K H v ∧ goodV v = false
theorem BadV.ext {K : PySem.W.Frag} {H H' : Hp} {v : V} (e : Ext H H') (h : BadV K H v) : BadV K H' v := ⟨lv_ext e h.1, h.2⟩
theorem badr_int {K : PySem.W.Frag} {n : Nat} {H : Hp} {i : Int} (h : ¬ (0 ≤ i ∧ i < (n : Int))) : BadR K n H (.int i) := ⟨⟨"int", .base (.int _), by decide⟩, fun z e => (by cases e), decide_eq_false h⟩
theorem badr_no {K : PySem.W.Frag} {n : Nat} {H : Hp} {v : V} {T : String} (k : Kn K H v T) (h : ∀ z, v ≠ .int z) (g : ∀ z, v ≠ .str z) : BadR K n H v := ⟨⟨T, k⟩, fun z e => absurd e (g z), goodR_not h⟩
theorem word_inv {K : PySem.W.Frag} {H : Hp} {v : V} {x : Str} (h : Dp K H v (.list [.str x])) : ∃ a, v = .ref a ∧ SqL K H a [.str x] := by
  cases h with
  | lst hs ha =>
    cases ha with
    | cons h1 h2 =>
      cases h2
      cases h1
      exact ⟨_, rfl, hs⟩
theorem word_wr {K : PySem.W.Frag} {H : Hp} {v : V} {x : Str} {p : Addr} {o : L2.HO} {u : Addr} {us : List V} (h : Dp K H v (.list [.str x])) (hp : H p = some (.lst (.ref u :: us))) : Dp K (upd H p o) v (.list [.str x]) := by
  obtain ⟨a, rfl, h1⟩ := word_inv h
  refine .lst ?_ (.cons (.str _) .nil)
  rcases h1 with h1 | h1
  · have ne : a ≠ p := fun e => by
      subst e
      rcases h1 with h1 | ⟨o', h1⟩
      · have := h1.symm.trans hp; cases this
      · have := h1.symm.trans hp; cases this
    exact .inl (h1.imp (fun h => (upd_ne ne).trans h) fun ⟨o', h⟩ => ⟨o', (upd_ne ne).trans h⟩)
  · exact .inr h1
def spRf (K : PySem.W.Frag) (T1 T2 : Addr) : Sp := fun vs H Q _ => ∃ (L : Str) (m s e : Addr) (rs : List Addr) (ss : List (List Nat)) (es : List Bool) (r : Nat) (c : Int), vs = [.str L, .ref m, nV r, .int c] ∧ goodS L = true ∧ GxR.TabG H T1 ∧ GxR.TabG H T2 ∧ MacAt H m s e rs ss es ∧ Well (cds L).length ss es ∧ r < ss.length ∧ ∀ H', Ext H H' → Q (.bl true) H'
section
variable {P : Program} {w : World} {K : PySem.W.Frag} {mg : Str → Option Value} {base : Heap}
theorem scRf : FnScope ["_law_letters_here", "_law_machine_here", "_law_room", "_law_cell", "_law_many", "_law_wrong", "_law_told_here", "_law_none"] ["_law_letters_here", "_law_machine_here", "_law_room", "_law_cell"] (defScope sLawRefused) := ⟨rfl, rfl, rfl, by decide +kernel, rfl, by decide +kernel, by decide +kernel⟩
theorem rf_ok {f g g2 : Addr} {fd gd gd2 : FuncData} {T1 T2 : Addr} (F : FnP K "_law_refused" sLawRefused f fd) (G : FnOk P w K mg base CX0 5 g gd ["_law_way", "_law_letters_here", "_law_machine_here", "_law_room", "_law_thing"] (spTo K T1 T2)) (bG : Binds K gd ["_law_way", "_law_letters_here", "_law_machine_here", "_law_room", "_law_thing"] []) (kG : PySem.W.keepIn K (.ref g) = true) (mG : mg "_law_told" = some (.ref g))
    (G2 : FnOk P w K mg base CX0 1 g2 gd2 ["_law_letters_here", "_law_cell"] (spNo K)) (bG2 : Binds K gd2 ["_law_letters_here", "_law_cell"] []) (kG2 : PySem.W.keepIn K (.ref g2) = true) (mG2 : mg "_law_no_text" = some (.ref g2))
    (ml : mg "len" = none) : FnOk P w K mg base CX0 50 f fd ["_law_letters_here", "_law_machine_here", "_law_room", "_law_cell"] (spRf K T1 T2) := by
  refine okD F scRf (fun vs H Q E h => ?_) (fun cdv A outer s H vs Q E hr h => ?_)
  · obtain ⟨L, m, s, e, rs, ss, es, r, c, rfl, _⟩ := h
    rfl
  obtain ⟨L, m, s', e, rs, ss, es, r, c, rfl, hL, hT1, hT2, hm, hw, hrn, q⟩ := h
  have hu := Nat.lt_of_le_of_lt (Nat.add_le_add_left (show 700 ≤ 16 * 49 + 200 by decide) _) (Nat.lt_of_le_of_lt (Nat.le_of_eq (Nat.add_assoc _ (16 * 49) 200).symm) hr.un)
  have r5 : Room 5 _ := hr.mono (show 5 ≤ 49 by decide)
  have r1 : Room 1 _ := hr.mono (show 1 ≤ 49 by decide)
  refine ⟨_, (pss_cons (ps_set (i := 4) scRf.nd rfl (Or.inl rfl) (pe_callB call_len rfl ml PySem.boot_len (pa_cons (pe_ix ix_tup (pv 1) pe_int (fun _ _ => rfl)) pa_nil))) (pss_cons (ps_set (i := 5) scRf.nd rfl (Or.inl rfl) (pe_ix ix_list (pe_lst (pa_cons (pe_un un_neg pe_int) (pa_cons (pv 4) (pa_cons pe_bl (pa_cons pe_non (pa_cons pe_str (pa_cons (pe_lst (pa_cons pe_int pa_nil)) (pa_cons (pe_op op_add (pv 4) (pe_op op_pow pe_int pe_int)) (pa_cons pe_bl (pa_cons (pe_tup (pa_cons pe_int pa_nil)) pa_nil)))))))))) (pe_op op_mod (pv 3) pe_int) (fun _ _ => rfl))) (pss_cons (ps_set (i := 6) scRf.nd rfl (Or.inl rfl) (pe_lst (pa_cons (pe_call G r5 rfl mG kG bG .nil pass0 (pa_cons pe_int (pa_cons (pv 0) (pa_cons (pv 1) (pa_cons (pv 5) (pa_cons pe_non pa_nil)))))) pa_nil))) (pss_cons (ps_expr (pe_bm PySem.F.plainAttrs_list PySem.F.slot_list_append PySem.F.type_list_append mt_append (pv 6) (pa_cons (pe_call G r5 rfl mG kG bG .nil pass0 (pa_cons pe_int (pa_cons (pv 0) (pa_cons (pv 1) (pa_cons (pv 2) (pa_cons (pe_call G2 r1 rfl mG2 kG2 bG2 .nil pass0 (pa_cons (pv 0) (pa_cons (pe_op op_fdiv (pv 3) pe_int) pa_nil))) pa_nil)))))) pa_nil))) (pss_cons (ps_set (i := 6) scRf.nd rfl (Or.inl rfl) (pe_op op_cat (pv 6) (pe_lst (pa_cons (pe_call G r5 rfl mG kG bG .nil pass0 (pa_cons pe_int (pa_cons (pv 0) (pa_cons (pv 1) (pa_cons (pv 5) (pa_cons (pv 2) pa_nil)))))) (pa_cons (pe_call G r5 rfl mG kG bG .nil pass0 (pa_cons pe_int (pa_cons (pv 0) (pa_cons (pv 1) (pa_cons (pv 2) (pa_cons (pv 5) pa_nil)))))) pa_nil))))) (pss_cons (ps_set (i := 7) scRf.nd rfl (Or.inl rfl) (pe_ix ix_list (pe_lst (pa_cons pe_str (pa_cons pe_str (pa_cons pe_non (pa_cons pe_str (pa_cons pe_str pa_nil)))))) (pe_op op_mod (pe_op op_fdiv (pv 3) pe_int) pe_int) (fun _ _ => rfl))) (pss_cons (ps_set (i := 6) scRf.nd rfl (Or.inl rfl) (pe_op op_cat (pv 6) (pe_lst (pa_cons (pe_call G r5 rfl mG kG bG .nil pass0 (pa_cons pe_int (pa_cons (pv 7) (pa_cons (pv 1) (pa_cons (pv 5) (pa_cons pe_non pa_nil)))))) (pa_cons (pe_call G r5 rfl mG kG bG .nil pass0 (pa_cons pe_int (pa_cons (pv 7) (pa_cons (pv 1) (pa_cons (pv 5) (pa_cons (pv 5) pa_nil)))))) pa_nil))))) (pss_one (ps_ret (pe_cmpR (op_eqS hu) (pv 6) (pe_lst (pa_cons (pe_lst (pa_cons pe_str pa_nil)) (pa_cons (pe_lst (pa_cons pe_str pa_nil)) (pa_cons (pe_lst (pa_cons pe_str pa_nil)) (pa_cons (pe_lst (pa_cons pe_str pa_nil)) (pa_cons (pe_lst (pa_cons pe_str pa_nil)) (pa_cons (pe_lst (pa_cons pe_str pa_nil)) pa_nil))))))) (by rfl))))))))))), ?_⟩
  have l9 : ∀ n : Nat, n ≤ 1000 → n ≤ sizeLine := fun n h => Nat.le_trans h (by decide)
  have l9' : ∀ n : Nat, n ≤ 1000 → n < sizeLine := fun n h => Nat.lt_of_le_of_lt h (by decide)
  obtain ⟨hL1, hL4⟩ := good_len hL
  have hcl : (cds L).length = L.cps.size := Array.length_toList
  have hLv : ∀ H', LV K H' (.str L) := fun H' => lvs K H' (by show L.cps.size ≤ 100; omega)
  have hmost := hw.most
  have hends := hw.ends
  refine t_set ⟨_, rfl, m, _, _, .ref e, rfl, rfl, SqT.of hm.m, atI_nat (j := 1) rfl, .ref e, _, rfl, .inl ⟨_, SqL.of hm.e, rfl⟩, ?_⟩
  dsimp only
  -- the wrong thing
  rw [show (bVs es).length = ss.length from (List.length_map _).trans hends]
  refine seq_to (fun σ' H' => ∃ wv c4, σ' = [some (.str L), some (.ref m), some (nV r), some (.int c), c4, some wv, none, none] ∧ Ext H H' ∧ BadR K ss.length H' wv) (fun nx hnx => ?_) (fun σ' H1 hst => ?_)
  · refine ⟨_, rfl, _, rfl, l9 1 (by omega), fun p1 x1 => ⟨_, rfl, _, _, rfl, rfl, ⟨by decide, by decide, by decide⟩, _, _, rfl, rfl, l9 1 (by omega), fun p2 x2 => ⟨l9 9 (by omega), fun S xS => ?_⟩⟩⟩
    have fS := Ext.new (o := .lst [V.int (-1), V.int (ss.length : Nat), V.bl true, V.non, V.str "0", V.ref p1, V.int (((ss.length : Nat) : Int) + 10 ^ 9), V.bl false, V.ref p2]) xS
    have f := (Ext.new (o := .lst [V.int 0]) x1).trans ((Ext.new (o := .tup [V.int 0]) x2).trans fS)
    have h1 := ((Ext.new (o := .tup [V.int 0]) x2).trans fS).lst (show upd H p1 (.lst [V.int 0]) p1 = some (.lst [V.int 0]) from upd_same)
    have h2 := fS.tup (show upd (upd H p1 (.lst [V.int 0])) p2 (.tup [V.int 0]) p2 = some (.tup [V.int 0]) from upd_same)
    have hall : ∀ v ∈ [V.int (-1), V.int (ss.length : Nat), V.bl true, V.non, V.str "0", V.ref p1, V.int (((ss.length : Nat) : Int) + 10 ^ 9), V.bl false, V.ref p2], BadR K ss.length (upd (upd (upd H p1 (.lst [V.int 0])) p2 (.tup [V.int 0])) S (.lst [V.int (-1), V.int (ss.length : Nat), V.bl true, V.non, V.str "0", V.ref p1, V.int (((ss.length : Nat) : Int) + 10 ^ 9), V.bl false, V.ref p2])) v := fun v hin => by
      simp only [List.mem_cons, List.not_mem_nil, or_false] at hin
      rcases hin with rfl | rfl | rfl | rfl | rfl | rfl | rfl | rfl | rfl
      · exact badr_int (by omega)
      · exact badr_int (by omega)
      · exact badr_no (T := "bool") ⟨.base (.bl true), by decide⟩ (fun z h => by cases h) (fun z h => by cases h)
      · exact badr_no (T := "NoneType") ⟨.base .non, by decide⟩ (fun z h => by cases h) (fun z h => by cases h)
      · exact ⟨⟨_, Kn.ofStr _ _ _⟩, fun z e => by cases e; decide, rfl⟩
      · exact badr_no (kn_lstA h1) (fun z h => by cases h) (fun z h => by cases h)
      · exact badr_int (by omega)
      · exact badr_no (T := "bool") ⟨.base (.bl false), by decide⟩ (fun z h => by cases h) (fun z h => by cases h)
      · exact badr_no (kn_tupA h2) (fun z h => by cases h) (fun z h => by cases h)
    obtain ⟨k, hk, hkl⟩ := pickN c 9 (by omega)
    refine ⟨_, rfl, _, _, rfl, rfl, show (0 : Int) < 9 by decide, S, _, _, _, rfl, rfl, SqL.of upd_same, (show atI _ (c % 9) = _ by rw [show c % (9 : Int) = (k : Int) from hk]; exact atI_nat (List.getElem?_eq_getElem hkl)), hnx _ _ ⟨_, _, rfl, f, ?_⟩⟩
    exact hall _ (List.getElem_mem hkl)
  obtain ⟨wv, c4, rfl, e1, hwv⟩ := hst
  obtain ⟨⟨Tw, kw⟩, zw, gw⟩ := hwv
  have gL := gvT hL
  have n3 : ∀ {z : Str}, V.non = .str z → z.cps.size ≤ 500 := fun e => by cases e
  have nr : ∀ {z : Str}, nV r = .str z → z.cps.size ≤ 500 := fun e => by cases e
  have kn0 : ∀ H', Kn K H' .non "NoneType" := fun H' => ⟨.base .non, by decide⟩
  -- the first
  refine seq_to (fun σ' H' => ∃ p6 v1 Hm, σ' = [some (.str L), some (.ref m), some (nV r), some (.int c), c4, some wv, some (.ref p6), none] ∧ Ext H1 Hm ∧ Ext Hm H' ∧ Hm p6 = none ∧ H' p6 = some (.lst [v1]) ∧ Dp K Hm v1 dRoom) (fun nx hnx => ?_) (fun σ' H2 hst => ?_)
  · refine ⟨_, rfl, _, rfl, _, rfl, 0, .str L, wv, .non, m, s', e, rs, ss, es, Tw, "NoneType", dRoom, rfl, e1.tab _ hT1, e1.tab _ hT2, hLv _, hm.ext e1, hmost, kw, kn0 _, fun z => n3, .inl ⟨rfl, told_rroom gL gw⟩, fun v Hm em hv => ⟨l9 1 (by omega), fun p xp => hnx _ _ ⟨p, v, Hm, rfl, em, Ext.new xp, xp, upd_same, hv⟩⟩⟩
  obtain ⟨p6, v1, Hm, rfl, em, e2, x6, h6, hv1⟩ := hst
  have e02 := (e1.trans em).trans e2
  -- the second
  refine seq_to (fun σ' H' => ∃ v2, σ' = [some (.str L), some (.ref m), some (nV r), some (.int c), c4, some wv, some (.ref p6), none] ∧ Ext H1 H' ∧ H' p6 = some (.lst [v1, v2]) ∧ Dp K H' v1 dRoom ∧ Dp K H' v2 dText) (fun nx hnx => ?_) (fun σ' H3 hst => ?_)
  · refine ⟨_, rfl, .inl ⟨rfl, _, SqL.of h6⟩, _, rfl, _, rfl, _, rfl, _, rfl, _, rfl, _, _, rfl, rfl, ⟨by decide, by decide⟩, L, _, rfl, hL, fun t Ht et ht => ?_⟩
    obtain ⟨⟨Tt, kt⟩, zt, gt⟩ := ht
    have e0t := e02.trans et
    refine ⟨0, .str L, nV r, t, m, s', e, rs, ss, es, "int", Tt, dText, rfl, e0t.tab _ hT1, e0t.tab _ hT2, hLv _, hm.ext e0t, hmost, kn_nat r, kt, zt, .inl ⟨rfl, told_rtext hL (goodR_of hrn) gt⟩, fun v H4 e4 hv => ?_⟩
    have h64 := (et.trans e4).lst h6
    have ea := (et.trans e4)
    refine ⟨p6, _, _, rfl, rfl, h64, l9' 1 (by omega), hnx _ _ ⟨v, rfl, em.trans ((e2.trans ea).wr x6), upd_same, dp_ext ((e2.trans ea).wr x6) _ _ hv1, ?_⟩⟩
    obtain ⟨a1, rfl, _⟩ := word_inv hv1
    exact word_wr hv h64
  clear hv1 e2 em x6 h6 e02
  obtain ⟨v2, rfl, e3, h6, hv1, hv2⟩ := hst
  have e03 := e1.trans e3
  -- the third and the fourth
  refine seq_to (fun σ' H' => ∃ p v3 v4, σ' = [some (.str L), some (.ref m), some (nV r), some (.int c), c4, some wv, some (.ref p), none] ∧ Ext H3 H' ∧ H' p = some (.lst [v1, v2, v3, v4]) ∧ Dp K H' v3 dRoom ∧ Dp K H' v4 dRoom) (fun nx hnx => ?_) (fun σ' H4 hst => ?_)
  · refine ⟨_, rfl, _, rfl, _, rfl, _, rfl, _, rfl, 1, .str L, wv, nV r, m, s', e, rs, ss, es, Tw, "int", dRoom, rfl, e03.tab _ hT1, e03.tab _ hT2, hLv _, hm.ext e03, hmost, kn_ext e3 kw, kn_nat r, fun z => nr, .inr ⟨rfl, told_proom gL (.inl gw)⟩, fun v3 H4 e4 hv3 => ?_⟩
    have e04 := e03.trans e4
    refine ⟨_, rfl, _, rfl, _, rfl, _, rfl, 1, .str L, nV r, wv, m, s', e, rs, ss, es, "int", Tw, dRoom, rfl, e04.tab _ hT1, e04.tab _ hT2, hLv _, hm.ext e04, hmost, kn_nat r, kn_ext (e3.trans e4) kw, zw, .inr ⟨rfl, told_proom gL (.inr gw)⟩, fun v4 H5 e5 hv4 => ⟨l9 2 (by omega), fun pl xl => ?_⟩⟩
    have fl := Ext.new (o := .lst [v3, v4]) xl
    refine ⟨p6, pl, _, _, rfl, rfl, (e4.trans (e5.trans fl)).lst h6, upd_same, l9 4 (by omega), fun pn xn => hnx _ _ ⟨pn, v3, v4, rfl, e4.trans (e5.trans (fl.trans (Ext.new xn))), upd_same, dp_ext (e5.trans (fl.trans (Ext.new xn))) _ _ hv3, dp_ext (fl.trans (Ext.new xn)) _ _ hv4⟩⟩
  clear h6
  obtain ⟨p6, v3, v4, rfl, e4, h6, hv3, hv4⟩ := hst
  have e04 := e03.trans e4
  -- letters that are none
  refine seq_to (fun σ' H' => ∃ lv, σ' = [some (.str L), some (.ref m), some (nV r), some (.int c), c4, some wv, some (.ref p6), some lv] ∧ Ext H4 H' ∧ BadV K H' lv) (fun nx hnx => ?_) (fun σ' H5 hst => ?_)
  · refine ⟨l9 5 (by omega), fun S xS => ?_⟩
    have hall : ∀ v ∈ [V.str "", V.str "aa", V.non, V.str "abcde", V.str "a1"], BadV K (upd H4 S (.lst [V.str "", V.str "aa", V.non, V.str "abcde", V.str "a1"])) v := fun v hin => by
      simp only [List.mem_cons, List.not_mem_nil, or_false] at hin
      rcases hin with rfl | rfl | rfl | rfl | rfl
      · exact ⟨lvs K _ (by decide), by decide +kernel⟩
      · exact ⟨lvs K _ (by decide), by decide +kernel⟩
      · exact ⟨⟨⟨"NoneType", .base .non, by decide⟩, fun z h => by cases h⟩, rfl⟩
      · exact ⟨lvs K _ (by decide), by decide +kernel⟩
      · exact ⟨lvs K _ (by decide), by decide +kernel⟩
    obtain ⟨k, hk, hkl⟩ := pickN (c / 9) 5 (by omega)
    refine ⟨_, rfl, _, _, rfl, rfl, ⟨by decide, by decide⟩, _, _, rfl, rfl, show (0 : Int) < 5 by decide, S, _, _, _, rfl, rfl, SqL.of upd_same, (show atI _ (c / 9 % 5) = _ by rw [show c / 9 % (5 : Int) = (k : Int) from hk]; exact atI_nat (List.getElem?_eq_getElem hkl)), hnx _ _ ⟨_, rfl, Ext.new xS, ?_⟩⟩
    exact hall _ (List.getElem_mem hkl)
  obtain ⟨lv, rfl, e5, hlv, glv⟩ := hst
  have e05 := e04.trans e5
  have e15 := e3.trans (e4.trans e5)
  -- the fifth and the sixth
  refine seq_to (fun σ' H' => ∃ p v5 v6, σ' = [some (.str L), some (.ref m), some (nV r), some (.int c), c4, some wv, some (.ref p), some lv] ∧ Ext H5 H' ∧ H' p = some (.lst [v1, v2, v3, v4, v5, v6]) ∧ Dp K H' v5 dLetters ∧ Dp K H' v6 dLetters) (fun nx hnx => ?_) (fun σ' H6 hst => ?_)
  · refine ⟨_, rfl, _, rfl, _, rfl, _, rfl, 0, lv, wv, .non, m, s', e, rs, ss, es, Tw, "NoneType", dLetters, rfl, e05.tab _ hT1, e05.tab _ hT2, hlv, hm.ext e05, hmost, kn_ext e15 kw, kn0 _, fun z => n3, .inl ⟨rfl, told_rbad glv⟩, fun v5 H6 e6 hv5 => ?_⟩
    have e06 := e05.trans e6
    refine ⟨_, rfl, _, rfl, _, rfl, _, rfl, 1, lv, wv, wv, m, s', e, rs, ss, es, Tw, Tw, dLetters, rfl, e06.tab _ hT1, e06.tab _ hT2, lv_ext e6 hlv, hm.ext e06, hmost, kn_ext (e15.trans e6) kw, kn_ext (e15.trans e6) kw, zw, .inr ⟨rfl, told_pbad glv⟩, fun v6 H7 e7 hv6 => ⟨l9 2 (by omega), fun pl xl => ?_⟩⟩
    have fl := Ext.new (o := .lst [v5, v6]) xl
    refine ⟨p6, pl, _, _, rfl, rfl, (e5.trans (e6.trans (e7.trans fl))).lst h6, upd_same, l9 6 (by omega), fun pn xn => hnx _ _ ⟨pn, v5, v6, rfl, e6.trans (e7.trans (fl.trans (Ext.new xn))), upd_same, dp_ext (e7.trans (fl.trans (Ext.new xn))) _ _ hv5, dp_ext (fl.trans (Ext.new xn)) _ _ hv6⟩⟩
  have e45 := e4.trans e5
  clear h6
  obtain ⟨p6, v5, v6, rfl, e6, h6, hv5, hv6⟩ := hst
  -- all of them
  refine ⟨_, rfl, l9 1 (by omega), fun q1 x1 => ⟨l9 1 (by omega), fun q2 x2 => ⟨l9 1 (by omega), fun q3 x3 => ⟨l9 1 (by omega), fun q4 x4 => ⟨l9 1 (by omega), fun q5 x5 => ⟨l9 1 (by omega), fun q6 x6 => ⟨l9 6 (by omega), fun q7 x7 => ?_⟩⟩⟩⟩⟩⟩⟩
  have f7 := Ext.new (o := .lst [V.ref q1, .ref q2, .ref q3, .ref q4, .ref q5, .ref q6]) x7
  have f6 := (Ext.new (o := .lst [V.str "letters"]) x6).trans f7
  have f5 := (Ext.new (o := .lst [V.str "letters"]) x5).trans f6
  have f4 := (Ext.new (o := .lst [V.str "room"]) x4).trans f5
  have f3 := (Ext.new (o := .lst [V.str "room"]) x3).trans f4
  have f2 := (Ext.new (o := .lst [V.str "text"]) x2).trans f3
  have f1 := (Ext.new (o := .lst [V.str "room"]) x1).trans f2
  have g := e6.trans f1
  refine ⟨.list [dRoom, dText, dRoom, dRoom, dLetters, dLetters], by decide +kernel, by decide +kernel, .lst (SqL.of (f1.lst h6)) (.cons (dp_ext (e45.trans g) _ _ hv1) (.cons (dp_ext (e45.trans g) _ _ hv2) (.cons (dp_ext (e5.trans g) _ _ hv3) (.cons (dp_ext (e5.trans g) _ _ hv4) (.cons (dp_ext f1 _ _ hv5) (.cons (dp_ext f1 _ _ hv6) .nil)))))), .lst (SqL.of upd_same) (.cons (dp_word (f2.lst upd_same)) (.cons (dp_word (f3.lst upd_same)) (.cons (dp_word (f4.lst upd_same)) (.cons (dp_word (f5.lst upd_same)) (.cons (dp_word (f6.lst upd_same)) (.cons (dp_word (f7.lst upd_same)) .nil)))))), q _ (e05.trans g)⟩
end
end Bo
set_option Elab.async false
set_option linter.all false
set_option maxRecDepth 100000
set_option maxHeartbeats 8000000
namespace Bo
open PySem PySem.Spec PyProof.Rows L2 GE
def spLw (K : PySem.W.Frag) (T1 T2 : Addr) : Sp := fun vs H Q _ => ∃ (a : Addr) (ns : List Int), vs = [.ref a] ∧ SqL K H a (ns.map V.int) ∧ GxR.TabG H T1 ∧ GxR.TabG H T2 ∧ ∀ H', Q (.bl true) H'
theorem boot_abs' : bootBuiltins "abs" = some (.builtin "abs") := by decide +kernel
section
variable {P : Program} {w : World} {K : PySem.W.Frag} {mg : Str → Option Value} {base : Heap}
theorem scLw : FnScope ["_law_script", "_law_letters_here", "_law_machine_here", "_law_many", "_law_one", "_law_two", "_law_text_here"] ["_law_script"] (defScope sLaw) := ⟨rfl, rfl, rfl, by decide +kernel, rfl, by decide +kernel, by decide +kernel⟩
theorem law_ok {f gca glt gma gtt ggo glo grf : Addr} {fd dca dlt dma dtt dgo dlo drf : FuncData} {T1 T2 : Addr} (F : FnP K "law" sLaw f fd)
    (Gca : FnOk P w K mg base CX0 1 gca dca ["_law_script", "_law_k"] (spCA K)) (bca : Binds K dca ["_law_script", "_law_k"] []) (kca : PySem.W.keepIn K (.ref gca) = true) (mca : mg "_law_cell_at" = Option.some (.ref gca))
    (Glt : FnOk P w K mg base CX0 1 glt dlt ["_law_cell"] spLt) (blt : Binds K dlt ["_law_cell"] []) (klt : PySem.W.keepIn K (.ref glt) = true) (mlt : mg "_law_letters" = Option.some (.ref glt))
    (Gma : FnOk P w K mg base CX0 2 gma dma ["_law_letters_here", "_law_script"] (spMa K)) (bma : Binds K dma ["_law_letters_here", "_law_script"] []) (kma : PySem.W.keepIn K (.ref gma) = true) (mma : mg "_law_machine" = Option.some (.ref gma))
    (Gtt : FnOk P w K mg base CX0 1 gtt dtt ["_law_letters_here", "_law_cell", "_law_most"] spTt) (btt : Binds K dtt ["_law_letters_here", "_law_cell", "_law_most"] []) (ktt : PySem.W.keepIn K (.ref gtt) = true) (mtt : mg "_law_text" = Option.some (.ref gtt))
    (Ggo : FnOk P w K mg base CX0 50 ggo dgo ["_law_letters_here", "_law_machine_here", "_law_one", "_law_two", "_law_text_here"] (spGo K T1 T2)) (bgo : Binds K dgo ["_law_letters_here", "_law_machine_here", "_law_one", "_law_two", "_law_text_here"] []) (kgo : PySem.W.keepIn K (.ref ggo) = true) (mgo : mg "_law_good" = Option.some (.ref ggo))
    (Glo : FnOk P w K mg base CX0 50 glo dlo ["_law_letters_here", "_law_machine_here", "_law_room"] (spLo K T1 T2)) (blo : Binds K dlo ["_law_letters_here", "_law_machine_here", "_law_room"] []) (klo : PySem.W.keepIn K (.ref glo) = true) (mlo : mg "_law_longest" = Option.some (.ref glo))
    (Grf : FnOk P w K mg base CX0 50 grf drf ["_law_letters_here", "_law_machine_here", "_law_room", "_law_cell"] (spRf K T1 T2)) (brf : Binds K drf ["_law_letters_here", "_law_machine_here", "_law_room", "_law_cell"] []) (krf : PySem.W.keepIn K (.ref grf) = true) (mrf : mg "_law_refused" = Option.some (.ref grf))
    (ml : mg "len" = none) (mab : mg "abs" = none) : FnOk P w K mg base CX0 51 f fd ["_law_script"] (spLw K T1 T2) := by
  refine okD F scLw (fun vs H Q E h => ?_) (fun cdv A outer s H vs Q E hr h => ?_)
  · obtain ⟨a, ns, rfl, _⟩ := h
    rfl
  obtain ⟨a, ns, rfl, hS, hT1, hT2, q⟩ := h
  have r1 : Room 1 _ := hr.mono (show 1 ≤ 50 by decide)
  have r2 : Room 2 _ := hr.mono (show 2 ≤ 50 by decide)
  refine ⟨_, (pss_cons (ps_set (i := 1) scLw.nd rfl (Or.inl rfl) (pe_call Glt r1 rfl mlt klt blt .nil pass0 (pa_cons (pe_call Gca r1 rfl mca kca bca .nil pass0 (pa_cons (pv 0) (pa_cons pe_int pa_nil))) pa_nil))) (pss_cons (ps_set (i := 2) scLw.nd rfl (Or.inl rfl) (pe_call Gma r2 rfl mma kma bma .nil pass0 (pa_cons (pv 1) (pa_cons (pv 0) pa_nil)))) (pss_cons (ps_set (i := 3) scLw.nd rfl (Or.inl rfl) (pe_callB call_len rfl ml PySem.boot_len (pa_cons (pe_ix ix_tup (pv 2) pe_int (fun _ _ => rfl)) pa_nil))) (pss_cons (ps_set (i := 4) scLw.nd rfl (Or.inl rfl) (pe_op op_mod (pe_call Gca r1 rfl mca kca bca .nil pass0 (pa_cons (pv 0) (pa_cons pe_int pa_nil))) (pv 3))) (pss_cons (ps_set (i := 5) scLw.nd rfl (Or.inl rfl) (pe_op op_mod (pe_call Gca r1 rfl mca kca bca .nil pass0 (pa_cons (pv 0) (pa_cons pe_int pa_nil))) (pv 3))) (pss_cons (ps_if (pt_cmpR op_eq (pe_op op_mod (pe_call Gca r1 rfl mca kca bca .nil pass0 (pa_cons (pv 0) (pa_cons pe_int pa_nil))) pe_int) pe_int (nomark _)) (pss_one (ps_set (i := 5) scLw.nd rfl (Or.inl rfl) (pv 4))) pss_nil) (pss_cons (ps_set (i := 6) scLw.nd rfl (Or.inl rfl) (pe_call Gtt r1 rfl mtt ktt btt .nil pass0 (pa_cons (pv 1) (pa_cons (pe_call Gca r1 rfl mca kca bca .nil pass0 (pa_cons (pv 0) (pa_cons pe_int pa_nil))) (pa_cons pe_int pa_nil))))) (pss_cons (ps_if (pt_not (pt_val (pe_call Ggo hr rfl mgo kgo bgo .nil pass0 (pa_cons (pv 1) (pa_cons (pv 2) (pa_cons (pv 4) (pa_cons (pv 5) (pa_cons (pv 6) pa_nil)))))))) (pss_one (ps_ret pe_bl)) pss_nil) (pss_cons (ps_asg (pe_not (pe_ix ix_list (pe_ix ix_tup (pv 2) pe_int (fun _ _ => rfl)) (pv 5) (fun _ _ => rfl))) (pg_sub (pe_ix ix_tup (pv 2) pe_int (fun _ _ => rfl)) (pv 5) set_list)) (pss_cons (ps_asg (pe_op op_mod (pe_op op_fdiv (pe_call Gca r1 rfl mca kca bca .nil pass0 (pa_cons (pv 0) (pa_cons pe_int pa_nil))) pe_int) (pv 3)) (pg_sub (pe_ix ix_list (pe_ix ix_tup (pv 2) pe_int (fun _ _ => rfl)) (pv 4) (fun _ _ => rfl)) pe_int set_list)) (pss_cons (ps_if (PW.pt (pw_or (pt_not (pt_val (pe_call Ggo hr rfl mgo kgo bgo .nil pass0 (pa_cons (pv 1) (pa_cons (pv 2) (pa_cons (pv 4) (pa_cons (pv 5) (pa_cons (pv 6) pa_nil)))))))) (pw_or1 (pt_not (pt_val (pe_call Glo hr rfl mlo klo blo .nil pass0 (pa_cons (pv 1) (pa_cons (pv 2) (pa_cons (pv 5) pa_nil))))))))) (pss_one (ps_ret pe_bl)) pss_nil) (pss_one (ps_ret (pe_call Grf hr rfl mrf krf brf .nil pass0 (pa_cons (pv 1) (pa_cons (pv 2) (pa_cons (pv 4) (pa_cons (pe_op op_mod (pe_op op_mul (pe_callB call_abs rfl mab boot_abs' (pa_cons (pe_call Gca r1 rfl mca kca bca .nil pass0 (pa_cons (pv 0) (pa_cons pe_int pa_nil))) pa_nil)) pe_int) pe_int) pa_nil)))))))))))))))))), ?_⟩
  have sq : ∀ H', Ext H H' → SqL K H' a (ns.map V.int) := fun H' e => e.sqL hS
  refine t_set ⟨_, rfl, a, ns, 0, rfl, hS, _, rfl, fun H1 e1 => ?_⟩
  have hL := lets_good (ns.getD 0 0)
  generalize lets (ns.getD 0 0) = L at hL ⊢
  obtain ⟨hL1, hL4⟩ := good_len hL
  have hcl : (cds L).length = L.cps.size := Array.length_toList
  have hl0 : 0 < (cds L).length := by omega
  refine t_set ⟨_, rfl, _, rfl, L, a, ns, rfl, hL, sq _ e1, fun m s' e rs ss es H2 e2 hm mn hw hlen => ?_⟩
  have e02 := e1.trans e2
  have hends := hw.ends
  have hone := hw.one
  refine t_set ⟨_, rfl, m, _, _, .ref e, rfl, rfl, SqT.of hm, atI_nat (j := 1) rfl, .ref e, _, rfl, .inl ⟨_, SqL.of mn.fe, rfl⟩, ?_⟩
  rw [show (bVs es).length = ss.length from (List.length_map _).trans hends]
  have hpos : (0 : Int) < ((ss.length : Nat) : Int) := by omega
  refine seq_to (fun σ' H' => ∃ o : Nat, o < ss.length ∧ σ' = [some (.ref a), some (.str L), some (.ref m), some (nV ss.length), some (nV o), none, none] ∧ H2 = H') (fun nx hnx => ?_) (fun σ' H' hst => ?_)
  · obtain ⟨o, ho, hol⟩ := pickN (ns.getD 2 0) ss.length hone
    refine ⟨_, rfl, a, ns, 2, rfl, sq _ e02, _, rfl, _, _, rfl, rfl, hpos, hnx _ _ ⟨o, hol, ?_, rfl⟩⟩
    show [some (.ref a), some (.str L), some (.ref m), some (nV ss.length), some (.int (ns.getD 2 0 % (ss.length : Int))), none, none] = _
    rw [ho]
  obtain ⟨o, ho, rfl, rfl⟩ := hst
  refine seq_to (fun σ' H' => ∃ t : Nat, t < ss.length ∧ σ' = [some (.ref a), some (.str L), some (.ref m), some (nV ss.length), some (nV o), some (nV t), none] ∧ H2 = H') (fun nx hnx => ?_) (fun σ' H' hst => ?_)
  · obtain ⟨t, ht, htl⟩ := pickN (ns.getD 3 0) ss.length hone
    refine ⟨_, rfl, a, ns, 3, rfl, sq _ e02, _, rfl, _, _, rfl, rfl, hpos, hnx _ _ ⟨t, htl, ?_, rfl⟩⟩
    show [some (.ref a), some (.str L), some (.ref m), some (nV ss.length), some (nV o), some (.int (ns.getD 3 0 % (ss.length : Int))), none] = _
    rw [ht]
  obtain ⟨t, ht, rfl, rfl⟩ := hst
  generalize hcell : ns.getD 4 0 = cell
  refine seq_to (fun σ' H' => ∃ t : Nat, t < ss.length ∧ σ' = [some (.ref a), some (.str L), some (.ref m), some (nV ss.length), some (nV o), some (nV t), none] ∧ H2 = H') (fun nx hnx => ?_) (fun σ' H' hst => ?_)
  · refine ⟨_, rfl, a, ns, 4, rfl, sq _ e02, _, _, rfl, rfl, show (0 : Int) < 4 by decide, rfl, _, rfl, ?_⟩
    rw [dec_int]
    cases (ns.getD 4 0 % 4 == 1) with
    | true => exact iffT rfl ⟨_, rfl, hnx _ _ ⟨o, ho, rfl, rfl⟩⟩
    | false => exact iffF rfl (hnx _ _ ⟨t, ht, rfl, rfl⟩)
  clear ht t
  obtain ⟨t, ht, rfl, rfl⟩ := hst
  refine t_set ⟨_, rfl, _, rfl, a, ns, 5, rfl, sq _ e02, L, _, 12, rfl, hL, by omega, fun w H3 hwl hwk e3 => ?_⟩
  have e13 := e2.trans e3
  have hT13 := (e1.trans e13).tab _ hT1
  have mn3 := mn.keep e3
  have hm3 := e3.tup hm
  refine seq_fall (cond := False) (fun R qT qF => ?_) (fun k => k.elim) (fun _ H4 e4 => ?_)
  · refine ⟨_, rfl, _, rfl, _, rfl, _, rfl, _, rfl, L, m, s', e, rs, ss, es, o, t, w, rfl, hL, (e1.trans e13).tab _ hT1, (e1.trans e13).tab _ hT2, ⟨hm3, mn3.fs, mn3.fe, mn3.len, mn3.row⟩, hw, by omega, ho, ht, hwk, by omega, fun H4 e4 => ?_⟩
    exact ⟨true, rfl, qF (fun h => h) _ e4⟩
  have e14 := e13.trans e4
  have mn4 := mn3.keep e4
  have hm4 := e4.tup hm3
  -- the mark of the one is turned
  refine seq_to (fun σ' H' => ∃ es', σ' = [some (.ref a), some (.str L), some (.ref m), some (nV ss.length), some (nV o), some (nV t), some (.str (wt L w))] ∧ Ext H1 H' ∧ H' m = some (.tup [.ref s', .ref e]) ∧ MacN H1 H' s' e rs ss es' ∧ Well (cds L).length ss es') (fun nx hnx => ?_) (fun σ' H5 hst => ?_)
  · refine ⟨_, rfl, m, _, _, .ref e, rfl, rfl, SqT.of hm4, atI_nat (j := 1) rfl, _, rfl, e, _, _, _, rfl, rfl, SqL.of mn4.fe, atI_nat (hw.end_ ht), _, rfl, _, rfl, m, _, _, .ref e, rfl, rfl, SqT.of hm4, atI_nat (j := 1) rfl, _, rfl, e, _, _, t, rfl, rfl, mn4.fe, ix_nat (by rw [show (bVs es).length = ss.length from (List.length_map _).trans hends]; exact ht), ?_⟩
    have me : m ≠ e := fun k => by have := mn4.fe; rw [← k, hm4] at this; cases this
    show nx _ (upd H4 e (.lst ((bVs es).set t (.bl (!(macOf (cds L).length ss es).e t)))))
    rw [show (bVs es).set t (.bl (!(macOf (cds L).length ss es).e t)) = bVs (es.set t (!(macOf (cds L).length ss es).e t)) from List.map_set.symm]
    exact hnx _ _ ⟨_, rfl, e14.wr mn.ne, by rw [upd_ne me]; exact hm4, mn4.setEnds _, ⟨by rw [List.length_set]; exact hends, hone, hw.most, hw.row⟩⟩
  clear mn4 hm4 hm3 mn3 e14 e4
  obtain ⟨es', rfl, e15, hm5, mn5, hw5⟩ := hst
  -- a step of the other
  refine seq_to (fun σ' H' => ∃ ss', ss'.length = ss.length ∧ σ' = [some (.ref a), some (.str L), some (.ref m), some (nV ss.length), some (nV o), some (nV t), some (.str (wt L w))] ∧ Ext H1 H' ∧ H' m = some (.tup [.ref s', .ref e]) ∧ MacN H1 H' s' e rs ss' es' ∧ Well (cds L).length ss' es') (fun nx hnx => ?_) (fun σ' H6 hst => ?_)
  · obtain ⟨j, hj, hjl⟩ := pickN (ns.getD 4 0 / 4) ss.length hone
    obtain ⟨row, r1', r2', r3', r4'⟩ := hw5.get ho
    have hra : o < rs.length := by rw [mn5.len]; exact ho
    obtain ⟨row', r5, r6⟩ := mn5.row _ _ (List.getElem?_eq_getElem hra)
    cases (r1'.symm.trans r5)
    refine ⟨_, rfl, a, ns, 4, rfl, sq _ (e1.trans e15), _, _, rfl, rfl, ⟨by decide, by decide⟩, _, rfl, _, _, rfl, rfl, hpos, _, rfl, m, _, _, .ref s', rfl, rfl, SqT.of hm5, atI_nat (j := 0) rfl, _, rfl, s', _, _, _, rfl, rfl, SqL.of mn5.fs, atI_nat (by rw [List.getElem?_map, List.getElem?_eq_getElem hra]; rfl), rs[o], _, _, 0, rfl, rfl, r6, ix_nat (i := 0) (by rw [nVs_len, r2']; exact hl0), ?_⟩
    have mr : m ≠ rs[o] := fun k => by rw [← k, hm5] at r6; cases r6
    show nx _ (upd H5 rs[o] (.lst ((nVs row).set 0 (.int (ns.getD 4 0 / 4 % ((ss.length : Nat) : Int))))))
    rw [show V.int (ns.getD 4 0 / 4 % ((ss.length : Nat) : Int)) = nV j from congrArg V.int hj, nVs_set]
    refine hnx _ _ ⟨ss.set o (row.set 0 j), List.length_set, rfl, e15.wr (mn5.nr _ (List.getElem_mem hra)), by rw [upd_ne mr]; exact hm5, mn5.setStep (row := row) (List.getElem?_eq_getElem hra) _, ⟨by rw [List.length_set]; exact hw5.ends, by rw [List.length_set]; exact hone, by rw [List.length_set]; exact hw.most, fun rw_ hrw => ?_⟩⟩
    rw [List.length_set]
    rcases List.mem_or_eq_of_mem_set hrw with hrw | rfl
    · exact hw5.row _ hrw
    · refine ⟨by rw [List.length_set]; exact r2', fun x hx => ?_⟩
      rcases List.mem_or_eq_of_mem_set hx with hx | rfl
      · exact r3' x hx
      · exact hjl
  clear mn5 hm5 hw5 e15
  obtain ⟨ss', hss, rfl, e16, hm6, mn6, hw6⟩ := hst
  have ma6 : MacAt H6 m s' e rs ss' es' := ⟨hm6, mn6.fs, mn6.fe, mn6.len, mn6.row⟩
  have e06 := e1.trans e16
  refine seq_fall (cond := False) (fun R qT qF => ?_) (fun k => k.elim) (fun _ H7 e7 => ?_)
  · refine ⟨_, rfl, _, rfl, _, rfl, _, rfl, _, rfl, L, m, s', e, rs, ss', es', o, t, w, rfl, hL, e06.tab _ hT1, e06.tab _ hT2, ma6, hw6, by omega, by omega, by omega, hwk, by omega, fun H7 e7 => ⟨true, rfl, iffF rfl ⟨_, rfl, _, rfl, _, rfl, L, m, s', e, rs, ss', es', t, rfl, hL, (e06.trans e7).tab _ hT1, (e06.trans e7).tab _ hT2, ma6.ext e7, hw6, by omega, fun H8 e8 => ⟨true, rfl, qF (fun h => h) _ (e7.trans e8)⟩⟩⟩⟩
  have e07 := e06.trans e7
  refine ⟨_, rfl, _, rfl, _, rfl, _, rfl, a, ns, 4, rfl, sq _ e07, _, rfl, _, _, rfl, rfl, .inr ⟨by decide, by decide⟩, _, _, rfl, rfl, show (0 : Int) < 1000003 by decide, L, m, s', e, rs, ss', es', o, _, rfl, hL, e07.tab _ hT1, e07.tab _ hT2, ma6.ext e7, hw6, by omega, fun H8 _ => q _⟩
end
end Bo
set_option Elab.async false
set_option linter.all false
set_option maxRecDepth 100000
set_option maxHeartbeats 0
namespace Bo
open PySem PySem.Spec PyProof.Rows L2 GE GH
theorem code_is {K : PySem.W.Frag} {x : Str} {st : Stmt} {fd : FuncData} (F : FnP K x st (He.ga K x) fd) : fd.code = .ref (He.codeOf K (x, none)) := by
  obtain ⟨oc, od, dV, kV, doc, pm, an, cdv, ct, osl, e, lk, hcd, _, _⟩ := F.ex
  obtain ⟨c, hc⟩ := He.codeIn_ref hcd
  subst e
  subst hc
  exact congrArg Value.ref (He.codeOf_eq (p := (x, none)) lk rfl).symm
theorem ex_at {K : PySem.W.Frag} (h : ex K = true) (i : Nat) {b : Bool} (e : (exT K)[i]? = some b) : b = true := by
  unfold ex at h
  rw [Bool.and_eq_true] at h
  exact List.all_eq_true.mp h.1 b (List.mem_of_getElem? e)
theorem ex_err {K : PySem.W.Frag} (h : ex K = true) : Err K (fun i => He.ga K (cn i)) := by
  unfold ex at h
  rw [Bool.and_eq_true] at h
  have h := h.2
  unfold exE at h
  simp only [Bool.and_eq_true, List.all_eq_true, decide_eq_true_eq] at h
  obtain ⟨⟨h1, h2⟩, h3⟩ := h
  refine ⟨fun i hi => ?_, fun i j hi hj => h2 i (List.mem_range.mpr hi) j (List.mem_range.mpr hj), fun i hi => h3 i (List.mem_range.mpr hi)⟩
  have h9 := h1 i (List.mem_range.mpr hi)
  unfold excB at h9
  simp only [Bool.and_eq_true, decide_eq_true_eq] at h9
  obtain ⟨⟨⟨⟨⟨⟨⟨a1, a2⟩, a3⟩, a4⟩, a5⟩, a6⟩, a7⟩, a8⟩ := h9
  exact ⟨a1, a2, a3, a4, a5, a6, a7, a8⟩
section
variable {P : Program} {w : World} {K : PySem.W.Frag} {mg : Str → Option Value} {base : Heap}
theorem facts {h : Heap} {f : Addr} (X : K.In h) (G : h.Ns mainGlobals mg) (hfa : mg ("law" : Str) = some (.ref f)) (c : He.SaysX fa fn ts tf ex w h K) :
    ∃ fd : FuncData, (∀ (s : Shared) (v : Value), BindsTo s fd ⟨[v], []⟩ [("_law_script", v)]) ∧ ∀ base : Heap, K.In base → base.Ns mainGlobals mg → (∀ p ∈ tf.map (He.cT K), LamX.TabB base mg p.1 p.2) →
      FnOk P w K mg base CX0 51 f fd ["_law_script"] (spLw K (He.cT K ("need_letters", none)).2 (He.cT K ("need_text", none)).2) := by
  obtain ⟨DNeedLetters, FNeedLetters⟩ := c.t.d.def_ 0 (d := dNeedLetters) rfl
  have mNeedLetters : mg "need_letters" = some (.ref (He.ga K "need_letters")) := He.glo_ok X G (c.t.d.fact 0 (f := .glo "need_letters") rfl)
  have FNeedLetters' : FnP K "need_letters" sNeedLetters (He.ga K "need_letters") DNeedLetters := FNeedLetters
  have bNeedLetters : Binds K DNeedLetters ["letters"] [] := FNeedLetters'.bindsN fun _ _ _ _ _ _ us hl => match us, hl with | [_], _ => rfl
  obtain ⟨DNeedText, FNeedText⟩ := c.t.d.def_ 1 (d := dNeedText) rfl
  have mNeedText : mg "need_text" = some (.ref (He.ga K "need_text")) := He.glo_ok X G (c.t.d.fact 1 (f := .glo "need_text") rfl)
  have FNeedText' : FnP K "need_text" sNeedText (He.ga K "need_text") DNeedText := FNeedText
  have bNeedText : Binds K DNeedText ["letters", "text"] [] := FNeedText'.bindsN fun _ _ _ _ _ _ us hl => match us, hl with | [_, _], _ => rfl
  obtain ⟨DTextAlong, FTextAlong⟩ := c.t.d.def_ 2 (d := dTextAlong) rfl
  have mTextAlong : mg "text_along" = some (.ref (He.ga K "text_along")) := He.glo_ok X G (c.t.d.fact 2 (f := .glo "text_along") rfl)
  have FTextAlong' : FnP K "text_along" sTextAlong (He.ga K "text_along") DTextAlong := FTextAlong
  have bTextAlong : Binds K DTextAlong ["trail", "at"] [] := FTextAlong'.bindsN fun _ _ _ _ _ _ us hl => match us, hl with | [_, _], _ => rfl
  obtain ⟨DRoomOf, FRoomOf⟩ := c.t.d.def_ 3 (d := dRoomOf) rfl
  have mRoomOf : mg "room_of" = some (.ref (He.ga K "room_of")) := He.glo_ok X G (c.t.d.fact 3 (f := .glo "room_of") rfl)
  have FRoomOf' : FnP K "room_of" sRoomOf (He.ga K "room_of") DRoomOf := FRoomOf
  have bRoomOf : Binds K DRoomOf ["letters", "machine", "room", "text"] [] := FRoomOf'.bindsN fun _ _ _ _ _ _ us hl => match us, hl with | [_, _, _, _], _ => rfl
  obtain ⟨DParting, FParting⟩ := c.t.d.def_ 4 (d := dParting) rfl
  have mParting : mg "parting" = some (.ref (He.ga K "parting")) := He.glo_ok X G (c.t.d.fact 4 (f := .glo "parting") rfl)
  have FParting' : FnP K "parting" sParting (He.ga K "parting") DParting := FParting
  have bParting : Binds K DParting ["letters", "machine", "room", "other"] [] := FParting'.bindsN fun _ _ _ _ _ _ us hl => match us, hl with | [_, _, _, _], _ => rfl
  obtain ⟨DNeedRoom, FNeedRoom⟩ := c.t.d.def_ 5 (d := dNeedRoom) rfl
  have mNeedRoom : mg "need_room" = some (.ref (He.ga K "need_room")) := He.glo_ok X G (c.t.d.fact 5 (f := .glo "need_room") rfl)
  have FNeedRoom' : FnP K "need_room" sNeedRoom (He.ga K "need_room") DNeedRoom := FNeedRoom
  have bNeedRoom : Binds K DNeedRoom ["machine", "thing"] [] := FNeedRoom'.bindsN fun _ _ _ _ _ _ us hl => match us, hl with | [_, _], _ => rfl
  obtain ⟨DLawCellAt, FLawCellAt⟩ := c.t.d.def_ 6 (d := dLawCellAt) rfl
  have mLawCellAt : mg "_law_cell_at" = some (.ref (He.ga K "_law_cell_at")) := He.glo_ok X G (c.t.d.fact 6 (f := .glo "_law_cell_at") rfl)
  have FLawCellAt' : FnP K "_law_cell_at" sLawCellAt (He.ga K "_law_cell_at") DLawCellAt := FLawCellAt
  have bLawCellAt : Binds K DLawCellAt ["_law_script", "_law_k"] [] := FLawCellAt'.bindsN fun _ _ _ _ _ _ us hl => match us, hl with | [_, _], _ => rfl
  obtain ⟨DLawLetters, FLawLetters⟩ := c.t.d.def_ 7 (d := dLawLetters) rfl
  have mLawLetters : mg "_law_letters" = some (.ref (He.ga K "_law_letters")) := He.glo_ok X G (c.t.d.fact 7 (f := .glo "_law_letters") rfl)
  have FLawLetters' : FnP K "_law_letters" sLawLetters (He.ga K "_law_letters") DLawLetters := FLawLetters
  have bLawLetters : Binds K DLawLetters ["_law_cell"] [] := FLawLetters'.bindsN fun _ _ _ _ _ _ us hl => match us, hl with | [_], _ => rfl
  obtain ⟨DLawText, FLawText⟩ := c.t.d.def_ 8 (d := dLawText) rfl
  have mLawText : mg "_law_text" = some (.ref (He.ga K "_law_text")) := He.glo_ok X G (c.t.d.fact 8 (f := .glo "_law_text") rfl)
  have FLawText' : FnP K "_law_text" sLawText (He.ga K "_law_text") DLawText := FLawText
  have bLawText : Binds K DLawText ["_law_letters_here", "_law_cell", "_law_most"] [] := FLawText'.bindsN fun _ _ _ _ _ _ us hl => match us, hl with | [_, _, _], _ => rfl
  obtain ⟨DLawKind, FLawKind⟩ := c.t.d.def_ 9 (d := dLawKind) rfl
  have mLawKind : mg "_law_kind" = some (.ref (He.ga K "_law_kind")) := He.glo_ok X G (c.t.d.fact 9 (f := .glo "_law_kind") rfl)
  have FLawKind' : FnP K "_law_kind" sLawKind (He.ga K "_law_kind") DLawKind := FLawKind
  have bLawKind : Binds K DLawKind ["_law_error"] [] := FLawKind'.bindsN fun _ _ _ _ _ _ us hl => match us, hl with | [_], _ => rfl
  obtain ⟨DLawMachine, FLawMachine⟩ := c.t.d.def_ 10 (d := dLawMachine) rfl
  have mLawMachine : mg "_law_machine" = some (.ref (He.ga K "_law_machine")) := He.glo_ok X G (c.t.d.fact 10 (f := .glo "_law_machine") rfl)
  have FLawMachine' : FnP K "_law_machine" sLawMachine (He.ga K "_law_machine") DLawMachine := FLawMachine
  have bLawMachine : Binds K DLawMachine ["_law_letters_here", "_law_script"] [] := FLawMachine'.bindsN fun _ _ _ _ _ _ us hl => match us, hl with | [_, _], _ => rfl
  obtain ⟨DLawFar, FLawFar⟩ := c.t.d.def_ 11 (d := dLawFar) rfl
  have mLawFar : mg "_law_far" = some (.ref (He.ga K "_law_far")) := He.glo_ok X G (c.t.d.fact 11 (f := .glo "_law_far") rfl)
  have FLawFar' : FnP K "_law_far" sLawFar (He.ga K "_law_far") DLawFar := FLawFar
  have bLawFar : Binds K DLawFar ["_law_steps", "_law_ends"] [] := FLawFar'.bindsN fun _ _ _ _ _ _ us hl => match us, hl with | [_, _], _ => rfl
  obtain ⟨DLawDue, FLawDue⟩ := c.t.d.def_ 12 (d := dLawDue) rfl
  have mLawDue : mg "_law_due" = some (.ref (He.ga K "_law_due")) := He.glo_ok X G (c.t.d.fact 12 (f := .glo "_law_due") rfl)
  have FLawDue' : FnP K "_law_due" sLawDue (He.ga K "_law_due") DLawDue := FLawDue
  have bLawDue : Binds K DLawDue ["_law_letters_here", "_law_machine_here", "_law_one", "_law_two"] [] := FLawDue'.bindsN fun _ _ _ _ _ _ us hl => match us, hl with | [_, _, _, _], _ => rfl
  obtain ⟨DLawTold, FLawTold⟩ := c.t.d.def_ 13 (d := dLawTold) rfl
  have mLawTold : mg "_law_told" = some (.ref (He.ga K "_law_told")) := He.glo_ok X G (c.t.d.fact 13 (f := .glo "_law_told") rfl)
  have FLawTold' : FnP K "_law_told" sLawTold (He.ga K "_law_told") DLawTold := FLawTold
  have bLawTold : Binds K DLawTold ["_law_way", "_law_letters_here", "_law_machine_here", "_law_room", "_law_thing"] [] := FLawTold'.bindsN fun _ _ _ _ _ _ us hl => match us, hl with | [_, _, _, _, _], _ => rfl
  obtain ⟨DLawNoText, FLawNoText⟩ := c.t.d.def_ 14 (d := dLawNoText) rfl
  have mLawNoText : mg "_law_no_text" = some (.ref (He.ga K "_law_no_text")) := He.glo_ok X G (c.t.d.fact 14 (f := .glo "_law_no_text") rfl)
  have FLawNoText' : FnP K "_law_no_text" sLawNoText (He.ga K "_law_no_text") DLawNoText := FLawNoText
  have bLawNoText : Binds K DLawNoText ["_law_letters_here", "_law_cell"] [] := FLawNoText'.bindsN fun _ _ _ _ _ _ us hl => match us, hl with | [_, _], _ => rfl
  obtain ⟨DLawLongest, FLawLongest⟩ := c.t.d.def_ 15 (d := dLawLongest) rfl
  have mLawLongest : mg "_law_longest" = some (.ref (He.ga K "_law_longest")) := He.glo_ok X G (c.t.d.fact 15 (f := .glo "_law_longest") rfl)
  have FLawLongest' : FnP K "_law_longest" sLawLongest (He.ga K "_law_longest") DLawLongest := FLawLongest
  have bLawLongest : Binds K DLawLongest ["_law_letters_here", "_law_machine_here", "_law_room"] [] := FLawLongest'.bindsN fun _ _ _ _ _ _ us hl => match us, hl with | [_, _, _], _ => rfl
  obtain ⟨DLawRefused, FLawRefused⟩ := c.t.d.def_ 16 (d := dLawRefused) rfl
  have mLawRefused : mg "_law_refused" = some (.ref (He.ga K "_law_refused")) := He.glo_ok X G (c.t.d.fact 16 (f := .glo "_law_refused") rfl)
  have FLawRefused' : FnP K "_law_refused" sLawRefused (He.ga K "_law_refused") DLawRefused := FLawRefused
  have bLawRefused : Binds K DLawRefused ["_law_letters_here", "_law_machine_here", "_law_room", "_law_cell"] [] := FLawRefused'.bindsN fun _ _ _ _ _ _ us hl => match us, hl with | [_, _, _, _], _ => rfl
  obtain ⟨DLawGood, FLawGood⟩ := c.t.d.def_ 17 (d := dLawGood) rfl
  have mLawGood : mg "_law_good" = some (.ref (He.ga K "_law_good")) := He.glo_ok X G (c.t.d.fact 17 (f := .glo "_law_good") rfl)
  have FLawGood' : FnP K "_law_good" sLawGood (He.ga K "_law_good") DLawGood := FLawGood
  have bLawGood : Binds K DLawGood ["_law_letters_here", "_law_machine_here", "_law_one", "_law_two", "_law_text_here"] [] := FLawGood'.bindsN fun _ _ _ _ _ _ us hl => match us, hl with | [_, _, _, _, _], _ => rfl
  obtain ⟨DLaw, FLaw⟩ := c.t.d.def_ 18 (d := dLaw) rfl
  have mLaw : mg "law" = some (.ref (He.ga K "law")) := He.glo_ok X G (c.t.d.fact 18 (f := .glo "law") rfl)
  have FLaw' : FnP K "law" sLaw (He.ga K "law") DLaw := FLaw
  have bLaw : Binds K DLaw ["_law_script"] [] := FLaw'.bindsN fun _ _ _ _ _ _ us hl => match us, hl with | [_], _ => rfl
  obtain ⟨DMeetingInit, FMeetingInit⟩ := c.t.d.def_ 19 (d := dMeetingInit) rfl
  have mMeetingInit := He.meth_ok (c.t.d.fact 23 (f := .meth "Meeting" "__init__") rfl)
  have FMeetingInit' : MtP K "__init__" "Meeting.__init__" sMeetingInit (He.ma K (He.ga K "Meeting") "__init__") DMeetingInit := FMeetingInit
  have bMeetingInit : Binds K DMeetingInit ["self", "many"] [] := FMeetingInit'.bindsN fun _ _ _ _ _ _ us hl => match us, hl with | [_, _], _ => rfl
  obtain ⟨DMeetingFirstOf, FMeetingFirstOf⟩ := c.t.d.def_ 20 (d := dMeetingFirstOf) rfl
  have mMeetingFirstOf := He.meth_ok (c.t.d.fact 24 (f := .meth "Meeting" "first_of") rfl)
  have FMeetingFirstOf' : MtP K "first_of" "Meeting.first_of" sMeetingFirstOf (He.ma K (He.ga K "Meeting") "first_of") DMeetingFirstOf := FMeetingFirstOf
  have bMeetingFirstOf : Binds K DMeetingFirstOf ["self", "room"] [] := FMeetingFirstOf'.bindsN fun _ _ _ _ _ _ us hl => match us, hl with | [_, _], _ => rfl
  obtain ⟨DMeetingJoinRooms, FMeetingJoinRooms⟩ := c.t.d.def_ 21 (d := dMeetingJoinRooms) rfl
  have mMeetingJoinRooms := He.meth_ok (c.t.d.fact 25 (f := .meth "Meeting" "join_rooms") rfl)
  have FMeetingJoinRooms' : MtP K "join_rooms" "Meeting.join_rooms" sMeetingJoinRooms (He.ma K (He.ga K "Meeting") "join_rooms") DMeetingJoinRooms := FMeetingJoinRooms
  have bMeetingJoinRooms : Binds K DMeetingJoinRooms ["self", "room", "other"] [] := FMeetingJoinRooms'.bindsN fun _ _ _ _ _ _ us hl => match us, hl with | [_, _, _], _ => rfl
  have h_Meeting : mg "Meeting" = some (.ref (He.ga K "Meeting")) := He.glo_ok X G (c.t.d.fact 19 (f := .glo "Meeting") rfl)
  have c_Meeting := He.cls_ok (c.t.d.fact 20 (f := .cls "Meeting") rfl)
  have k_Meeting := He.mkr_ok (c.t.d.fact 21 (f := .mkr "Meeting") rfl)
  have o_Meeting_ahead := He.noat_ok (c.t.d.fact 22 (f := .noat "Meeting" "ahead") rfl)
  have h_PatternError : mg "PatternError" = some (.ref (He.ga K "PatternError")) := He.glo_ok X G (c.t.d.fact 26 (f := .glo "PatternError") rfl)
  have h_NoLetters : mg "NoLetters" = some (.ref (He.ga K "NoLetters")) := He.glo_ok X G (c.t.d.fact 27 (f := .glo "NoLetters") rfl)
  have h_NoPattern : mg "NoPattern" = some (.ref (He.ga K "NoPattern")) := He.glo_ok X G (c.t.d.fact 28 (f := .glo "NoPattern") rfl)
  have h_TooGreat : mg "TooGreat" = some (.ref (He.ga K "TooGreat")) := He.glo_ok X G (c.t.d.fact 29 (f := .glo "TooGreat") rfl)
  have h_NoText : mg "NoText" = some (.ref (He.ga K "NoText")) := He.glo_ok X G (c.t.d.fact 30 (f := .glo "NoText") rfl)
  have h_NoRoom : mg "NoRoom" = some (.ref (He.ga K "NoRoom")) := He.glo_ok X G (c.t.d.fact 31 (f := .glo "NoRoom") rfl)
  have g_PatternError : mg "PatternError" = some (.ref (He.ga K "PatternError")) := He.glo_ok X G (c.t.d.fact 26 (f := .glo "PatternError") rfl)
  have x_PatternError : EX K mg "PatternError" (He.ga K "PatternError") := by
    obtain ⟨a1, a2, a3, a4⟩ := He.exc_ok (c.t.d.fact 32 (f := .exc "PatternError") rfl)
    exact ⟨g_PatternError, a1, a2, a3, a4⟩
  have g_NoLetters : mg "NoLetters" = some (.ref (He.ga K "NoLetters")) := He.glo_ok X G (c.t.d.fact 27 (f := .glo "NoLetters") rfl)
  have x_NoLetters : EX K mg "NoLetters" (He.ga K "NoLetters") := by
    obtain ⟨a1, a2, a3, a4⟩ := He.exc_ok (c.t.d.fact 33 (f := .exc "NoLetters") rfl)
    exact ⟨g_NoLetters, a1, a2, a3, a4⟩
  have g_NoPattern : mg "NoPattern" = some (.ref (He.ga K "NoPattern")) := He.glo_ok X G (c.t.d.fact 28 (f := .glo "NoPattern") rfl)
  have x_NoPattern : EX K mg "NoPattern" (He.ga K "NoPattern") := by
    obtain ⟨a1, a2, a3, a4⟩ := He.exc_ok (c.t.d.fact 34 (f := .exc "NoPattern") rfl)
    exact ⟨g_NoPattern, a1, a2, a3, a4⟩
  have g_TooGreat : mg "TooGreat" = some (.ref (He.ga K "TooGreat")) := He.glo_ok X G (c.t.d.fact 29 (f := .glo "TooGreat") rfl)
  have x_TooGreat : EX K mg "TooGreat" (He.ga K "TooGreat") := by
    obtain ⟨a1, a2, a3, a4⟩ := He.exc_ok (c.t.d.fact 35 (f := .exc "TooGreat") rfl)
    exact ⟨g_TooGreat, a1, a2, a3, a4⟩
  have g_NoText : mg "NoText" = some (.ref (He.ga K "NoText")) := He.glo_ok X G (c.t.d.fact 30 (f := .glo "NoText") rfl)
  have x_NoText : EX K mg "NoText" (He.ga K "NoText") := by
    obtain ⟨a1, a2, a3, a4⟩ := He.exc_ok (c.t.d.fact 36 (f := .exc "NoText") rfl)
    exact ⟨g_NoText, a1, a2, a3, a4⟩
  have g_NoRoom : mg "NoRoom" = some (.ref (He.ga K "NoRoom")) := He.glo_ok X G (c.t.d.fact 31 (f := .glo "NoRoom") rfl)
  have x_NoRoom : EX K mg "NoRoom" (He.ga K "NoRoom") := by
    obtain ⟨a1, a2, a3, a4⟩ := He.exc_ok (c.t.d.fact 37 (f := .exc "NoRoom") rfl)
    exact ⟨g_NoRoom, a1, a2, a3, a4⟩
  have n_ValueError : mg "ValueError" = none := He.free_ok X G (c.t.d.fact 38 (f := .free "ValueError") rfl)
  have n_abs : mg "abs" = none := He.free_ok X G (c.t.d.fact 39 (f := .free "abs") rfl)
  have n_all : mg "all" = none := He.free_ok X G (c.t.d.fact 40 (f := .free "all") rfl)
  have n_bool : mg "bool" = none := He.free_ok X G (c.t.d.fact 41 (f := .free "bool") rfl)
  have n_int : mg "int" = none := He.free_ok X G (c.t.d.fact 42 (f := .free "int") rfl)
  have n_isinstance : mg "isinstance" = none := He.free_ok X G (c.t.d.fact 43 (f := .free "isinstance") rfl)
  have n_len : mg "len" = none := He.free_ok X G (c.t.d.fact 44 (f := .free "len") rfl)
  have n_list : mg "list" = none := He.free_ok X G (c.t.d.fact 45 (f := .free "list") rfl)
  have n_range : mg "range" = none := He.free_ok X G (c.t.d.fact 46 (f := .free "range") rfl)
  have n_reversed : mg "reversed" = none := He.free_ok X G (c.t.d.fact 47 (f := .free "reversed") rfl)
  have n_set : mg "set" = none := He.free_ok X G (c.t.d.fact 48 (f := .free "set") rfl)
  have n_str : mg "str" = none := He.free_ok X G (c.t.d.fact 49 (f := .free "str") rfl)
  have n_zip : mg "zip" = none := He.free_ok X G (c.t.d.fact 50 (f := .free "zip") rfl)
  obtain ⟨t_MOST_LETTERS, i_MOST_LETTERS⟩ := He.int_ok X G (c.t.d.fact 51 (f := .int "MOST_LETTERS" 4) rfl)
  obtain ⟨t_MOST_SIGNS, i_MOST_SIGNS⟩ := He.int_ok X G (c.t.d.fact 52 (f := .int "MOST_SIGNS" 200) rfl)
  have e_PatternError := He.exm_ok (c.t.d.fact 53 (f := .exm "PatternError" "PatternError" true) rfl)
  have e_NoLetters := He.exm_ok (c.t.d.fact 54 (f := .exm "NoLetters" "PatternError" true) rfl)
  have e_NoPattern := He.exm_ok (c.t.d.fact 55 (f := .exm "NoPattern" "PatternError" true) rfl)
  have e_TooGreat := He.exm_ok (c.t.d.fact 56 (f := .exm "TooGreat" "PatternError" true) rfl)
  have e_NoText := He.exm_ok (c.t.d.fact 57 (f := .exm "NoText" "PatternError" true) rfl)
  have e_NoRoom := He.exm_ok (c.t.d.fact 58 (f := .exm "NoRoom" "PatternError" true) rfl)
  have er := ex_err c.more
  cases hfa.symm.trans mLaw
  have bA := FunD.bindsA (ps := ["_law_script"]) FLaw' fun _ _ _ _ _ _ us hl => match us, hl with | [_], _ => rfl
  have TM : MTx K (He.ga K "Meeting") := ⟨c_Meeting, o_Meeting_ahead⟩
  refine ⟨DLaw, fun s v => bA s [v] rfl, fun base _ _ hTB => ?_⟩
  have tb : ∀ x : Str, ((x, none) : He.Defn) ∈ tf → GxR.TabB base mg (He.codeOf K (x, none)) (He.cT K (x, none)).2 := fun x hx => by
    have t := hTB _ (List.mem_map_of_mem hx)
    exact ⟨t.code, t.bm, t.gP⟩
  have tb1 := tb "need_letters" (by simp [tf])
  have tb2 := tb "need_text" (by simp [tf])
  have exm : ∀ i, i < 5 → PySem.W.exmOne K (.ref (He.ga K (cn i))) (.ref (He.ga K "PatternError")) = some true := by
    intro i hi
    match i, hi with
    | 0, _ => exact e_NoLetters
    | 1, _ => exact e_NoPattern
    | 2, _ => exact e_TooGreat
    | 3, _ => exact e_NoText
    | 4, _ => exact e_NoRoom
  have NL := nl_ok (P := P) (w := w) FNeedLetters' (code_is FNeedLetters') tb1 x_NoLetters n_isinstance n_str n_len n_all n_set i_MOST_LETTERS
  have NT := nt_ok (P := P) (w := w) FNeedText' (code_is FNeedText') tb2 x_NoText n_isinstance n_str n_len n_all i_MOST_SIGNS
  have MI := mi_ok (P := P) (w := w) (base := base) FMeetingInit' TM n_list n_range
  have FO := fo_ok (P := P) (w := w) (mg := mg) (base := base) FMeetingFirstOf' TM
  have JM := jm_ok FMeetingJoinRooms' TM FO bMeetingFirstOf mMeetingFirstOf
  have NR := nr_ok (P := P) (w := w) (base := base) FNeedRoom' x_NoRoom n_isinstance n_int n_bool n_len
  have TX := tx_ok (P := P) (w := w) (base := base) FTextAlong' n_reversed
  have RO := ro_ok FRoomOf' NL bNeedLetters FNeedLetters'.kp mNeedLetters NR bNeedRoom FNeedRoom'.kp mNeedRoom NT bNeedText FNeedText'.kp mNeedText
  have PA := pa_ok FParting' TM k_Meeting h_Meeting NL bNeedLetters FNeedLetters'.kp mNeedLetters NR bNeedRoom FNeedRoom'.kp mNeedRoom MI bMeetingInit JM bMeetingJoinRooms mMeetingJoinRooms TX bTextAlong FTextAlong'.kp mTextAlong n_len n_zip
  have CA := ca_ok (P := P) (w := w) (base := base) FLawCellAt' n_len
  have LT := lt_ok (P := P) (w := w) (base := base) FLawLetters' n_range
  have TT := tt_ok (P := P) (w := w) (base := base) FLawText' n_len n_range
  have MA := ma_ok FLawMachine' CA bLawCellAt FLawCellAt'.kp mLawCellAt n_len n_range
  have FA := far_ok (P := P) (w := w) (base := base) FLawFar' n_len n_range n_zip
  have DU := dp_ok FLawDue' FA bLawFar FLawFar'.kp mLawFar n_len n_zip
  have TO := to_ok (ca := fun i => He.ga K (cn i)) FLawTold' er exm g_PatternError RO bRoomOf FRoomOf'.kp mRoomOf PA bParting FParting'.kp mParting FLawKind' bLawKind mLawKind g_NoLetters g_NoPattern g_TooGreat g_NoText g_NoRoom n_isinstance n_int n_len n_ValueError
  have NO := no_ok (P := P) (w := w) (base := base) FLawNoText' n_len
  have LO := lo_ok FLawLongest' TO bLawTold FLawTold'.kp mLawTold n_len n_range
  have GO := go_ok FLawGood' TO bLawTold FLawTold'.kp mLawTold DU bLawDue FLawDue'.kp mLawDue n_list n_isinstance n_bool
  have RF := rf_ok FLawRefused' TO bLawTold FLawTold'.kp mLawTold NO bLawNoText FLawNoText'.kp mLawNoText n_len
  exact law_ok FLaw' CA bLawCellAt FLawCellAt'.kp mLawCellAt LT bLawLetters FLawLetters'.kp mLawLetters MA bLawMachine FLawMachine'.kp mLawMachine TT bLawText FLawText'.kp mLawText GO bLawGood FLawGood'.kp mLawGood LO bLawLongest FLawLongest'.kp mLawLongest RF bLawRefused FLawRefused'.kp mLawRefused n_len n_abs
end
end Bo
set_option Elab.async false
set_option linter.all false
open PySem PySem.W PySem.Calls PyProof.Rows
set_option maxRecDepth 100000 in
set_option maxHeartbeats 0 in
theorem PySem.Challenge.cw_bothreed_k06_rooms_and_partings_holds : PySem.Challenge.rw_bothreed_k06_rooms_and_partings.Holds := by
  w_on; o_law
  refine HandSHeadRun.head_any (r := Bo.R) (q := view Bo.R.prog [33]) (H := Bo.hk) (ob := Bo.ob) (M := 9000) (loose := Bo.names) (d := HandSHeadRun.topDef Bo.R.prog 33) (kwd := []) Bo.ob_eq
    (by kernel_rfl) (fun s => by kernel_rfl) Bo.run (by kernel_rfl) (by kernel_rfl) (by kernel_rfl) (by rfl) (by first | assumption | decide +kernel) (by decide +kernel) ⟨rfl, rfl, rfl, rfl, rfl, by decide +kernel⟩ ?hw ?hc
  case hw => w_witness2
  case hc =>
    refine LamX.walk_ofTsE (l := PySem.Challenge.rw_bothreed_k06_rooms_and_partings) (n := 63) (k := 51) (x := "_law_script") (CX := fun _ => L2.CX0) rfl (by decide) (by kernel_rfl) ⟨rfl, by decide, by decide⟩ ?F (fun _ _ _ _ _ z => z)
    intro w mg f h Y G hmg0
    obtain ⟨K, KX, c⟩ := Y
    have hmg : mg ("law" : PySem.Str) = some (.ref f) := by
      have e : (HandSHeadRun.topDef Bo.R.prog 33).name = ("law" : PySem.Str) := by kernel_rfl
      rw [← e]
      exact hmg0
    obtain ⟨fd, hb, hF⟩ := Bo.facts (P := PySem.Challenge.rw_bothreed_k06_rooms_and_partings.prog) (w := w) KX G hmg c
    refine ⟨K, KX, fd, Bo.tf.map (He.cT K), _, ?_, ?_, ?_, hb, ?_, hF⟩
    · intro p hp
      obtain ⟨x, hx, rfl⟩ := List.mem_map.mp hp
      exact c.empty x hx
    · intro p hp
      obtain ⟨x, hx, rfl⟩ := List.mem_map.mp hp
      exact c.out x hx
    · intro p hp
      obtain ⟨x, hx, rfl⟩ := List.mem_map.mp hp
      exact PySem.W.codeHd_of_K KX (c.hd x hx)
    · intro H a ns hl _ hT hS
      have tab : ∀ x : PySem.Str, ((x, none) : He.Defn) ∈ Bo.tf → GxR.TabG H (He.cT K (x, none)).2 := fun x hx => ⟨#[], hT _ (List.mem_map_of_mem hx), trivial⟩
      exact ⟨a, ns, rfl, hS, tab "need_letters" (by simp [Bo.tf]), tab "need_text" (by simp [Bo.tf]), fun _ => rfl⟩
