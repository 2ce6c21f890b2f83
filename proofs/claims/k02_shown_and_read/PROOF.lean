import PyProof.Rows.All
import Wide.All
import OpenK.AllK
import Wide.FinOn
import HandS.ForMost
import HandS.AnyAll
import HandS.GenOver
import HandS.Strs
import HandS.Defaults
import HandS.WideBits
import KE.KStateDown
import Lean
import HandS.ForExc
import HandS.Head0
import HandS.Head1
import HandS.Head2
import HandS.HeadEnd
import HandS.HeadHook1
import HandS.HeadHook2
import HandS.HeadHook3
import HandS.HeadHook4
import HandS.HeadWalk
import HandS.IsInst
import HandS.Text
import HandS.ExcCtx
import HandS.Codes
import HandS.ForDict
import HandS.Conv
import HandS.More
import PyProof.P3Eq
import HandS.Style
import HandS.EndTab
import KE.KNestM
import PySem.Challenge.RW_bothreed_k02_shown_and_read
set_option Elab.async false
set_option linter.all false
set_option maxRecDepth 100000
set_option maxHeartbeats 4000000
/-! any, all over a generator expression whose element may call defs of the program's own -/
namespace GE
open PySem PySem.Spec PyProof.Rows L2 GxR
theorem over_start {A : Around} {elt iter tg : Expr} {ifs : List Expr} {scope : Scope} {pos : Pos} {it acc : Value} {env : Env} :
    A.over (.compStart (.GeneratorExp elt [⟨tg, iter, ifs, 0⟩] scope pos) 0 it acc env) [] = A.deeper env := by
  obtain ⟨hd, d, fr, gs, u⟩ := A
  simp [Around.over, Around.deeper, marksOver, frameCount, unitsOf, envsOf, guardsOf, pushEnvs, pushGuards, Code.envs, Code.env?, Code.isFrame, Code.guards, Code.isGuard, Code.weight, Code.frames, Code.isCreation, Code.isCaller, Code.cUnits]
theorem over_loop {A : Around} {elt iter tg : Expr} {ifs : List Expr} {scope : Scope} {pos : Pos} {it acc : Value} {env : Env} :
    A.over (.compLoop (.GeneratorExp elt [⟨tg, iter, ifs, 0⟩] scope pos) 0 it acc env) [] = A.deeper env := by
  obtain ⟨hd, d, fr, gs, u⟩ := A
  simp [Around.over, Around.deeper, marksOver, frameCount, unitsOf, envsOf, guardsOf, pushEnvs, pushGuards, Code.envs, Code.env?, Code.isFrame, Code.guards, Code.isGuard, Code.weight, Code.frames, Code.isCreation, Code.isCaller, Code.cUnits]

/-- the context of the generator's turns -/
abbrev Cx.gen (X : Cx) (s : Shared) (H : Hp) (cenv : Env) (fp : List Addr) (x : Str) : Cx :=
  { X with A := X.A.in1.in1.deeper cenv, N := X.N ++ [x], s_0 := s, H_0 := H, env := cenv, outer := X.stack, stack := cenv :: X.stack, ex := fp, fn := fun _ => false, pn := [], xe := fun _ _ => False }
/-- the environment of the generator's frame -/
abbrev gEnv (X : Cx) (scope : Scope) (C : Addr) (code : Value) : Env := genEnv scope (cloFrom X.env.cells scope.names []) C code builtinsNs X.env
theorem Room.gen {k : Nat} {A : Around} (r : Room (k + 1) A) (env : Env) : Room k (A.in1.in1.deeper env) :=
  ⟨r.hd, by have := r.dp; show A.depth + 1 + 3 * k + 5 < _; omega, by have := r.un; show A.units + 1 + 1 + 3 + 16 * k + 200 < _; omega⟩

/-- the scope of the generator expression -/
structure GSc (N : List Str) (sc scope : Scope) (x : Str) : Prop where
  blk : BlkOk (N ++ [x]) sc scope [(x, N.length)]
  nd : (N ++ [x]).Nodup
  co : scope.isCoroutine = false
  cell : ∀ y ∈ scope.names, y.2 ≠ .cell
  dot : scope.names.lookup (".0" : Str) = some NameKind.local
  loc : scope.names.lookup x = some .local
def gscC (N : List Str) (sc scope : Scope) (x : Str) : Bool :=
  blkC (N ++ [x]) sc scope [(x, N.length)] && decide ((N ++ [x]).Nodup) && !scope.isCoroutine && (scope.names.all fun y => match y.2 with | .cell => false | _ => true) && (match scope.names.lookup (".0" : Str) with | some .local => true | _ => false)
    && (match scope.names.lookup x with | some .local => true | _ => false)
theorem gsc_by {N : List Str} {sc scope : Scope} {x : Str} (h : gscC N sc scope x = true) : GSc N sc scope x := by
  unfold gscC at h
  simp only [Bool.and_eq_true, decide_eq_true_eq, Bool.not_eq_true', List.all_eq_true] at h
  obtain ⟨⟨⟨⟨⟨h1, h2⟩, h3⟩, h4⟩, h5⟩, h6⟩ := h
  refine ⟨blkOk_by h1, h2, h3, fun y hy e => ?_, ?_, ?_⟩
  · have := h4 y hy
    rw [e] at this
    cases this
  · split at h5
    · assumption
    · cases h5
  · split at h6
    · assumption
    · cases h6

section
variable {X : Cx} {pins : List (Addr × Obj)} {σ : L2.St} {H : Hp} {s s' : Shared}
/-- the same heap, other tokens and generators -/
theorem Inv.regen (I : Inv X pins σ H s) (hh : s'.heap = s.heap) (ho : s'.os = s.os) (hb : AllBare s'.gens) : Inv X pins σ H s' := by
  obtain ⟨h, g, d, t, o⟩ := s
  obtain ⟨h', g', d', t', o'⟩ := s'
  obtain rfl : h' = h := hh
  obtain rfl : o' = o := ho
  exact ⟨I.ok, I.os, hb, I.base, I.loc, I.cell, I.free, I.freeC, I.pin, I.hok, I.len⟩

theorem gen_start {scope : Scope} {x : Str} {code : Value} {m : Str → Option Value} {fp : List Addr} (I : Inv X pins σ H s) (S : GSc X.N X.env.scope scope x) (hfp : ∀ b ∈ fp, FpOk X pins H b ∧ b < s.heap.objs.size)
    (hn : s'.heap.Ns s.heap.objs.size m) (kp : ∀ b o, s.heap.get? b = some o → s'.heap.get? b = some o) (ho : s'.os = s.os) (hb : AllBare s'.gens) :
    Inv (Cx.gen X s H (gEnv X scope s.heap.objs.size code) fp x) [] (σ ++ [none]) H s' := by
  have ok := S.blk
  have hfree : ∀ y ∈ scope.names, y.2 = .free → ∃ c, X.env.cells.lookup y.1 = some c := fun y hy e => by
    rcases ok.free y hy e with k | k
    · exact I.ok.has _ (.inl k)
    · exact I.ok.has _ (.inr k)
  have cm : ∀ {y c}, (y, c) ∈ cloFrom X.env.cells scope.names [] → X.env.cells.lookup y = some c ∧ c < s.heap.objs.size := fun {y c} hm => by
    rcases cloFrom_mem hm with hm | ⟨h1, rfl⟩
    · cases hm
    · obtain ⟨c, hc⟩ := hfree _ h1 rfl
      rw [hc]
      obtain ⟨w, z⟩ := I.cell _ _ hc
      exact ⟨rfl, z.lt⟩
  generalize hcenv : gEnv X scope s.heap.objs.size code = cenv
  have hL : cenv.locals = s.heap.objs.size := by rw [← hcenv]; rfl
  have hcl : cenv.cells = cloFrom X.env.cells scope.names [] := by rw [← hcenv]; rfl
  have hsc : cenv.scope = scope := by rw [← hcenv]; rfl
  have hfr : cenv.frame = some cenv.locals := by rw [← hcenv]; rfl
  have mem : ∀ {y c}, cenv.cells.lookup y = some c → X.env.cells.lookup y = some c ∧ c < s.heap.objs.size := fun {y c} e => by
    rw [hcl] at e
    exact cm (PySem.mem_of_lookup e)
  have look : ∀ {y}, scope.names.lookup y = some .free → ∃ c, cenv.cells.lookup y = some c ∧ X.env.cells.lookup y = some c := fun {y} hl => by
    have hy : (y, NameKind.free) ∈ scope.names := PySem.mem_of_lookup hl
    obtain ⟨c', e'⟩ := mem_lookup (cloFrom_has (cells := X.env.cells) (acc := []) hy)
    rw [← hcl] at e'
    exact ⟨c', e', (mem e').1⟩
  have okG : (Cx.gen X s H cenv fp x).Ok := by
    refine ⟨I.ok.mod, by show cenv.scope.kind = _; rw [hsc]; exact ok.kind, by show cenv.globals = _; rw [← hcenv]; exact I.ok.glob, by show cenv.builtins = _; rw [← hcenv]; rfl, by show s.heap.objs.size ≤ cenv.locals; rw [hL]; exact Nat.le_refl _,
      fun y z c e1 e2 => ?_, fun y hy => ?_, fun y c z e => ?_, I.ok.hd, ?_, .inr ⟨rfl, hfr⟩, fun b hb => ⟨?_, fun y c e z => ?_⟩, I.bs, Nat.le_trans I.ok.bsz I.sz, fun b o e hb => ?_, fun b hb z => ?_, I.stack, I.stkFree⟩
    · exact I.ok.inj y z c (mem e1).1 (mem e2).1
    · show ∃ c, cenv.cells.lookup y = some c
      have key : ∀ k, cenv.kindOf y = some k → (k = .cell ∨ k = .free) → ∃ c, cenv.cells.lookup y = some c := fun k hk hk' => by
        unfold Env.kindOf at hk
        rw [hsc] at hk
        rcases hk' with rfl | rfl
        · exact absurd rfl (S.cell _ (PySem.mem_of_lookup hk))
        · obtain ⟨c, h1, _⟩ := look hk
          exact ⟨c, h1⟩
      rcases hy with hy | hy
      · exact key _ hy (.inl rfl)
      · exact key _ hy (.inr rfl)
    · cases z
    · show (X.A.in1.in1.deeper cenv).frames = some (cenv :: X.stack)
      have := I.ok.frames
      show pushEnvs [cenv] X.A.frames = some (cenv :: X.stack)
      rw [this]; rfl
    · show b ≠ cenv.locals
      rw [hL]; exact Nat.ne_of_lt (hfp b hb).2
    · exact (hfp b hb).1.2.2.2.2.1 y c (mem e).1 z
    · rcases (hfp b hb).1.2.2.2.1 with z | z
      · exact I.ok.noex b o e z
      · exact absurd (Nat.lt_of_lt_of_le (Heap.lt_size e) (Nat.le_trans I.ok.bsz z)) (Nat.lt_irrefl _)
    · rcases List.mem_cons.mp (I.stkSub b z) with z | z
      · exact (hfp b hb).1.2.1 z
      · exact (hfp b hb).1.2.2.1 z
  refine ⟨okG, ho, hb, Un.kept kp, ⟨m, ?_, fun i y av e1 e2 e3 => ?_⟩, fun y c e => ?_, ?_, fun y c e => ?_, fun p hp => ?_, I.hok.kept kp, ?_⟩
  · show Heap.Ns _ cenv.locals _
    rw [hL]; exact hn
  · have hi : i < σ.length := by
      rcases Nat.lt_or_ge i σ.length with h | h
      · exact h
      · rw [List.getElem?_append_right h] at e2
        rcases Nat.eq_zero_or_pos (i - σ.length) with z | z
        · rw [z] at e2; cases e2
        · rw [List.getElem?_eq_none (by simp; omega)] at e2; cases e2
    have hN : i < X.N.length := by rw [← I.len]; exact hi
    rw [List.getElem?_append_left hi] at e2
    have e1 : (X.N ++ [x])[i]? = some y := e1
    have e1N := e1
    rw [List.getElem?_append_left hN] at e1N
    have hfreeY : scope.names.lookup y = some .free := by
      have key : ∀ k, scope.names.lookup y = some k → k = .local ∨ k = .cell ∨ k = .free → scope.names.lookup y = some .free := fun k hk hk' => by
        have no : ¬ (k = .local ∨ k = .cell) := fun hh => by
          rcases ok.own _ (PySem.mem_of_lookup hk) hh with e' | e'
          · have : y = x := by simpa using e'
            subst this
            have e3 : (X.N ++ [y])[X.N.length]? = some y := by simp
            have := nodup_ix S.nd e1 e3
            omega
          · exact e' (List.mem_of_getElem? e1)
        rcases hk' with rfl | rfl | rfl
        · exact absurd (.inl rfl) no
        · exact absurd (.inr rfl) no
        · exact hk
      have e3 : Vis cenv.scope y := e3
      rw [hsc] at e3
      rcases e3 with e3 | e3 | e3
      · exact key _ e3 (.inl rfl)
      · exact key _ e3 (.inr (.inl rfl))
      · exact key _ e3 (.inr (.inr rfl))
    obtain ⟨m', hn', hl⟩ := I.loc
    have hvis : Vis X.env.scope y := (ok.free _ (PySem.mem_of_lookup hfreeY) rfl).elim (fun k => .inr (.inl k)) (fun k => .inr (.inr k))
    obtain ⟨w, r, q⟩ := hl i y av e1N e2 hvis
    refine ⟨w, r, .inr ⟨.inr (by show cenv.scope.names.lookup y = _; rw [hsc]; exact hfreeY), ?_⟩⟩
    obtain ⟨c, h1, h2⟩ := look hfreeY
    rcases q with ⟨k, _⟩ | ⟨_, c', e', z⟩
    · have k : X.env.scope.names.lookup y = some .local := k
      rcases ok.free _ (PySem.mem_of_lookup hfreeY) rfl with k' | k' <;> rw [show X.env.scope.names.lookup y = _ from k'] at k <;> cases k
    · rw [h2] at e'; cases e'
      exact ⟨c, h1, z.keeps kp⟩
  · obtain ⟨w, z⟩ := I.cell y c (mem e).1
    exact ⟨w, z.keeps kp⟩
  · show H cenv.locals = none
    rw [hL]; exact I.hok.fresh (Nat.le_refl _)
  · exact I.freeC y c (mem e).1
  · exact absurd (show p ∈ ([] : List (Addr × Obj)) ++ [] from hp) (by simp)
  · show (σ ++ [none]).length = (X.N ++ [x]).length
    simp [I.len]
end

/-! ### the turns -/
def GR (XG : Cx) (pn : List (Addr × Obj)) (σ0 : L2.St) (QF : Hp → Prop) : Nat → Shared → Shared → Prop := fun _ _ s₁ => ∃ H, Inv XG pn σ0 H s₁ ∧ QF H
def GYp (XG : Cx) (pn : List (Addr × Obj)) (σ0 : L2.St) (stopv : Bool) (QS : Hp → Prop) (fp : List Addr) (tn : Nat → Heap → Prop) (W : Nat → Nat → Hp → Prop) : Protocol := fun k _ v s kap =>
  ∃ H b, v = .bool b ∧ Inv XG pn σ0 H s ∧ (if b = stopv then QS H else ∃ i m, m < k ∧ tn i s.heap ∧ (∀ c ∈ fp, H c = none) ∧ W i m H ∧ ∀ s'' : Shared, s''.heap = s.heap → s''.os = s.os → AllBare s''.gens → kap (.send .none) s'')
theorem set_last {α : Type} (l : List (Option α)) (v : α) : (l ++ [none]).set l.length (some v) = l ++ [some v] := by
  induction l with
  | nil => rfl
  | cons a r ih => show a :: ((r ++ [none]).set r.length (some v)) = a :: (r ++ [some v]); rw [ih]
section
variable {X : Cx} {s1 : Shared} {H1 : Hp} {cenv : Env} {fp : List Addr} {x : Str} {px : Pos} {J : It} {it : Addr} {tn : Nat → Heap → Prop} {pn : List (Addr × Obj)} {σ : L2.St} {stopv : Bool} {QS QF : Hp → Prop} {W : Nat → Nat → Hp → Prop} {elt iter : Expr} {te : TE} {scope : Scope} {pos : Pos}
theorem seg_turns (hc : X.calm = true) (T : Turn X.prog X.w X.K (.Name x px) J fp it tn) (hpn : ∀ p ∈ pn, ∀ b ∈ fp, p.1 ≠ b) (nd : (X.N ++ [x]).Nodup) (hx : cenv.scope.names.lookup x = some .local) (hco : cenv.scope.isCoroutine = false)
    (he : PE (Cx.gen X s1 H1 cenv fp x) elt te)
    (turn : ∀ i m H, W i m H → (J.stop i H ∧ QF H) ∨ (J.go i H ∧ ∃ Nx : Hp → Prop, (∀ H', Nx H' → ∃ m', m' < m ∧ W (i + 1) m' H') ∧ ∀ v H', J.yld i H v H' → te (σ ++ [some v]) H' fun y H2 => ∃ b, y = .bl b ∧ if b = stopv then QS H2 else Nx H2)) :
    ∀ (n m i : Nat) (s₀ s : Shared) (H : Hp), m < n → Inv (Cx.gen X s1 H1 cenv fp x) pn (σ ++ [none]) H s → tn i s.heap → (∀ b ∈ fp, H b = none) → W i m H →
      Seg (model X.prog X.w) X.A.in1.in1 (fun n s₀ r s₁ => r = .ok .next ∧ GR (Cx.gen X s1 H1 cenv fp x) pn (σ ++ [none]) QF n s₀ s₁) (GYp (Cx.gen X s1 H1 cenv fp x) pn (σ ++ [none]) stopv QS fp tn W) n s₀
        (.compLoop (.GeneratorExp elt [⟨.Name x px, iter, [], 0⟩] scope pos) 0 (.ref it) .none cenv) ((model X.prog X.w).den (.compLoop (.GeneratorExp elt [⟨.Name x px, iter, [], 0⟩] scope pos) 0 (.ref it) .none cenv)) [] s := by
  intro n
  induction n with
  | zero => intro m i s₀ s H hm; exact absurd hm (Nat.not_lt_zero _)
  | succ k ih =>
    intro m i s₀ s H hm I st fr w
    have ov : X.A.in1.in1.over (.compLoop (.GeneratorExp elt [⟨.Name x px, iter, [], 0⟩] scope pos) 0 (.ref it) .none cenv) [] = (Cx.gen X s1 H1 cenv fp x).A := over_loop
    have stat : ∀ {H' : Hp}, (∀ b ∈ fp, H' b = none) → ∀ b ∈ fp, FpOk (Cx.gen X s1 H1 cenv fp x) pn H' b := fun hn b hb =>
      ⟨hn b hb, (I.ok.exf b hb).1, I.ok.exfs b hb, .inl hb, fun x c e => (I.ok.exf b hb).2 x c e, fun p hp => by
        rcases List.mem_append.mp hp with z | z
        · cases z
        · exact hpn p z b hb⟩
    show Seg _ _ _ _ _ s₀ _ ((compTurn (.GeneratorExp elt [⟨.Name x px, iter, [], 0⟩] scope pos) 0 (.ref it) .none cenv).onRaise (leaving cenv)) [] s
    rw [compTurn_gen, Sem.onRaise_eq_wrap]
    refine seg_bind_wrap (wpAny_standAt ?_)
    refine seg_bind_wrap ?_
    rw [ov]
    rcases turn i m H w with ⟨stop, qf⟩ | ⟨go, Nx, hNx, step⟩
    · refine thnF (T.done (Cx.gen X s1 H1 cenv fp x) rfl rfl rfl hc i pn s _ H (fun _ _ => False) I (stat fr) st stop) fun r s2 ⟨hr, I2⟩ => ?_
      subst hr
      exact seg_end (.ok .next) ⟨rfl, H, I2, qf⟩
    · refine thnF (T.item (Cx.gen X s1 H1 cenv fp x) rfl rfl rfl hc i pn s _ H (fun _ _ => False) I (stat fr) st go) fun r s2 ⟨u, hr, h2⟩ => ?_
      subst hr
      refine seg_bind_wrap ?_
      rw [ov]
      refine thnF h2 fun _ s3 ⟨v, H3, I3, r3, y3, st3, fr3⟩ => ?_
      have I3' := I3.pinned (stat fr3) (T.obj _ _ st3)
      have hl : σ.length = X.N.length := by
        have := I.len
        simp at this
        exact this
      have pg : PG (Cx.gen X s1 H1 cenv fp x) (.Name x px) (gName X.N.length) := pg_name nd (by show (X.N ++ [x])[X.N.length]? = some x; simp) (.inl hx) (.inr hx)
      refine seg_bind_wrap ?_
      rw [ov]
      refine thnF (pg.run _ s3 _ H3 v u (fun σ' H' => σ' = σ ++ [some v] ∧ H' = H3) I3' r3 ⟨by rw [← hl]; exact set_last σ v, rfl⟩) fun _ s4 ⟨σ4, H4, I4, e4, e4'⟩ => ?_
      subst e4 e4'
      simp only [List.forIn_nil]
      refine seg_bind_wrap (wpAny_pure ?_)
      simp only [if_true]
      have hy : ∀ v, yieldOut cenv v = yieldValue v := fun v => by simp only [yieldOut, hco, Bool.false_eq_true, if_false]
      simp only [hy]
      rw [Sem.bind_eq_wrap', Sem.bind_eq_wrap', Sem.wrap_wrap, Sem.wrap_wrap]
      refine seg_wrap ?_
      rw [ov]
      refine thnF (he.run _ s4 _ H4 _ I4 (step v H4 y3)) fun z s5 ⟨yv, H5, I5, r5, b, eb, q5⟩ => ?_
      subst eb
      obtain rfl : z = Value.bool b := r5
      have pin' : ∀ c ∈ fp, ∀ o, s3.heap.get? c = some o → s5.heap.get? c = some o ∧ H5 c = none := fun c hc o e =>
        let z := I5.pin (c, o) (List.mem_append_right _ (List.mem_append_right _ (mem_pinsAt hc e)))
        ⟨z.1, z.2.1⟩
      have st5 : tn (i + 1) s5.heap := T.keep _ _ _ st3 fun c hc o e => (pin' c hc o e).1
      have fr5 : ∀ c ∈ fp, H5 c = none := fun c hc => by
        obtain ⟨o, e, _⟩ := T.obj _ _ st3 c hc
        exact (pin' c hc o e).2
      have I5' : Inv (Cx.gen X s1 H1 cenv fp x) pn (σ ++ [none]) H5 s5 := (I5.unpinned (pins := pn)).weak (by simp) fun j w e => by
        rcases Nat.lt_or_ge j σ.length with h | h
        · rw [List.getElem?_append_left h] at e ⊢; exact e
        · rw [List.getElem?_append_right h] at e
          rcases Nat.eq_zero_or_pos (j - σ.length) with z | z
          · rw [z] at e; cases e
          · rw [List.getElem?_eq_none (by simp; omega)] at e; cases e
      refine seg_at (seg_yield rfl rfl rfl ⟨H5, b, rfl, I5', ?_⟩)
      by_cases hb : b = stopv
      · rw [if_pos hb] at q5 ⊢
        exact q5
      · rw [if_neg hb] at q5 ⊢
        obtain ⟨m', hm', w'⟩ := hNx H5 q5
        refine ⟨i + 1, m', by omega, st5, fr5, w', fun s'' e1 e2 e3 => ?_⟩
        refine seg_again rfl (ih m' (i + 1) s'' s'' H5 (by omega) (Inv.regen I5' e1 e2 e3) ?_ fr5 w')
        rw [e1]; exact st5
theorem seg_first (hc : X.calm = true) (T : Turn X.prog X.w X.K (.Name x px) J fp it tn) (hpn : ∀ p ∈ pn, ∀ b ∈ fp, p.1 ≠ b) (nd : (X.N ++ [x]).Nodup) (hx : cenv.scope.names.lookup x = some .local) (hco : cenv.scope.isCoroutine = false)
    (he : PE (Cx.gen X s1 H1 cenv fp x) elt te)
    (turn : ∀ i m H, W i m H → (J.stop i H ∧ QF H) ∨ (J.go i H ∧ ∃ Nx : Hp → Prop, (∀ H', Nx H' → ∃ m', m' < m ∧ W (i + 1) m' H') ∧ ∀ v H', J.yld i H v H' → te (σ ++ [some v]) H' fun y H2 => ∃ b, y = .bl b ∧ if b = stopv then QS H2 else Nx H2))
    (n m : Nat) (s₀ s : Shared) (H : Hp) (hm : m < n) (I : Inv (Cx.gen X s1 H1 cenv fp x) pn (σ ++ [none]) H s) (st : tn 0 s.heap) (fr : ∀ b ∈ fp, H b = none) (w : W 0 m H) :
      Seg (model X.prog X.w) X.A.in1.in1 (fun n s₀ r s₁ => r = .ok .next ∧ GR (Cx.gen X s1 H1 cenv fp x) pn (σ ++ [none]) QF n s₀ s₁) (GYp (Cx.gen X s1 H1 cenv fp x) pn (σ ++ [none]) stopv QS fp tn W) n s₀
        (.compStart (.GeneratorExp elt [⟨.Name x px, iter, [], 0⟩] scope pos) 0 (.ref it) .none cenv) ((model X.prog X.w).den (.compStart (.GeneratorExp elt [⟨.Name x px, iter, [], 0⟩] scope pos) 0 (.ref it) .none cenv)) [] s := by
  have ov : X.A.in1.in1.over (.compStart (.GeneratorExp elt [⟨.Name x px, iter, [], 0⟩] scope pos) 0 (.ref it) .none cenv) [] = (Cx.gen X s1 H1 cenv fp x).A := over_start
  have loop := seg_turns (iter := iter) (px := px) (scope := scope) (pos := pos) hc T hpn nd hx hco he turn n m 0 s₀ s H hm I st fr w
  show Seg _ _ _ _ _ s₀ _ ((compStart (.GeneratorExp elt [⟨.Name x px, iter, [], 0⟩] scope pos) 0 (.ref it) .none cenv).onRaise (leaving cenv)) [] s
  unfold compStart
  rw [Sem.onRaise_eq_wrap]
  show Seg _ _ _ _ _ s₀ _ ((ask >>= _).wrap _ _ _ _) [] s
  refine seg_bind_wrap (wpAny_askSetting ?_)
  split
  · exact seg_again rfl loop
  · first
      | exact seg_bind_wrap (wpAny_rule (seg_bind_wrap (wpAny_standAt (seg_bind_wrap (T.self _ 0 s _ _ st (seg_again rfl loop))))))
      | (refine seg_bind_wrap (wpAny_rule ?_); show Seg _ _ _ _ _ s₀ _ ((standAt iter.pos >>= _).wrap _ _ _ _) [] s; exact seg_bind_wrap (wpAny_standAt (seg_bind_wrap (T.self _ 0 s _ _ st (seg_again rfl loop)))))
end
end GE
set_option Elab.async false
set_option linter.all false
set_option maxRecDepth 100000
set_option maxHeartbeats 4000000
namespace GE
open PySem PySem.Spec PyProof.Rows L2 GxR
theorem AllBare.setGen {s : Shared} {g : Nat} {x : GenState} (h : AllBare s.gens) (hx : x.bare = true) : AllBare (s.setGen g x).gens := by
  intro y hy
  have hy' : y ∈ s.gens.setIfInBounds g x := hy
  obtain ⟨i, hi, e⟩ := Array.mem_iff_getElem.mp hy'
  have hi' : i < s.gens.size := by simpa using hi
  rw [Array.getElem_setIfInBounds] at e
  split at e
  · rw [← e]; exact hx
  · rw [← e]; exact h _ (Array.getElem_mem hi')
  · exact hi'
section
variable {X : Cx} {s1 : Shared} {H1 : Hp} {cenv : Env} {fp : List Addr} {x : Str} {px : Pos} {J : It} {it a g : Nat} {tn : Nat → Heap → Prop} {pn : List (Addr × Obj)} {σ : L2.St} {stopv : Bool} {QS QF : Hp → Prop} {W : Nat → Nat → Hp → Prop} {elt iter : Expr} {te : TE} {scope : Scope} {pos : Pos} {R : Result → Shared → Prop}
/-- between two turns -/
def JG (X : Cx) (XG : Cx) (pn : List (Addr × Obj)) (σ0 : L2.St) (stopv : Bool) (QS QF : Hp → Prop) (fp : List Addr) (tn : Nat → Heap → Prop) (W : Nat → Nat → Hp → Prop) (a g n : Nat) (s : Shared) : Prop :=
  (∃ H, Inv XG pn σ0 H s) ∧ s.heap.IsGen a g ∧ ∃ gs, s.gens[g]? = some gs ∧ ∀ s'' : Shared, s''.heap = s.heap → s''.os = s.os → AllBare s''.gens →
    gs.Goes (model X.prog X.w) X.A.in1.in1 (fun n s₀ r s₁ => r = .ok .next ∧ GR XG pn σ0 QF n s₀ s₁) (GYp XG pn σ0 stopv QS fp tn W) n (.send .none) s''
/-- what pyNext leads to -/
def NX (X : Cx) (XG : Cx) (pn : List (Addr × Obj)) (σ0 : L2.St) (stopv : Bool) (QS QF : Hp → Prop) (fp : List Addr) (tn : Nat → Heap → Prop) (W : Nat → Nat → Hp → Prop) (a g n : Nat) (r : Option Value) (s : Shared) : Prop :=
  match r with
  | none => ∃ H, Inv XG pn σ0 H s ∧ QF H
  | some v => ∃ b, v = .bool b ∧ if b = stopv then ∃ H, Inv XG pn σ0 H s ∧ QS H else ∃ n', n' < n ∧ JG X XG pn σ0 stopv QS QF fp tn W a g n' s
theorem next_gen {XG : Cx} {σ0 : L2.St} {n : Nat} {s : Shared} {go : Obj} (hh : X.A.handled = none) (hroom : X.A.depth < recursionLimit) (hgo : (a, go) ∈ pn) (hG : ∀ h : Heap, h.get? a = some go → h.IsGen a g) (h : JG X XG pn σ0 stopv QS QF fp tn W a g n s) {E : Value → Shared → Prop} :
    wpAny (model X.prog X.w) X.A.in1 (pyNext (.ref a)) (NX X XG pn σ0 stopv QS QF fp tn W a g n) E s := by
  obtain ⟨⟨H, I⟩, hg, gs, hgs, goes⟩ := h
  have hsz : g + 1 ≤ s.gens.size := by
    rcases Nat.lt_or_ge g s.gens.size with h' | h'
    · exact h'
    · rw [Array.getElem?_eq_none h'] at hgs; cases hgs
  refine GenW.wpAny_gsz hsz ?_
  refine wpAny_pyNext_genexpQ (A := X.A.in1) (P := GR XG pn σ0 QF) hh I.nolimit hroom hg hgs (goes _ rfl rfl (AllBare.setGen I.bare rfl)) (fun v s₁ gs' hb hv => ?_) (fun s₁ hp h' hk => ?_)
  · obtain ⟨H', b, rfl, I', q⟩ := hv
    intro hsz'
    have I2 : Inv XG pn σ0 H' (s₁.setGen g gs') := Inv.regen I' rfl rfl (AllBare.setGen I'.bare hb)
    refine ⟨b, rfl, ?_⟩
    by_cases hbs : b = stopv
    · rw [if_pos hbs] at q ⊢
      exact ⟨H', I2, q⟩
    · rw [if_neg hbs] at q ⊢
      obtain ⟨i, m, hm, st, fr, w, kap⟩ := q
      cases n with
      | zero => exact absurd hm (Nat.not_lt_zero _)
      | succ k =>
        refine ⟨k, Nat.lt_succ_self _, ⟨H', I2⟩, hG _ (I2.pin (a, go) (List.mem_append_right _ hgo)).1, gs', ?_, fun s'' e1 e2 e3 => ?_⟩
        · have h9 : g < (s₁.gens.setIfInBounds g gs').size := hsz'
          have h8 : g < s₁.gens.size := by simpa using h9
          show (s₁.gens.setIfInBounds g gs')[g]? = some gs'
          rw [Array.getElem?_setIfInBounds_self_of_lt h8]
        · exact kap s'' e1 e2 e3
  · intro _
    obtain ⟨H', I', q⟩ := hp
    have I2 : Inv XG pn σ0 H' (s₁.setGen g .finished) := Inv.regen I' rfl rfl (AllBare.setGen I'.bare rfl)
    exact ⟨H', I2.kept (t' := (s₁.setGen g .finished).toks) hk, q⟩
theorem any_turns {XG : Cx} {σ0 : L2.St} {go : Obj} (hh : X.A.handled = none) (hroom : X.A.depth < recursionLimit) (hgo : (a, go) ∈ pn) (hG : ∀ h : Heap, h.get? a = some go → h.IsGen a g)
    (hS : ∀ H s, Inv XG pn σ0 H s → QS H → R (.ok (.ret (.bool true))) s) (hF : ∀ H s, Inv XG pn σ0 H s → QF H → R (.ok (.ret (.bool false))) s) :
    ∀ (n : Nat) (s : Shared), JG X XG pn σ0 true QS QF fp tn W a g n s → codeAny (model X.prog X.w) X.A (.builtin "any.loop" ⟨[.ref a], []⟩) R s := by
  intro n
  induction n using Nat.strongRecOn with
  | ind n ih =>
    intro s h
    refine codeAny_builtin PySem.F.entry_any_loop ?_
    rw [Around.under_plainId PySem.F.plain_any_loop _]
    show wpAny _ X.A.in1 (pyNext (.ref a) >>= _) _ _ s
    refine wpAny_bind (wpAny_mono (next_gen hh hroom hgo hG h (E := fun _ _ => False)) (fun r s' hr => ?_) fun _ _ z => False.elim z)
    cases r with
    | none =>
      obtain ⟨H', I', q⟩ := hr
      exact wpAny_bind (wpAny_rule (wpAny_pure (hF H' s' I' q)))
    | some v =>
      obtain ⟨b, rfl, q⟩ := hr
      refine wpAny_bind (wpAny_holding (wpAny_truthy_bool ?_))
      refine wpAny_bind (wpAny_letGo ?_)
      cases b with
      | true =>
        simp only [if_true] at q ⊢
        obtain ⟨H', I', q⟩ := q
        exact wpAny_bind (wpAny_rule (wpAny_pure (hS H' s' I' q)))
      | false =>
        simp only [Bool.false_eq_true, if_false] at q ⊢
        obtain ⟨n', hn, j⟩ := q
        exact wpAny_pure ⟨plainId_quiet PySem.F.plain_any_loop _, ih n' hn s' j⟩
theorem all_turns {XG : Cx} {σ0 : L2.St} {go : Obj} (hh : X.A.handled = none) (hroom : X.A.depth < recursionLimit) (hgo : (a, go) ∈ pn) (hG : ∀ h : Heap, h.get? a = some go → h.IsGen a g)
    (hS : ∀ H s, Inv XG pn σ0 H s → QS H → R (.ok (.ret (.bool false))) s) (hF : ∀ H s, Inv XG pn σ0 H s → QF H → R (.ok (.ret (.bool true))) s) :
    ∀ (n : Nat) (s : Shared), JG X XG pn σ0 false QS QF fp tn W a g n s → codeAny (model X.prog X.w) X.A (.builtin "all.loop" ⟨[.ref a], []⟩) R s := by
  intro n
  induction n using Nat.strongRecOn with
  | ind n ih =>
    intro s h
    refine codeAny_builtin PySem.F.entry_all_loop ?_
    rw [Around.under_plainId PySem.F.plain_all_loop _]
    show wpAny _ X.A.in1 (pyNext (.ref a) >>= _) _ _ s
    refine wpAny_bind (wpAny_mono (next_gen hh hroom hgo hG h (E := fun _ _ => False)) (fun r s' hr => ?_) fun _ _ z => False.elim z)
    cases r with
    | none =>
      obtain ⟨H', I', q⟩ := hr
      exact wpAny_bind (wpAny_rule (wpAny_pure (hF H' s' I' q)))
    | some v =>
      obtain ⟨b, rfl, q⟩ := hr
      refine wpAny_bind (wpAny_holding (wpAny_truthy_bool ?_))
      refine wpAny_bind (wpAny_letGo ?_)
      cases b with
      | false =>
        simp only [if_true] at q
        simp only [Bool.false_eq_true, if_false]
        obtain ⟨H', I', q⟩ := q
        exact wpAny_bind (wpAny_rule (wpAny_pure (hS H' s' I' q)))
      | true =>
        simp only [Bool.true_eq_false, if_false] at q
        simp only [if_true]
        obtain ⟨n', hn, j⟩ := q
        exact wpAny_pure ⟨plainId_quiet PySem.F.plain_all_loop _, ih n' hn s' j⟩
end
section
variable {X : Cx} {pins : List (Addr × Obj)} {σ : L2.St} {H : Hp} {s : Shared}
/-- any(..), all(..): stopv the truth at which it ends -/
def tQuant (stopv : Bool) (P : Addr) (wi : TI) (te : TE) : TE := fun σ H Q => wi σ H fun J H1 => TabG H1 P ∧ ∀ H2, Tabbed P H1 H2 → ∃ W : Nat → Nat → Hp → Prop, (∃ m, W 0 m H2) ∧ ∀ i m H, W i m H →
  (J.stop i H ∧ Q (.bl (!stopv)) H) ∨ (J.go i H ∧ ∃ Nx : Hp → Prop, (∀ H', Nx H' → ∃ m', m' < m ∧ W (i + 1) m' H') ∧ ∀ v H', J.yld i H v H' → te (σ ++ [some v]) H' fun y H3 => ∃ b, y = .bl b ∧ if b = stopv then Q (.bl stopv) H3 else Nx H3)
theorem gen_made {c P : Addr} {elt iter : Expr} {x : Str} {px gpos : Pos} {scope : Scope} {wi : TI} {te : TE} {k : Nat} {stopv : Bool} {Q : VK} {Q' : Value → Shared → Prop}
    (hc : X.calm = true) (hr : Room k X.A) (TB : TabB X.base X.mg c P) (hcode : X.env.code = .ref c) (S : GSc X.N X.env.scope scope x) (hi : PI X (.Name x px) iter wi)
    (he : ∀ (s : Shared) (H : Hp) (C : Addr) (code : Value) (fp : List Addr), PE (Cx.gen X s H (gEnv X scope C code) fp x) elt te)
    (hs : ∀ v, genFold iter X.env v = pure v) (I : Inv X pins σ H s) (h : tQuant stopv P wi te σ H Q)
    (hQ : ∀ (a g : Nat) (s5 : Shared) (XG : Cx) (pn : List (Addr × Obj)) (σ0 : L2.St) (fp : List Addr) (tn : Nat → Heap → Prop) (W : Nat → Nat → Hp → Prop) (go : Obj) (n : Nat), (a, go) ∈ pn → (∀ h : Heap, h.get? a = some go → h.IsGen a g) → s5.heap.IsGen a g →
      JG X XG pn σ0 stopv (fun H => Q (.bl stopv) H) (fun H => Q (.bl (!stopv)) H) fp tn W a g n s5 →
      (∀ H s, Inv XG pn σ0 H s → Inv X pins σ H s) → Q' (.ref a) s5) :
    wpAny (model X.prog X.w) X.A (eval (.GeneratorExp elt [⟨.Name x px, iter, [], 0⟩] scope gpos) X.env) Q' X.xe s := by
  have hfree : ∀ y ∈ scope.names, y.2 = .free → ∃ c, X.env.cells.lookup y.1 = some c := fun y hy e => by
    rcases S.blk.free y hy e with k | k
    · exact I.ok.has _ (.inl k)
    · exact I.ok.has _ (.inr k)
  refine wpAny_GeneratorExp_make S.co (closure_ok hfree) S.cell S.dot S.blk.kind (by have := hr.dp; omega) ?_ hs
  refine thn (hi.run pins s σ H _ I h) fun xv s1 hx => thn hx fun itv s2 h2 => ?_
  obtain ⟨it, fp, tn, J, H2, rfl, I2, T, st2, f2, ⟨ps, hP, ht⟩, q⟩ := h2
  refine ⟨I2.nolimit, ?_⟩
  have hPs : s2.heap.get? P = some { cls := .none, data := .fields ps } := I2.hok P _ hP
  have cd : PySem.W.CodeHd s2.heap c P := TB.code.keeps fun b u e => I2.bk b u e
  have nfP : ∀ b ∈ fp, b ≠ P := fun b hb z => by
    have := (f2 b hb).1
    rw [z, hP] at this; cases this
  have cont : ∀ (code : Value) (s3 : Shared) (H3 : Hp), Tabbed P H2 H3 → Inv X pins σ H3 s3 → (∀ b o, b ≠ P → s2.heap.get? b = some o → s3.heap.get? b = some o) →
      wpAny (model X.prog X.w) X.A (builtinsFor X.env.globals X.env.builtins) (fun bi s₄ =>
        ∀ h', h'.Ns s₄.heap.objs.size (fun y => if y = ".0" then some (.ref it) else none) → Heap.SameBut s₄.heap.objs.size (s₄.heap.push { cls := .type "frame", data := .dict #[] }) h' →
          Q' (.ref h'.objs.size) { s₄ with
            gens := s₄.gens.push (.fresh (.compStart (.GeneratorExp elt [⟨.Name x px, iter, [], 0⟩] scope gpos) 0 (.ref it) .none (genEnv scope (cloFrom X.env.cells scope.names []) s₄.heap.objs.size code bi X.env))),
            toks := s₄.toks + 1 + 1 + 1,
            heap := h'.push { cls := .type "generator", data := .fields #[.int s₄.gens.size 0, .str "<genexpr>" (s₄.toks + 1), .str (X.env.qual ++ "<genexpr>") (s₄.toks + 1 + 1)] } }) X.xe s3 := by
    intro code s3 H3 tb I3 keep3
    obtain ⟨bm, ob, e1, e2, e3, e4, e5, e6, e7, e8⟩ := TB.bm
    refine wpAny_builtinsFor (m := X.mg) (by rw [I3.ok.glob]; exact I3.mod.glob.keeps I3.bk) e1 e2 (I3.bk _ _ e5) e6 e7 e8 ?_
    intro h' hn' hs'
    obtain ⟨W, ⟨m0, w0⟩, turn⟩ := q H3 tb
    have hsz : h'.objs.size = s3.heap.objs.size + 1 := by rw [hs'.1, Heap.size_push]
    have keep' : ∀ b o, s3.heap.get? b = some o → h'.get? b = some o := fun b o e => hs'.extBut b o (Nat.ne_of_lt (Heap.lt_size e)) (Heap.get?_push_of_some _ e)
    generalize hgo : ({ cls := .type "generator", data := .fields #[.int s3.gens.size 0, .str "<genexpr>" (s3.toks + 1), .str (X.env.qual ++ "<genexpr>") (s3.toks + 1 + 1)] } : Obj) = go
    have hG : ∀ h : Heap, h.get? h'.objs.size = some go → h.IsGen h'.objs.size s3.gens.size := fun h e => ⟨go, _, _, e, by rw [← hgo], by rw [← hgo], by rw [← hgo]⟩
    have keep5 : ∀ b o, s3.heap.get? b = some o → (h'.push go).get? b = some o := fun b o e => Heap.get?_push_of_some _ (keep' b o e)
    have gob : (h'.push go).get? h'.objs.size = some go := Heap.get?_push_size _ (by rw [← hgo]; rfl)
    have f3 : ∀ b ∈ fp, FpOk X pins H3 b ∧ b < s3.heap.objs.size := fun b hb => by
      obtain ⟨o, e, _⟩ := T.obj _ _ st2 b hb
      exact ⟨⟨by rw [tb.2 b (nfP b hb)]; exact (f2 b hb).1, (f2 b hb).2⟩, Heap.lt_size (keep3 b o (nfP b hb) e)⟩
    generalize hs5 : ({ s3 with
            gens := s3.gens.push (.fresh (.compStart (.GeneratorExp elt [⟨.Name x px, iter, [], 0⟩] scope gpos) 0 (.ref it) .none (genEnv scope (cloFrom X.env.cells scope.names []) s3.heap.objs.size code builtinsNs X.env))),
            toks := s3.toks + 1 + 1 + 1,
            heap := h'.push go } : Shared) = s5
    have eh : s5.heap = h'.push go := by rw [← hs5]
    have eo : s5.os = s3.os := by rw [← hs5]
    have eb : AllBare s5.gens := by rw [← hs5]; exact I3.bare.push rfl
    have I5 := gen_start (s' := s5) (code := code) I3 S f3 (by rw [eh]; exact hn'.push _) (fun b o e => by rw [eh]; exact keep5 b o e) eo eb
    have aL : h'.objs.size ≠ s3.heap.objs.size := by omega
    have aF : h'.objs.size ∉ frs X.stack := fun hm => by
      obtain ⟨_, o, ho, _⟩ := I3.stack.mem hm
      have h9 : h'.objs.size < s3.heap.objs.size := Heap.lt_size ho
      omega
    have aH : H3 h'.objs.size = none := I3.hok.fresh (by omega)
    have I6 : Inv (Cx.gen X s3 H3 (gEnv X scope s3.heap.objs.size code) fp x) [(h'.objs.size, go)] (σ ++ [none]) H3 s5 := I5.pins_of fun p hp => by
      rw [List.mem_singleton.mp hp]
      exact ⟨by rw [eh]; exact gob, aH, aL, aF, fun v z => by rw [← hgo] at z; cases z⟩
    have st5 : tn 0 s5.heap := T.keep _ _ _ st2 fun b hb o e => by rw [eh]; exact keep5 b o (keep3 b o (nfP b hb) e)
    refine hQ h'.objs.size s3.gens.size s5 _ [(h'.objs.size, go)] (σ ++ [none]) fp tn W go (m0 + 1) (List.mem_singleton.mpr rfl) hG (hG _ (by rw [eh]; exact gob)) ⟨⟨H3, I6⟩, hG _ (by rw [eh]; exact gob),
      .fresh (.compStart (.GeneratorExp elt [⟨.Name x px, iter, [], 0⟩] scope gpos) 0 (.ref it) .none (gEnv X scope s3.heap.objs.size code)), ?_, fun s'' e1 e2 e3 => ⟨rfl, ?_⟩⟩ fun H' s' I' => ?_
    · rw [← hs5]; exact Array.getElem?_push_size ..
    · refine seg_first (cenv := gEnv X scope s3.heap.objs.size code) hc T ?_ S.nd S.loc S.co (he s3 H3 _ code fp) turn (m0 + 1) m0 s'' s'' H3 (Nat.lt_succ_self _) (Inv.regen I6 e1 e2 e3) (by rw [e1]; exact st5) (fun b hb => (f3 b hb).1.1) w0
      intro p hp b hb z
      rw [List.mem_singleton.mp hp] at z
      have h9 : b < s3.heap.objs.size := (f3 b hb).2
      have h8 : h'.objs.size < s3.heap.objs.size := Eq.mp (congrArg (fun (n : Nat) => n < s3.heap.objs.size) (show b = h'.objs.size from z.symm)) h9
      omega
    · exact I3.call' (ch := fp) I'.os I'.base I'.hok I'.bare fun b hb => ⟨(f3 b hb).1.2.2.2.1, (f3 b hb).1.2.1, (f3 b hb).1.2.2.2.2.1, (f3 b hb).1.2.2.2.2.2⟩
  cases hf : codeAmong gpos ps.toList with
  | none =>
    refine wpAny_genexprCodeX hcode (cd.code hPs ht) (cd.tab hPs) hf fun c' h' tk hx hge hlt hco' _ htab' _ => ?_
    obtain ⟨o1, vs, f1, tf, fl, tg, inF, tx, tt, op, _, _, _, _, _, _, _, _, _, htr, _⟩ := hco'
    have J3 := inv_tab (more := #[rawInt gpos.line, rawInt gpos.col, .ref c']) (h' := h') (g' := s2.gens) (d' := s2.drawn) (t' := tk) I2 hP (fun b o hb e => hx b o hb e) htab'.2 I2.bare
    exact cont _ _ _ ⟨⟨_, upd_same, htr⟩, fun b hb => upd_ne hb⟩ J3 fun b o hb e => hx b o hb e
  | some cv =>
    refine wpAny_genexprCode_hit hcode (cd.code hPs ht) hf ?_
    exact cont cv s2 H2 ⟨⟨ps, hP, ht⟩, fun b _ => rfl⟩ I2 fun b o _ e => e

theorem pe_anyE {c P : Addr} {elt iter : Expr} {x : Str} {px p pos gpos : Pos} {scope : Scope} {wi : TI} {te : TE} {k : Nat}
    (hc : X.calm = true) (hr : Room k X.A) (hg : Gl X "any") (hm : X.mg "any" = none) (TB : TabB X.base X.mg c P) (hcode : X.env.code = .ref c) (S : GSc X.N X.env.scope scope x) (hi : PI X (.Name x px) iter wi)
    (he : ∀ (s : Shared) (H : Hp) (C : Addr) (code : Value) (fp : List Addr), PE (Cx.gen X s H (gEnv X scope C code) fp x) elt te)
    (hs : ∀ v, genFold iter X.env v = pure v)
    (hst : starEach [.GeneratorExp elt [⟨.Name x px, iter, [], 0⟩] scope gpos] X.env = (false, eval (.GeneratorExp elt [⟨.Name x px, iter, [], 0⟩] scope gpos) X.env) :: starEach [] X.env := by rfl) :
    PE X (.Call (.Name "any" p) [.GeneratorExp elt [⟨.Name x px, iter, [], 0⟩] scope gpos] [] pos) (tQuant true P wi te) := by
  refine ⟨fun pins s σ H Q I h => ?_⟩
  refine wpAny_Call_Name_kw (ld_blt I hg hm boot_any ?_)
  refine PyProof.Rows.callWith_builtin1 ?_ hst (by rfl)
  rw [hst]
  show wpAny _ _ (spliced ((false, eval (.GeneratorExp elt [⟨.Name x px, iter, [], 0⟩] scope gpos) X.env) :: backTo pos (starEach [] X.env))) _ _ s
  refine Calls.spliced_cons (gen_made hc hr TB hcode S hi he hs I h fun a g s5 XG pn σ0 fp tn W go n hgo hG hg5 j back => ?_)
  refine Calls.spliced_nil ?_
  refine call_function_tree PySem.F.kind_any PySem.F.plain_any PySem.F.entry_any (PySem.F.args_any1 _) ?_
  unfold Builtin.«any»
  refine wpAny_bind (m := oneArg "any" _) (wpAny_pure ?_)
  refine wpAny_bind (wpAny_pyIter_gen hg5 ?_)
  exact wpAny_pure ⟨plainId_quiet PySem.F.plain_any_loop _, any_turns (I.ok.hd hc) hr.depth hgo hG (fun H' s' I' q => ⟨.bl true, H', back H' s' I', rfl, q⟩) (fun H' s' I' q => ⟨.bl false, H', back H' s' I', rfl, q⟩) n s5 j⟩
theorem pe_allE {c P : Addr} {elt iter : Expr} {x : Str} {px p pos gpos : Pos} {scope : Scope} {wi : TI} {te : TE} {k : Nat}
    (hc : X.calm = true) (hr : Room k X.A) (hg : Gl X "all") (hm : X.mg "all" = none) (TB : TabB X.base X.mg c P) (hcode : X.env.code = .ref c) (S : GSc X.N X.env.scope scope x) (hi : PI X (.Name x px) iter wi)
    (he : ∀ (s : Shared) (H : Hp) (C : Addr) (code : Value) (fp : List Addr), PE (Cx.gen X s H (gEnv X scope C code) fp x) elt te)
    (hs : ∀ v, genFold iter X.env v = pure v)
    (hst : starEach [.GeneratorExp elt [⟨.Name x px, iter, [], 0⟩] scope gpos] X.env = (false, eval (.GeneratorExp elt [⟨.Name x px, iter, [], 0⟩] scope gpos) X.env) :: starEach [] X.env := by rfl) :
    PE X (.Call (.Name "all" p) [.GeneratorExp elt [⟨.Name x px, iter, [], 0⟩] scope gpos] [] pos) (tQuant false P wi te) := by
  refine ⟨fun pins s σ H Q I h => ?_⟩
  refine wpAny_Call_Name_kw (ld_blt I hg hm boot_all ?_)
  refine PyProof.Rows.callWith_builtin1 ?_ hst (by rfl)
  rw [hst]
  show wpAny _ _ (spliced ((false, eval (.GeneratorExp elt [⟨.Name x px, iter, [], 0⟩] scope gpos) X.env) :: backTo pos (starEach [] X.env))) _ _ s
  refine Calls.spliced_cons (gen_made hc hr TB hcode S hi he hs I h fun a g s5 XG pn σ0 fp tn W go n hgo hG hg5 j back => ?_)
  refine Calls.spliced_nil ?_
  refine call_function_tree PySem.F.kind_all PySem.F.plain_all PySem.F.entry_all (PySem.F.args_all1 _) ?_
  unfold Builtin.«all»
  refine wpAny_bind (m := oneArg "all" _) (wpAny_pure ?_)
  refine wpAny_bind (wpAny_pyIter_gen hg5 ?_)
  exact wpAny_pure ⟨plainId_quiet PySem.F.plain_all_loop _, all_turns (I.ok.hd hc) hr.depth hgo hG (fun H' s' I' q => ⟨.bl false, H', back H' s' I', rfl, q⟩) (fun H' s' I' q => ⟨.bl true, H', back H' s' I', rfl, q⟩) n s5 j⟩
end
end GE
set_option Elab.async false
set_option linter.all false
set_option maxRecDepth 100000
set_option maxHeartbeats 4000000
/-! rules that the layer lacks -/
namespace GE
open PySem PySem.Spec PyProof.Rows L2
/-- the signs of a text, each with its place, in a new pair -/
def Ites (x : Str) : It :=
  ⟨fun i _ => i < x.cps.size, fun i H v H' => ∃ T c, v = .ref T ∧ H T = none ∧ H' = upd H T (.tup [.int (i : Nat), .str ⟨#[c]⟩]) ∧ x.cps[i]? = some c, fun i _ => i = x.cps.size⟩
theorem draws_sign {prog : Program} {w : World} {A : Around} (hh : A.handled = none) (it : Addr) (x : Str) (t : Tok) : Draws prog w A it [it] x.cps.size (SignAt x) (fun i h => h.IsStrIter it (strIterType x) x t i) := by
  by_cases ha : strIterType x = "str_ascii_iterator"
  · rw [ha]; exact Draws.strAscii hh it x t
  · have : strIterType x = "str_iterator" := by
      unfold strIterType at ha ⊢
      split
      · rename_i h; rw [if_pos h] at ha; exact absurd rfl ha
      · rfl
    rw [this]; exact Draws.strWide hh it x t
theorem turn_enumS {P : Program} {w : World} {K : PySem.W.Frag} {elts : List Expr} {kk : Nat} {tpos : Pos} (x : Str) (t : Tok) (e it : Addr) (hne : e ≠ it) :
    Turn P w K (.Tuple elts kk tpos) (Ites x) [e, it] e (fun i h => (∃ old, IsEnum h e it ((i : Nat) : Int) old) ∧ h.IsStrIter it (strIterType x) x t i) where
  mem := by simp
  obj := fun i h st b hb => by
    obtain ⟨⟨old, he⟩, ⟨o, ho, hc, hd⟩⟩ := st
    have e' : b = e ∨ b = it := by simpa using hb
    rcases e' with z | z
    · rw [z]; exact ⟨_, he, fun v q => nomatch q⟩
    · rw [z]; exact ⟨o, ho, fun v q => by rw [hd] at q; cases q⟩
  keep := fun i h h' st k => by
    obtain ⟨⟨old, he⟩, ⟨o, ho, r⟩⟩ := st
    exact ⟨⟨old, k e (by simp) _ he⟩, o, k it (by simp) o ho, r⟩
  item := by
    intro X hP hw hK hc i pins s σ H E I hf st hg
    subst hP hw hK
    obtain ⟨⟨old, he⟩, hit⟩ := st
    have hel : e < s.heap.objs.size := Heap.lt_size he
    have hil : it < s.heap.objs.size := by obtain ⟨_, q, _⟩ := hit; exact Heap.lt_size q
    have D := draws_sign (prog := X.prog) (w := X.w) (A := X.A.in1) (I.ok.hd hc) it x t
    refine wpAny_pyNext_enum_itemD D he hit hg hne (by simpa using hne) fun v h' tk hv ho hit' hT hsz hk => ?_
    obtain ⟨c, u, hcx, rfl⟩ := hv
    refine ⟨_, rfl, wpAny_letOwnedTupleGo_enum (s := { s with heap := h', toks := tk + 1 }) ho fun h'' he' sb => ?_⟩
    have hT2 : h''.get? s.heap.objs.size = some { cls := .type "tuple", data := .seq #[.int i tk, .str ⟨#[c]⟩ u] } := (sb.2 _ (Nat.ne_of_gt hel)).trans hT
    have new : ObjOk X.prog X.w (upd H s.heap.objs.size (.tup [.int (i : Nat), .str ⟨#[c]⟩])) h'' s.heap.objs.size (.tup [.int (i : Nat), .str ⟨#[c]⟩]) :=
      ⟨by show 2 ≤ sizeLine; decide, [.int i tk, .str ⟨#[c]⟩ u], .cons ⟨_, rfl⟩ (.cons ⟨_, rfl⟩ .nil), ⟨_, hT2, rfl, _, rfl⟩⟩
    have I1 : Inv X pins σ (upd H s.heap.objs.size (.tup [.int (i : Nat), .str ⟨#[c]⟩])) { s with heap := h'', toks := tk + 1 } :=
      I.turnedNew (ch := [e, it]) (fun b ob hb q => (sb.2 b (fun z => hb (by simp [z]))).trans (hk b ob (fun z => hb (by simp [z])) (fun z => hb (by simp [z])) q)) hf (Nat.le_refl _) new
    refine ⟨.ref s.heap.objs.size, _, I1, rfl, ⟨_, c, rfl, I.hok.fresh (Nat.le_refl _), rfl, hcx⟩, ⟨⟨.str ⟨#[c]⟩ u, ?_⟩, ?_⟩, fun b hb => ?_⟩
    · have e1 : ((i + 1 : Nat) : Int) = (i : Int) + 1 := by omega
      rw [e1]; exact he'
    · obtain ⟨o, q, r⟩ := hit'
      exact ⟨o, (sb.2 it (Ne.symm hne)).trans q, r⟩
    · have hb' : b < s.heap.objs.size := by
        have e' : b = e ∨ b = it := by simpa using hb
        rcases e' with z | z
        · rw [z]; exact hel
        · rw [z]; exact hil
      rw [upd_ne (Nat.ne_of_lt hb')]
      exact (hf b hb).1
  done := by
    intro X hP hw hK hc i pins s σ H E I hf st hg
    subst hP hw hK
    obtain ⟨⟨old, he⟩, hit⟩ := st
    obtain ⟨f0, f1, f2, f3, f4, f5⟩ := hf it (by simp)
    have D := draws_sign (prog := X.prog) (w := X.w) (A := X.A.in1) (I.ok.hd hc) it x t
    obtain rfl : i = x.cps.size := hg
    exact wpAny_pyNext_enum_endD D he hit fun h' eb => ⟨rfl, I.turned (t' := s.toks) (fun b o hb q => eb b o hb q) f0 f1 f3 f4 f5⟩
  self := fun A i s Q E st h => let ⟨⟨_, he⟩, _⟩ := st; wpAny_pyIter_enum he h
def iEnumS (ta : TA) : TI := fun σ H R => ta σ H fun vs H1 => ∃ x : Str, vs = [.str x] ∧ R (Ites x) H1
theorem pi_enumS {X : Cx} {e : Expr} {ta : TA} {p pos tpos : Pos} {elts : List Expr} {kk : Nat} (hg : Gl X "enumerate") (hm : X.mg "enumerate" = none) (ha : PA X [e] ta) (hs : starEach [e] X.env = [(false, eval e X.env)] := by rfl) :
    PI X (.Tuple elts kk tpos) (.Call (.Name "enumerate" p) [e] [] pos) (iEnumS ta) := by
  refine ⟨fun pins s σ H R I h => ?_⟩
  refine Call_ (ld_blt I hg hm boot_enumerate (PyProof.Rows.callWith_type1 (thn (ha.run pos pins s σ H _ I h) fun us s1 ⟨vs, H1, I1, r1, q1⟩ => ?_) hs rfl))
  obtain ⟨x, ex, q⟩ := q1
  subst ex
  cases r1 with
  | cons r rr =>
    cases rr
    obtain ⟨t, rfl⟩ := r
    refine call_enumerate_str fun h' he hit hsz hk => wpAny_pyIter_enum he ?_
    have I2 : Inv X pins σ H1 { s1 with heap := h' } := I1.kept (t' := s1.toks) hk
    refine ⟨s1.heap.objs.size + 1, [s1.heap.objs.size + 1, s1.heap.objs.size], _, _, H1, rfl, I2, turn_enumS x t (s1.heap.objs.size + 1) s1.heap.objs.size (Nat.succ_ne_self _), ⟨⟨.none, he⟩, hit⟩, fun b hb => ?_, q⟩
    have hle : s1.heap.objs.size ≤ b := by
      rcases List.mem_cons.mp hb with z | z
      · rw [z]; exact Nat.le_add_right _ _
      · rw [List.mem_singleton.mp z]; exact Nat.le_refl _
    exact I1.fpOk hle (I1.hok.fresh hle)

/-! ### len(set(text)) -/
def sig (a : Str) (i : Nat) : Str := ⟨#[a.cps.getD i 0]⟩
/-- is k among the first i signs of a -/
def seenS (a : Str) : Nat → Str → Bool
  | 0, _ => false
  | i + 1, k => seenS a i k || decide (k = sig a i)
/-- how many unlike signs the first i are -/
def unlike (a : Str) : Nat → Nat
  | 0 => 0
  | i + 1 => if seenS a i (sig a i) = true then unlike a i else unlike a i + 1
theorem unlike_le (a : Str) : ∀ i, unlike a i ≤ i
  | 0 => Nat.le_refl _
  | i + 1 => by have := unlike_le a i; unfold unlike; split <;> omega
section
variable {prog : Program} {w : World} {A : Around} {R : Result → Shared → Prop} {I S : Addr}
theorem set_turns {a : Str} {t : Tok} (W : WalksS prog w A.in1 I [I] [I] (fun a b => b = a) a.cps.size (SignAt a) (fun i s => s.heap.IsStrIter I (strIterType a) a t i)) (hSI : S ≠ I) (hm : a.cps.size ≤ 100) :
    ∀ (k i : Nat) (s : Shared), a.cps.size - i = k → i ≤ a.cps.size → s.heap.IsStrIter I (strIterType a) a t i → s.heap.SetOf (PySem.strKind prog w) S (seenS a i) (unlike a i) →
      (∀ s', Moved [S, I] (fun a b => b = a) s s' → s'.heap.SetOf (PySem.strKind prog w) S (seenS a a.cps.size) (unlike a a.cps.size) → R (.ok (.ret .none)) s') →
      codeAny (model prog w) A (.builtin "set.update.loop" ⟨[.ref S, .ref I], []⟩) R s := by
  have hSw : S ∉ [I] := by simpa using hSI
  have sub : ∀ b ∈ [I], b ∈ [S, I] := fun b hb => List.mem_cons_of_mem _ hb
  have keepS : ∀ {s s' : Shared} {T : Str → Bool} {n : Nat}, Moved [I] (fun a b => b = a) s s' → s.heap.SetOf (PySem.strKind prog w) S T n → s'.heap.SetOf (PySem.strKind prog w) S T n := fun hm ⟨o, es, ep, tb, ho, rest⟩ => ⟨o, es, ep, tb, hm.heap S _ hSw ho, rest⟩
  intro k
  induction k with
  | zero =>
    intro i s hk hi hst hS hR
    obtain rfl : i = a.cps.size := by omega
    refine codeAny_builtin PyProof.Rows.F.entry_set_update_loop ?_
    rw [Around.under_plainId PyProof.Rows.F.plain_set_update_loop _]
    show wpAny _ A.in1 (pyNext (.ref I) >>= _) _ _ s
    refine wpAny_bind (W.done s _ _ hst fun s' hm => ?_)
    exact wpAny_pure (hR s' (hm.mono sub) (keepS hm hS))
  | succ k ih =>
    intro i s hk hi hst hS hR
    have hlt : i < a.cps.size := by omega
    refine codeAny_builtin PyProof.Rows.F.entry_set_update_loop ?_
    rw [Around.under_plainId PyProof.Rows.F.plain_set_update_loop _]
    show wpAny _ A.in1 (pyNext (.ref I) >>= _) _ _ s
    refine wpAny_bind (W.item i s _ _ hlt hst fun v s' hP hst' hm => ?_)
    obtain ⟨c, u, hc, rfl⟩ := hP
    have ec : (⟨#[c]⟩ : Str) = sig a i := by
      unfold sig
      obtain ⟨h1, h2⟩ := Array.getElem?_eq_some_iff.mp hc
      simp [Array.getD, h1, h2]
    rw [ec]
    show wpAny _ A.in1 (holding [Value.str (sig a i) u] (setAdd S (.str (sig a i) u)) >>= _) _ _ s'
    refine wpAny_bind (wpAny_holding ?_)
    unfold setAdd
    refine wpAny_holding ?_
    refine wpAny_bind ((PySem.strKind prog w).pyHash (k := sig a i) (strKind_is _ _ _ _) ?_)
    have hu := unlike_le a i
    refine wpAny_setAddHashed_of (knd := PySem.strKind prog w) (s := { s' with toks := s'.toks + 1 }) (strKind_is _ _ _ _) rfl (show s'.heap.SetOf _ _ _ _ from keepS hm hS) (by unfold scanBound; omega) fun h' hsb hS2 => ?_
    refine wpAny_pure ⟨plainId_quiet PyProof.Rows.F.plain_set_update_loop _, ih (i + 1) _ (by omega) hlt ?_ hS2 fun s'' hm'' hS'' => ?_⟩
    · obtain ⟨o, ho, r⟩ := hst'
      exact ⟨o, (hsb.2 I (Ne.symm hSI)).trans ho, r⟩
    · refine hR s'' (Moved.trans (fun _ _ _ x y => y.trans x) ((hm.mono sub).then_heap (Nat.le_succ _) fun b o hb e => ?_) hm'') hS''
      exact (hsb.2 b (fun h => hb (by rw [h]; exact List.mem_cons_self))).trans e
end

section
variable {prog : Program} {w : World} {A : Around} {E : Value → Shared → Prop} {s : Shared}
theorem sub_str_set : isSubtype (.type "str") (.type "set") = pure false := by rw [isSubtype_type]; kernel_rfl
theorem sub_str_frozenset : isSubtype (.type "str") (.type "frozenset") = pure false := by rw [isSubtype_type]; kernel_rfl
theorem call_set_text {a : Str} {t : Tok} {Q : Value → Shared → Prop} (hh : A.handled = none) (hm : a.cps.size ≤ 100)
    (h : ∀ (h' : Heap) (tk : Nat), h'.SetOf (PySem.strKind prog w) s.heap.objs.size (seenS a a.cps.size) (unlike a a.cps.size) →
      (∀ b o, b < s.heap.objs.size → s.heap.get? b = some o → h'.get? b = some o) → Q (.ref s.heap.objs.size) { s with heap := h', toks := tk }) :
    wpAny (model prog w) A (call (.type "set") [.str a t]) Q E s := by
  obtain ⟨c, tl, hmro⟩ := PySem.F.called_set.mro
  have made := PySem.F.called_set.made
  have ofT := PySem.F.called_set.sub
  refine wpAny_call (codeAny_of_tree ?_)
  show wpAny _ _ (callAny (.type "set") _) _ _ _
  refine wpAny_pure ⟨Code.quiet_builtin _ (by decide +kernel), codeAny_builtin PySem.F.entry_type_call ?_⟩
  rw [Around.under_plain (weight_type_call_type "set" [.str a t] []) rfl]
  have notT := PySem.F.called_set.notType
  have can := PySem.F.called_set.canCreate
  have chk := PySem.F.typeCall_set_1 (.str a t)
  repeat (any_goals (first | assumption | wp_step))
  refine codeAny_mono (code_set_new_1 (.str a t) (E := E) (Q₁ := fun obj s₁ => ∃ led : Bool, obj = .ref s.heap.objs.size ∧ s₁ = { s with heap := s.heap.push { cls := .type "set", dict := none, data := .set #[] 0 (.fresh 0 0 led) } }) fun led => ⟨led, rfl, rfl⟩) fun r s₁ hr => ?_
  cases r with
  | error e => exact hr
  | ok fl =>
    cases fl with
    | ret obj =>
      obtain ⟨led, rfl, rfl⟩ := hr
      generalize hob : ({ cls := .type "set", dict := none, data := .set #[] 0 (.fresh 0 0 led) } : Obj) = ob
      have at0 : (s.heap.push ob).get? s.heap.objs.size = some ob := Heap.get?_push_size _ (by rw [← hob]; rfl)
      have ty0 : Shared.TypeIs { s with heap := s.heap.push ob } (.ref s.heap.objs.size) "set" := ⟨_, at0, by rw [← hob]⟩
      have look := PySem.F.called_set.init.lookup
      have bnd := PySem.F.called_set.init.bind (.ref s.heap.objs.size)
      repeat (any_goals (first | assumption | wp_step))
      refine codeAny_mono (codeAny_call_builtin (R := wants (fun r s₂ => r = .none ∧ ∃ h' tk, s₂ = { s with heap := h', toks := tk } ∧
          h'.SetOf (PySem.strKind prog w) s.heap.objs.size (seenS a a.cps.size) (unlike a a.cps.size) ∧
          (∀ b o, b < s.heap.objs.size → s.heap.get? b = some o → h'.get? b = some o)) E) PySem.F.called_set.init.plain PySem.F.entry_set_init (check_set_init_1 ty0 ?_)) fun r₂ s₂ hr₂ => ?_
      · have s1 := sub_str_set
        have s2 := sub_str_frozenset
        have nd : (Value.type "str" == Value.type "dict") = false := by decide
        subst hob
        unfold Builtin.«set.__init__» noKeywords Builtin.Frozenset.updateFrom
        generalize hPI : pyIter = PI
        wp_walk
        subst hPI
        generalize hob : ({ cls := .type "set", dict := none, data := .set #[] 0 (.fresh 0 0 led) } : Obj) = ob at at0 ty0 ⊢
        refine wpAny_pyIter_strU ?_
        refine wpAny_bind (wpAny_runValue ?_)
        have hh3 : A.in1.in1.in1.handled = none := by simp [hh]
        have hIe : (s.heap.push ob).objs.size = s.heap.objs.size + 1 := Heap.size_push ..
        have W : Walks prog w A.in1.in1.in1 (s.heap.push ob).objs.size [(s.heap.push ob).objs.size] [(s.heap.push ob).objs.size] a.cps.size (SignAt a) (fun i h => h.IsStrIter (s.heap.push ob).objs.size (strIterType a) a t i) := by
          by_cases ha : strIterType a = "str_ascii_iterator"
          · rw [ha]; exact Walks.strAscii hh3 _ a t
          · have : strIterType a = "str_iterator" := by
              unfold strIterType at ha ⊢
              split
              · rename_i h; rw [if_pos h] at ha; exact absurd rfl ha
              · rfl
            rw [this]; exact Walks.strWide hh3 _ a t
        refine set_turns W.toS (by rw [hIe]; exact Nat.ne_of_lt (Nat.lt_succ_self _)) hm (a.cps.size - 0) 0 _ rfl (Nat.zero_le _) ⟨_, Heap.get?_push_size _ rfl, rfl, rfl⟩ ?hS0 ?hR
        case hS0 =>
          have at1 : ((s.heap.push ob).push { cls := .type (strIterType a), data := .fields #[.str a t, .int 0 0] }).get? s.heap.objs.size = some ob := Heap.get?_push_of_some _ at0
          subst hob
          exact PyProof.Rows.SetOf_congr ((PyProof.Rows.setObjOf_fresh (knd := PySem.strKind prog w) led).setOf at1 (by unfold scanBound; omega)) (fun _ => rfl) rfl
        case hR =>
          intro s' hm hS'
          obtain ⟨h', g', d', tk', os'⟩ := s'
          obtain rfl : g' = s.gens := hm.gens
          obtain rfl : d' = s.drawn := hm.drawn
          obtain rfl : os' = s.os := hm.os
          show wpAny _ _ _ _ _ _
          refine wpAny_pure ?_
          show wpAny _ _ (ret Value.none) _ _ _
          refine wpAny_pure ⟨rfl, h', tk', rfl, hS', fun b o hb e => ?_⟩
          refine hm.heap b o (fun hmem => ?_) (Heap.get?_push_of_some _ (Heap.get?_push_of_some _ e))
          rcases List.mem_cons.mp hmem with z | z
          · exact absurd hb (by rw [z]; exact Nat.lt_irrefl _)
          · rw [List.mem_singleton.mp z, hIe] at hb
            exact absurd (Nat.lt_of_succ_lt hb) (Nat.lt_irrefl _)
      · cases r₂ with
        | error e => exact hr₂
        | ok fl₂ =>
          cases fl₂ with
          | ret r =>
            obtain ⟨rfl, h', tk, rfl, hS', hk'⟩ := hr₂
            repeat (any_goals (first | assumption | wp_step))
            exact h _ _ hS' hk'
          | _ => exact hr₂.elim
    | _ => exact hr.elim
end
section
variable {X : Cx}
def tLenSetT (ta : TE) : TE := fun σ H Q => ta σ H fun x H1 => ∃ a : Str, x = .str a ∧ a.cps.size ≤ 100 ∧ Q (.int (unlike a a.cps.size : Nat)) H1
theorem pe_lenSetT {a : Expr} {ta : TE} {p p2 q pos : Pos} (hc : X.calm = true) (hg : Gl X "len") (hm : X.mg "len" = none) (hg2 : Gl X "set") (hm2 : X.mg "set" = none) (ha : PE X a ta)
    (na : starEach [a] X.env = (false, eval a X.env) :: starEach [] X.env := by rfl) : PE X (.Call (.Name "len" p) [.Call (.Name "set" p2) [a] [] q] [] pos) (tLenSetT ta) := by
  refine ⟨fun pins s σ H Q I h => ?_⟩
  refine Call_ (ld_blt I hg hm boot_len ?_)
  refine PyProof.Rows.callWith_builtin1 (PyProof.Rows.args_cons ?_ rfl) rfl rfl
  refine Call_ (ld_blt I hg2 hm2 boot_set ?_)
  refine PyProof.Rows.callWith_type1 (PyProof.Rows.args_cons (thn (ha.run pins s σ H _ I h) fun v s1 ⟨x, H1, I1, r1, a, ea, hz, q1⟩ => PyProof.Rows.args_nil ?_) na) na rfl
  subst ea
  obtain ⟨t, rfl⟩ := r1
  refine call_set_text (I1.ok.hd hc) hz fun h' tk hS hk => ?_
  refine PyProof.Rows.args_nil ?_
  obtain ⟨o, es, ep, tb, ho, hex, hd, _, _, _, hf, hn⟩ := hS
  have I2 : Inv X pins σ H1 { s1 with heap := h', toks := tk } := I1.kept fun b o e => hk b o (Heap.lt_size e) e
  have hu := unlike_le a a.cps.size
  refine call_len_set ho hex hd hf (by rw [hn] <;> omega) ⟨.int _, H1, I2.tok _, ⟨_, by rw [hn]⟩, q1⟩
end
end GE
set_option Elab.async false
set_option linter.all false
set_option maxRecDepth 100000
/-! patterns, and which stretches of a text fit them -/
namespace Bo
open PySem L2
inductive Pat where
  | none | empty
  | sign (c : Nat)
  | row (ps : List Pat) | or (ps : List Pat) | and (ps : List Pat)
  | many (p : Pat) | not (p : Pat)
mutual
def Pat.dep : Pat → Nat
  | .row ps => depL ps + 1
  | .or ps => depL ps + 1
  | .and ps => depL ps + 1
  | .many p => p.dep + 1
  | .not p => p.dep + 1
  | _ => 1
def depL : List Pat → Nat
  | [] => 0
  | p :: ps => max p.dep (depL ps)
end
mutual
def Pat.size : Pat → Nat
  | .row ps => sizeL ps + 1
  | .or ps => sizeL ps + 1
  | .and ps => sizeL ps + 1
  | .many p => p.size + 1
  | .not p => p.size + 1
  | _ => 1
def sizeL : List Pat → Nat
  | [] => 0
  | p :: ps => p.size + sizeL ps
end
mutual
theorem dep_le_size : ∀ p : Pat, p.dep ≤ p.size
  | .row ps => Nat.succ_le_succ (depL_le_size ps)
  | .or ps => Nat.succ_le_succ (depL_le_size ps)
  | .and ps => Nat.succ_le_succ (depL_le_size ps)
  | .many p => Nat.succ_le_succ (dep_le_size p)
  | .not p => Nat.succ_le_succ (dep_le_size p)
  | .none => Nat.le_refl _
  | .empty => Nat.le_refl _
  | .sign _ => Nat.le_refl _
theorem depL_le_size : ∀ ps : List Pat, depL ps ≤ sizeL ps
  | [] => Nat.le_refl _
  | p :: ps => Nat.max_le.mpr ⟨Nat.le_trans (dep_le_size p) (Nat.le_add_right _ _), Nat.le_trans (depL_le_size ps) (Nat.le_add_left _ _)⟩
end
theorem dep_pos (p : Pat) : 1 ≤ p.dep := by cases p <;> simp [Pat.dep]
theorem size_pos (p : Pat) : 1 ≤ p.size := by cases p <;> simp [Pat.size]
theorem dep_mem {p : Pat} : ∀ {ps : List Pat}, p ∈ ps → p.dep ≤ depL ps
  | q :: ps, h => by
    rcases List.mem_cons.mp h with e | h
    · rw [e]; exact Nat.le_max_left _ _
    · exact Nat.le_trans (dep_mem h) (Nat.le_max_right _ _)
/-- from i to j by steps of R -/
inductive Star (R : Nat → Nat → Prop) : Nat → Nat → Prop
  | refl (i : Nat) : Star R i i
  | step {i j k : Nat} : R i j → Star R j k → Star R i k
theorem Star.trans {R : Nat → Nat → Prop} {i j k : Nat} (a : Star R i j) (b : Star R j k) : Star R i k := by
  induction a with
  | refl => exact b
  | step h _ ih => exact .step h (ih b)
theorem Star.snoc {R : Nat → Nat → Prop} {i j k : Nat} (a : Star R i j) (b : R j k) : Star R i k := a.trans (.step b (.refl _))
mutual
/-- the stretch of t from i to j fits the pattern -/
def M (t : List Nat) : Pat → Nat → Nat → Prop
  | .none => fun _ _ => False
  | .empty => fun i j => i = j
  | .sign c => fun i j => t[i]? = some c ∧ j = i + 1
  | .row ps => fun i j => MRow t ps i j
  | .or ps => fun i j => MOr t ps i j
  | .and ps => fun i j => i ≤ j ∧ j ≤ t.length ∧ MAnd t ps i j
  | .many p => fun i j => Star (fun a b => M t p a b) i j
  | .not p => fun i j => i ≤ j ∧ j ≤ t.length ∧ ¬ M t p i j
def MRow (t : List Nat) : List Pat → Nat → Nat → Prop
  | [] => fun i j => i = j
  | p :: ps => fun i j => ∃ k, M t p i k ∧ MRow t ps k j
def MOr (t : List Nat) : List Pat → Nat → Nat → Prop
  | [] => fun _ _ => False
  | p :: ps => fun i j => M t p i j ∨ MOr t ps i j
def MAnd (t : List Nat) : List Pat → Nat → Nat → Prop
  | [] => fun _ _ => True
  | p :: ps => fun i j => M t p i j ∧ MAnd t ps i j
end
theorem star_bound {R : Nat → Nat → Prop} {n : Nat} (h : ∀ i j, i ≤ n → R i j → i ≤ j ∧ j ≤ n) {i j : Nat} (s : Star R i j) : i ≤ n → i ≤ j ∧ j ≤ n := by
  induction s with
  | refl => intro hi; exact ⟨Nat.le_refl _, hi⟩
  | step r _ ih =>
    intro hi
    obtain ⟨h1, h2⟩ := h _ _ hi r
    obtain ⟨h3, h4⟩ := ih h2
    exact ⟨Nat.le_trans h1 h3, h4⟩
mutual
theorem M_bound (t : List Nat) : ∀ (p : Pat) (i j : Nat), i ≤ t.length → M t p i j → i ≤ j ∧ j ≤ t.length
  | .none, i, j, hi, h => by simp [M] at h
  | .empty, i, j, hi, h => by
    have h : i = j := h
    subst h; exact ⟨Nat.le_refl _, hi⟩
  | .sign c, i, j, hi, h => by
    obtain ⟨h1, h2⟩ : t[i]? = some c ∧ j = i + 1 := h
    have := (List.getElem?_eq_some_iff.mp h1).1
    omega
  | .row ps, i, j, hi, h => MRow_bound t ps i j hi h
  | .or ps, i, j, hi, h => MOr_bound t ps i j hi h
  | .and ps, i, j, hi, h => ⟨h.1, h.2.1⟩
  | .many p, i, j, hi, h => star_bound (R := fun a b => M t p a b) (fun a b ha hab => M_bound t p a b ha hab) h hi
  | .not p, i, j, hi, h => ⟨h.1, h.2.1⟩
theorem MRow_bound (t : List Nat) : ∀ (ps : List Pat) (i j : Nat), i ≤ t.length → MRow t ps i j → i ≤ j ∧ j ≤ t.length
  | [], i, j, hi, h => by
    have h : i = j := h
    subst h; exact ⟨Nat.le_refl _, hi⟩
  | p :: ps, i, j, hi, h => by
    obtain ⟨k, h1, h2⟩ := h
    obtain ⟨a, b⟩ := M_bound t p i k hi h1
    obtain ⟨c, d⟩ := MRow_bound t ps k j b h2
    exact ⟨Nat.le_trans a c, d⟩
theorem MOr_bound (t : List Nat) : ∀ (ps : List Pat) (i j : Nat), i ≤ t.length → MOr t ps i j → i ≤ j ∧ j ≤ t.length
  | [], i, j, hi, h => by simp [MOr] at h
  | p :: ps, i, j, hi, h => by
    rcases h with h | h
    · exact M_bound t p i j hi h
    · exact MOr_bound t ps i j hi h
end
mutual
/-- the value stands for the pattern -/
def PatAt (H : Hp) : Pat → V → Prop
  | .none => fun v => ∃ a, v = .ref a ∧ H a = some (.tup [.str "none"])
  | .empty => fun v => ∃ a, v = .ref a ∧ H a = some (.tup [.str "empty"])
  | .sign c => fun v => ∃ a, v = .ref a ∧ H a = some (.tup [.str "sign", .str ⟨#[c]⟩])
  | .row ps => fun v => ∃ a b vs, v = .ref a ∧ H a = some (.tup [.str "row", .ref b]) ∧ H b = some (.tup vs) ∧ PatsAt H ps vs
  | .or ps => fun v => ∃ a b vs, v = .ref a ∧ H a = some (.tup [.str "or", .ref b]) ∧ H b = some (.tup vs) ∧ PatsAt H ps vs
  | .and ps => fun v => ∃ a b vs, v = .ref a ∧ H a = some (.tup [.str "and", .ref b]) ∧ H b = some (.tup vs) ∧ PatsAt H ps vs
  | .many p => fun v => ∃ a u, v = .ref a ∧ H a = some (.tup [.str "many", u]) ∧ PatAt H p u
  | .not p => fun v => ∃ a u, v = .ref a ∧ H a = some (.tup [.str "not", u]) ∧ PatAt H p u
def PatsAt (H : Hp) : List Pat → List V → Prop
  | [] => fun vs => vs = []
  | p :: ps => fun vs => ∃ v r, vs = v :: r ∧ PatAt H p v ∧ PatsAt H ps r
end
/-- all but the tables of code stays; the tables may grow -/
structure Ext (H H' : Hp) : Prop where
  keep : ∀ b o, H b = some o → (∀ ps, o ≠ .tbl ps) → H' b = some o
  tab : ∀ b, GxR.TabG H b → GxR.TabG H' b
  there : ∀ b o, H b = some o → ∃ o', H' b = some o'
theorem Ext.refl (H : Hp) : Ext H H := ⟨fun _ _ h _ => h, fun _ h => h, fun _ o h => ⟨o, h⟩⟩
theorem Ext.trans {H H1 H2 : Hp} (a : Ext H H1) (b : Ext H1 H2) : Ext H H2 := ⟨fun c o h n => b.keep c o (a.keep c o h n) n, fun c h => b.tab c (a.tab c h), fun c o h => let ⟨o', h'⟩ := a.there c o h; b.there c o' h'⟩
theorem Ext.new {H : Hp} {p : Addr} {o : HO} (h : H p = Option.none) : Ext H (upd H p o) :=
  ⟨fun b u q _ => by rw [upd_ne (ne_of_none q h)]; exact q, fun b ⟨ps, q, t⟩ => ⟨ps, by rw [upd_ne (ne_of_none q h)]; exact q, t⟩, fun b u q => ⟨u, by rw [upd_ne (ne_of_none q h)]; exact q⟩⟩
/-- a list of ours is written -/
theorem Ext.wr {H0 H : Hp} {p : Addr} {o : HO} (e : Ext H0 H) (h : H0 p = Option.none) : Ext H0 (upd H p o) :=
  ⟨fun b u q n => by rw [upd_ne (ne_of_none q h)]; exact e.keep b u q n, fun b q => by
    obtain ⟨ps, z, _⟩ := id q
    obtain ⟨ps', z', t'⟩ := e.tab b q
    exact ⟨ps', by rw [upd_ne (ne_of_none z h)]; exact z', t'⟩, fun b u q => let ⟨u', z⟩ := e.there b u q; ⟨u', by rw [upd_ne (ne_of_none q h)]; exact z⟩⟩
theorem Ext.tabbed {P : Addr} {H H' : Hp} (h0 : GxR.TabG H P) (h : GxR.Tabbed P H H') : Ext H H' :=
  ⟨fun b o q n => by
    by_cases e : b = P
    · subst e
      obtain ⟨ps, z, _⟩ := h0
      rw [q] at z
      exact absurd (Option.some.inj z) (n ps)
    · rw [h.2 b e]; exact q, fun b q => by
    by_cases e : b = P
    · rw [e]; exact h.1
    · obtain ⟨ps, z, t⟩ := q
      exact ⟨ps, by rw [h.2 b e]; exact z, t⟩, fun b o q => by
    by_cases e : b = P
    · obtain ⟨ps, z, _⟩ := h.1
      exact ⟨_, by rw [e]; exact z⟩
    · exact ⟨o, by rw [h.2 b e]; exact q⟩⟩
theorem Ext.free {H H' : Hp} (e : Ext H H') {l : Addr} (h : H' l = Option.none) : H l = Option.none := by
  cases q : H l with
  | none => rfl
  | some o =>
    obtain ⟨o', z⟩ := e.there l o q
    rw [h] at z
    cases z
theorem Ext.tup {H H' : Hp} (e : Ext H H') {a : Addr} {xs : List V} (h : H a = some (.tup xs)) : H' a = some (.tup xs) := e.keep a _ h (fun ps z => by cases z)
theorem Ext.lst {H H' : Hp} (e : Ext H H') {a : Addr} {xs : List V} (h : H a = some (.lst xs)) : H' a = some (.lst xs) := e.keep a _ h (fun ps z => by cases z)
theorem Ext.sqL {K : PySem.W.Frag} {H H' : Hp} (e : Ext H H') {a : Addr} {xs : List V} (h : SqL K H a xs) : SqL K H' a xs := by
  rcases h with (h | ⟨o, h⟩) | h
  · exact .inl (.inl (e.lst h))
  · exact .inl (.inr ⟨o, e.keep _ _ h (fun ps z => by cases z)⟩)
  · exact .inr h
mutual
theorem PatAt.ext {H H' : Hp} (e : Ext H H') : ∀ (p : Pat) (v : V), PatAt H p v → PatAt H' p v
  | .none, v, h => let ⟨a, h1, h2⟩ := h; ⟨a, h1, e.tup h2⟩
  | .empty, v, h => let ⟨a, h1, h2⟩ := h; ⟨a, h1, e.tup h2⟩
  | .sign c, v, h => let ⟨a, h1, h2⟩ := h; ⟨a, h1, e.tup h2⟩
  | .row ps, v, h => let ⟨a, b, vs, h1, h2, h3, h4⟩ := h; ⟨a, b, vs, h1, e.tup h2, e.tup h3, PatsAt.ext e ps vs h4⟩
  | .or ps, v, h => let ⟨a, b, vs, h1, h2, h3, h4⟩ := h; ⟨a, b, vs, h1, e.tup h2, e.tup h3, PatsAt.ext e ps vs h4⟩
  | .and ps, v, h => let ⟨a, b, vs, h1, h2, h3, h4⟩ := h; ⟨a, b, vs, h1, e.tup h2, e.tup h3, PatsAt.ext e ps vs h4⟩
  | .many p, v, h => let ⟨a, u, h1, h2, h3⟩ := h; ⟨a, u, h1, e.tup h2, PatAt.ext e p u h3⟩
  | .not p, v, h => let ⟨a, u, h1, h2, h3⟩ := h; ⟨a, u, h1, e.tup h2, PatAt.ext e p u h3⟩
theorem PatsAt.ext {H H' : Hp} (e : Ext H H') : ∀ (ps : List Pat) (vs : List V), PatsAt H ps vs → PatsAt H' ps vs
  | [], vs, h => h
  | p :: ps, vs, h => let ⟨v, r, h1, h2, h3⟩ := h; ⟨v, r, h1, PatAt.ext e p v h2, PatsAt.ext e ps r h3⟩
end
theorem PatsAt.len {H : Hp} : ∀ {ps : List Pat} {vs : List V}, PatsAt H ps vs → vs.length = ps.length
  | [], _, h => by rw [show _ = [] from h]; rfl
  | p :: ps, _, ⟨v, r, e, _, h⟩ => by rw [e]; show r.length + 1 = ps.length + 1; rw [h.len]
theorem PatsAt.get {H : Hp} : ∀ {ps : List Pat} {vs : List V} {i : Nat} {v : V}, PatsAt H ps vs → vs[i]? = some v → ∃ p, ps[i]? = some p ∧ PatAt H p v
  | [], _, i, v, h, e => by rw [show _ = [] from h] at e; simp at e
  | p :: ps, _, 0, v, ⟨u, r, e1, h1, _⟩, e => by rw [e1] at e; simp at e; exact ⟨p, rfl, e ▸ h1⟩
  | p :: ps, _, i + 1, v, ⟨u, r, e1, _, h2⟩, e => by
    rw [e1] at e
    obtain ⟨q, h3, h4⟩ := PatsAt.get (i := i) h2 (by simpa using e)
    exact ⟨q, by simpa using h3, h4⟩
mutual
def nullb : Pat → Bool
  | .empty => true
  | .many _ => true
  | .row ps => nullAll ps
  | .and ps => nullAll ps
  | .or ps => nullAny ps
  | .not p => !nullb p
  | _ => false
def nullAll : List Pat → Bool
  | [] => true
  | p :: ps => nullb p && nullAll ps
def nullAny : List Pat → Bool
  | [] => false
  | p :: ps => nullb p || nullAny ps
end
theorem nullAll_eq : ∀ ps : List Pat, nullAll ps = ps.all nullb
  | [] => rfl
  | p :: ps => by rw [nullAll, List.all_cons, nullAll_eq ps]
theorem nullAny_eq : ∀ ps : List Pat, nullAny ps = ps.any nullb
  | [] => rfl
  | p :: ps => by rw [nullAny, List.any_cons, nullAny_eq ps]
theorem iffT {c : Bool} {A B : Prop} (h : c = true) (a : A) : if c = true then A else B := by rw [if_pos h]; exact a
theorem iffF {c : Bool} {A B : Prop} (h : c = false) (b : B) : if c = true then A else B := by rw [if_neg (by rw [h]; exact Bool.false_ne_true)]; exact b
end Bo
set_option Elab.async false
set_option linter.all false
set_option maxRecDepth 100000
set_option maxHeartbeats 4000000
/-! readings in short: a pattern's head, its tests -/
namespace Bo
open PySem PySem.Spec PyProof.Rows L2 GE
abbrev FnP (K : PySem.W.Frag) (x : Str) (st : Stmt) (f : Addr) (fd : FuncData) : Prop := FunD K x x (defArgs st) (defBody st) (defScope st) [] [] f fd
section
variable {P : Program} {w : World} {K : PySem.W.Frag} {mg : Str → Option Value} {base : Heap}
/-- FunD.ok where the code object is known -/
theorem okC {CX : CXT} {x qual : Str} {params : Arguments} {body : List Stmt} {scope : Scope} {dvs : List V} {kws : List (Str × V)} {f : Addr} {fd : FuncData} {N ps : List Str} {k : Nat} {sp : Sp} {c : Addr} (F : FunD K x qual params body scope dvs kws f fd) (hc : fd.code = .ref c) (S : FnScope N ps scope) (len : ∀ vs H Q E, sp vs H Q E → vs.length = ps.length)
    (hbody : ∀ (A : Around) (outer : List Env) (s : Shared) (H : Hp) (vs : List V) (Q : VK) (E : XK), Room k (A.deeper (envOfC qual scope s.heap.objs.size f (.ref c))) → sp vs H Q E →
      ∃ t, PSs (cxOf CX P w K mg base N qual scope f (.ref c) A outer s H E) body t ∧ t { nx := fun _ H' => Q .non H', rt := Q } (start N vs) H) : FnOk P w K mg base CX (k + 1) f fd ps sp := by
  obtain ⟨oc, od, dV, kV, doc, pm, an, cdv, ct, osl, e, lk, hcd, _, _⟩ := F.ex
  subst e
  obtain rfl : cdv = .ref c := hc
  exact fn_of lk hcd S len fun A outer s H vs Q E hr hsp => hbody A outer s H vs Q E hr hsp
/-- FunD.ok for a def that lets nothing out -/
theorem okD {x qual : Str} {params : Arguments} {body : List Stmt} {scope : Scope} {dvs : List V} {kws : List (Str × V)} {f : Addr} {fd : FuncData} {N ps : List Str} {k : Nat} {sp : Sp} (F : FunD K x qual params body scope dvs kws f fd) (S : FnScope N ps scope) (len : ∀ vs H Q E, sp vs H Q E → vs.length = ps.length)
    (hbody : ∀ (cdv : Value) (A : Around) (outer : List Env) (s : Shared) (H : Hp) (vs : List V) (Q : VK) (E : XK), Room k (A.deeper (envOfC qual scope s.heap.objs.size f cdv)) → sp vs H Q E →
      ∃ t, PSs (cxOf CX0 P w K mg base N qual scope f cdv A outer s H E).nox body t ∧ t { nx := fun _ H' => Q .non H', rt := Q } (start N vs) H) : FnOk P w K mg base CX0 (k + 1) f fd ps sp :=
  F.ok S len fun cdv A outer s H vs Q E hr h => let ⟨t, a, b⟩ := hbody cdv A outer s H vs Q E hr h; ⟨t, a.nox, b⟩
end
def Pat.kind : Pat → Str
  | .none => "none" | .empty => "empty" | .sign _ => "sign" | .row _ => "row" | .or _ => "or" | .and _ => "and" | .many _ => "many" | .not _ => "not"
theorem PatAt.hd {H : Hp} : ∀ {p : Pat} {v : V}, PatAt H p v → ∃ a xs, v = .ref a ∧ H a = some (.tup (.str p.kind :: xs))
  | .none, _, ⟨a, e, h⟩ => ⟨a, _, e, h⟩
  | .empty, _, ⟨a, e, h⟩ => ⟨a, _, e, h⟩
  | .sign _, _, ⟨a, e, h⟩ => ⟨a, _, e, h⟩
  | .row _, _, ⟨a, b, vs, e, h, _⟩ => ⟨a, _, e, h⟩
  | .or _, _, ⟨a, b, vs, e, h, _⟩ => ⟨a, _, e, h⟩
  | .and _, _, ⟨a, b, vs, e, h, _⟩ => ⟨a, _, e, h⟩
  | .many _, _, ⟨a, u, e, h, _⟩ => ⟨a, _, e, h⟩
  | .not _, _, ⟨a, u, e, h, _⟩ => ⟨a, _, e, h⟩
section
variable {K : PySem.W.Frag} {σ : L2.St} {H : Hp} {a : Addr} {xs : List V} {v : V} {Q : VK} {D : Ends} {t u : TS}
/-- x[j], x a tuple in slot i -/
theorem r_ix {i : Nat} (j : Nat) (h0 : σ[i]? = some (some (.ref a))) (ha : H a = some (.tup xs)) (hx : xs[j]? = some v) (q : Q v H) : tOp (rIxT K) (tVar i) (tC (.int (j : Int))) σ H Q :=
  ⟨_, h0, a, xs, _, v, rfl, rfl, SqT.of ha, atI_nat hx, q⟩
theorem r_kind {i : Nat} {k z : Str} {Q : Bool → Hp → Prop} (h0 : σ[i]? = some (some (.ref a))) (ha : H a = some (.tup (.str k :: xs))) (q : Q (decide (k = z)) H) : tTest (tOp rEq (tOp (rIxT K) (tVar i) (tC (.int 0))) (tC (.str z))) σ H Q := by
  refine r_ix 0 h0 ha rfl ⟨rfl, _, rfl, ?_⟩
  have e : decide (V.str k = V.str z) = decide (k = z) := by rw [dec_str, Bool.beq_eq_decide_eq]
  rw [e]; exact q
theorem if_kT {i : Nat} {z : Str} (h0 : σ[i]? = some (some (.ref a))) (ha : H a = some (.tup (.str z :: xs))) (h : t D σ H) : tIfS (tTest (tOp rEq (tOp (rIxT K) (tVar i) (tC (.int 0))) (tC (.str z)))) t u D σ H :=
  r_kind h0 ha (iffT (decide_eq_true rfl) h)
theorem if_kF {i : Nat} {k z : Str} (h0 : σ[i]? = some (some (.ref a))) (ha : H a = some (.tup (.str k :: xs))) (n : k ≠ z) (h : u D σ H) : tIfS (tTest (tOp rEq (tOp (rIxT K) (tVar i) (tC (.int 0))) (tC (.str z)))) t u D σ H :=
  r_kind h0 ha (iffF (decide_eq_false n) h)
def tCs : List Str → TA
  | [] => tNil
  | z :: zs => tCons (tC (.str z)) (tCs zs)
theorem tCs_go : ∀ (zs : List Str) (Q : List V → Hp → Prop), Q (zs.map V.str) H → tCs zs σ H Q
  | [], Q, h => h
  | z :: zs, Q, h => tCs_go zs (fun ys H1 => Q (.str z :: ys) H1) h
theorem inV_str (k : Str) (zs : List Str) : inV (.str k) (zs.map V.str) = decide (k ∈ zs) := by
  unfold inV
  induction zs with
  | nil => rfl
  | cons z zs ih =>
    rw [List.map_cons, List.any_cons, ih]
    show (z == k || decide (k ∈ zs)) = decide (k ∈ z :: zs)
    rw [Bool.eq_iff_iff, Bool.or_eq_true, beq_iff_eq, decide_eq_true_eq, decide_eq_true_eq, List.mem_cons]
    exact ⟨fun h => h.elim (fun e => .inl e.symm) .inr, fun h => h.elim (fun e => .inl e.symm) .inr⟩
/-- x[0] in ("..", ..) -/
theorem r_in {i : Nat} {k : Str} (zs : List Str) (h0 : σ[i]? = some (some (.ref a))) (ha : H a = some (.tup (.str k :: xs))) (hz : zs.length ≤ 20) (q : ∀ p, H p = none → Q (.bl (decide (k ∈ zs))) (upd H p (.tup (zs.map V.str)))) :
    tOp (rIn K false) (tOp (rIxT K) (tVar i) (tC (.int 0))) (tTup (tCs zs)) σ H Q := by
  refine r_ix 0 h0 ha rfl (tCs_go zs _ ⟨?_, fun p np => ?_⟩)
  · rw [List.length_map]; exact Nat.le_of_lt (small1000 (by omega))
  · refine ⟨p, _, rfl, .inr (SqT.of upd_same), rfl, ?_, ?_⟩
    · rw [List.all_map, List.all_eq_true]; intro z _; rfl
    · rw [inV_str]; exact q p np
theorem if_inT {i : Nat} {k : Str} (zs : List Str) (h0 : σ[i]? = some (some (.ref a))) (ha : H a = some (.tup (.str k :: xs))) (hk : k ∈ zs) (h : ∀ p, H p = none → t D σ (upd H p (.tup (zs.map V.str)))) (hz : zs.length ≤ 20 := by decide) :
    tIfS (tTest (tOp (rIn K false) (tOp (rIxT K) (tVar i) (tC (.int 0))) (tTup (tCs zs)))) t u D σ H :=
  r_in zs h0 ha hz fun p np => ⟨_, rfl, iffT (decide_eq_true hk) (h p np)⟩
theorem if_inF {i : Nat} {k : Str} (zs : List Str) (h0 : σ[i]? = some (some (.ref a))) (ha : H a = some (.tup (.str k :: xs))) (hk : k ∉ zs) (h : ∀ p, H p = none → u D σ (upd H p (.tup (zs.map V.str)))) (hz : zs.length ≤ 20 := by decide) :
    tIfS (tTest (tOp (rIn K false) (tOp (rIxT K) (tVar i) (tC (.int 0))) (tTup (tCs zs)))) t u D σ H :=
  r_in zs h0 ha hz fun p np => ⟨_, rfl, iffF (decide_eq_false hk) (h p np)⟩
theorem t_seq {D : Ends} (h : t { D with nx := u D } σ H) : tSeq t u D σ H := h
theorem t_setC {v : V} {i : Nat} {D : Ends} (h : u D (σ.set i (some v)) H) : tSeq (tAsg (tC v) (gName i)) u D σ H := h
theorem t_set {te : TE} {i : Nat} {D : Ends} (h : te σ H fun x H1 => u D (σ.set i (some x)) H1) : tSeq (tAsg te (gName i)) u D σ H := h
/-- any, all over a tuple -/
theorem quant_tup {stopv : Bool} {T a : Addr} {xs : List V} {te : TE} {σ : L2.St} {H1 : Hp} {Q : VK} (h0 : GxR.TabG H1 T) (ha : H1 a = some (.tup xs)) (Pv : Nat → Hp → Prop) (p0 : ∀ H, Ext H1 H → Pv 0 H) (hl : ∀ i H, Pv i H → H a = some (.tup xs))
    (hs : ∀ i v H, xs[i]? = some v → Pv i H → te (σ ++ [some v]) H fun y H3 => ∃ b, y = .bl b ∧ if b = stopv then Q (.bl stopv) H3 else Pv (i + 1) H3) (hd : ∀ H, Pv xs.length H → Q (.bl (!stopv)) H) :
    GxR.TabG H1 T ∧ ∀ H2, GxR.Tabbed T H1 H2 → ∃ W : Nat → Nat → Hp → Prop, (∃ m, W 0 m H2) ∧ ∀ i m H, W i m H →
      ((Itt K a).stop i H ∧ Q (.bl (!stopv)) H) ∨ ((Itt K a).go i H ∧ ∃ Nx : Hp → Prop, (∀ H', Nx H' → ∃ m', m' < m ∧ W (i + 1) m' H') ∧ ∀ v H', (Itt K a).yld i H v H' → te (σ ++ [some v]) H' fun y H3 => ∃ b, y = .bl b ∧ if b = stopv then Q (.bl stopv) H3 else Nx H3) := by
  refine ⟨h0, fun H2 hT => ⟨fun i m H => i ≤ xs.length ∧ m = xs.length - i ∧ Pv i H, ⟨xs.length, Nat.zero_le _, rfl, p0 H2 (Ext.tabbed h0 hT)⟩, ?_⟩⟩
  rintro i m H ⟨hi, rfl, p⟩
  have q := hl i H p
  by_cases hlt : i < xs.length
  · refine .inr ⟨⟨xs, xs[i], SqT.of q, by simp [hlt]⟩, Pv (i + 1), fun H' p' => ⟨xs.length - (i + 1), by omega, hlt, rfl, p'⟩, fun v H' y => ?_⟩
    obtain ⟨e, y⟩ := y
    subst e
    exact hs i v H' (y xs (SqT.of q)) p
  · have e : i = xs.length := by omega
    subst e
    exact .inl ⟨⟨xs, SqT.of q, Nat.le_refl _⟩, hd H p⟩
end
end Bo
set_option Elab.async false
set_option linter.all false
set_option maxRecDepth 100000
/-! sets of places as numbers -/
namespace Bo
open PySem L2
theorem tb_add : ∀ (p y : Nat), y.testBit p = false → ∀ j, (y + 2 ^ p).testBit j = (y.testBit j || decide (j = p))
  | 0, y, h, j => by
    have e : y % 2 = 0 := by
      rw [Nat.testBit_zero] at h
      have := of_decide_eq_false h
      omega
    cases j with
    | zero => rw [Nat.testBit_zero, Nat.testBit_zero]; simp; omega
    | succ j =>
      rw [Nat.testBit_succ, Nat.testBit_succ]
      have : (y + 2 ^ 0) / 2 = y / 2 := by rw [Nat.pow_zero]; omega
      rw [this]; simp
  | p + 1, y, h, j => by
    rw [Nat.testBit_succ] at h
    cases j with
    | zero =>
      rw [Nat.testBit_zero, Nat.testBit_zero]
      have : (y + 2 ^ (p + 1)) % 2 = y % 2 := by rw [Nat.pow_succ]; omega
      rw [this]; simp
    | succ j =>
      rw [Nat.testBit_succ, Nat.testBit_succ]
      have : (y + 2 ^ (p + 1)) / 2 = y / 2 + 2 ^ p := by rw [Nat.pow_succ]; omega
      rw [this, tb_add p (y / 2) h j]
      simp
theorem tb_sub {x p : Nat} (h : x.testBit p = true) (j : Nat) : (x - 2 ^ p).testBit j = (x.testBit j && decide (j ≠ p)) := by
  have hx : 2 ^ p ≤ x := Nat.ge_two_pow_of_testBit h
  have e : x = (x - 2 ^ p) + 2 ^ p := by omega
  have h0 : (x - 2 ^ p).testBit p = false := by
    have := Nat.testBit_two_pow_add_eq (x - 2 ^ p) p
    rw [Nat.add_comm, ← e, h] at this
    cases hc : (x - 2 ^ p).testBit p with
    | false => rfl
    | true => rw [hc] at this; cases this
  have key := tb_add p (x - 2 ^ p) h0 j
  rw [← e] at key
  rw [key]
  by_cases ej : j = p
  · subst ej; rw [h0]; simp
  · simp [ej]
/-- x & ~(1 << p) -/
def clr (x p : Nat) : Nat := if x.testBit p then x - 2 ^ p else x
theorem tb_clr (x p j : Nat) : (clr x p).testBit j = (x.testBit j && decide (j ≠ p)) := by
  unfold clr
  split
  · rename_i h; exact tb_sub h j
  · rename_i h
    by_cases e : j = p
    · subst e; simp at h; simp [h]
    · simp [e]
theorem and_not_bit (x p : Nat) : Builtin.bitAnd (x : Int) (Builtin.bitNot (1 * 2 ^ p)) = (clr x p : Int) := by
  have h2 : (0 : Int) ≤ 2 ^ p := two_pow_nn p
  unfold Builtin.bitAnd
  have e1 : decide (0 ≤ (x : Int)) = true := decide_eq_true (Int.natCast_nonneg x)
  have e2 : decide (0 ≤ Builtin.bitNot (1 * 2 ^ p)) = false := by
    apply decide_eq_false
    unfold Builtin.bitNot
    omega
  rw [e1, e2]
  show (x : Int) - (((x : Int).toNat &&& (Builtin.bitNot (Builtin.bitNot (1 * 2 ^ p))).toNat : Nat) : Int) = _
  have e3 : (Builtin.bitNot (Builtin.bitNot (1 * 2 ^ p))).toNat = 2 ^ p := by
    unfold Builtin.bitNot
    have : (-(-(1 * 2 ^ p : Int) - 1) - 1) = ((2 ^ p : Nat) : Int) := by rw [Int.natCast_pow]; simp; omega
    rw [this]; rfl
  have e4 : x &&& 2 ^ p = (x.testBit p).toNat * 2 ^ p := Nat.eq_of_testBit_eq fun i => by
    rw [Nat.testBit_and, Nat.testBit_two_pow]
    by_cases e : p = i
    · subst e
      cases hx : x.testBit p with
      | true => simp [Nat.testBit_two_pow_self]
      | false => simp
    · cases hx : x.testBit p with
      | true => simp [e, Nat.testBit_two_pow_of_ne e]
      | false => simp [e]
  rw [e3, Int.toNat_natCast, e4]
  unfold clr
  cases h : x.testBit p with
  | true =>
    have := Nat.ge_two_pow_of_testBit h
    simp only [Bool.toNat_true, if_true, Nat.one_mul]
    omega
  | false => simp
theorem or_nat (a b : Nat) : Builtin.bitOr (a : Int) (b : Int) = ((a ||| b : Nat) : Int) := by rw [bitOr_nn (Int.natCast_nonneg _) (Int.natCast_nonneg _)]; simp
theorem xor_nat (a b : Nat) : Builtin.bitXor (a : Int) (b : Int) = ((a ^^^ b : Nat) : Int) := by rw [Bits.bitXor_pp (Int.natCast_nonneg _) (Int.natCast_nonneg _)]; simp
theorem and_nat (a b : Nat) : Builtin.bitAnd (a : Int) (b : Int) = ((a &&& b : Nat) : Int) := by
  unfold Builtin.bitAnd
  rw [decide_eq_true (Int.natCast_nonneg a), decide_eq_true (Int.natCast_nonneg b)]
  show (((a : Int).toNat &&& (b : Int).toNat : Nat) : Int) = _
  rw [Int.toNat_natCast, Int.toNat_natCast]
theorem shl_nat (a p : Nat) : (a : Int) * 2 ^ ((p : Int)).toNat = ((a * 2 ^ p : Nat) : Int) := by
  rw [Int.toNat_natCast, Int.natCast_mul, Int.natCast_pow]; rfl
theorem one_shl (p : Nat) : (1 : Int) * 2 ^ ((p : Int)).toNat = ((2 ^ p : Nat) : Int) := by
  rw [Int.toNat_natCast, Int.one_mul, Int.natCast_pow]; rfl
theorem xor_top_lt {m : Nat} (h : m ≠ 0) : m ^^^ 2 ^ m.log2 < m := by
  refine Nat.lt_of_lt_of_le (m := 2 ^ m.log2) ?_ (Nat.log2_self_le h)
  refine Nat.lt_pow_two_of_testBit _ fun i hi => ?_
  rw [Nat.testBit_xor, Nat.testBit_two_pow]
  by_cases e : m.log2 = i
  · subst e; rw [Nat.testBit_log2 h]; simp
  · have : m.testBit i = false := Nat.testBit_lt_two_pow (Nat.lt_of_lt_of_le Nat.lt_log2_self (Nat.pow_le_pow_right (by omega) (by omega)))
    rw [this]; simp [e]
theorem tb_xor_top {m : Nat} (h : m ≠ 0) (k : Nat) : (m ^^^ 2 ^ m.log2).testBit k = (m.testBit k && decide (k ≠ m.log2)) := by
  rw [Nat.testBit_xor, Nat.testBit_two_pow]
  by_cases e : m.log2 = k
  · subst e; rw [Nat.testBit_log2 h]; simp
  · have : ¬ k = m.log2 := fun z => e z.symm
    simp [e, this]
theorem bits_nat {m : Nat} (h : m ≠ 0) : ((Builtin.Int.intBits (m : Int) : Nat) : Int) - 1 = ((m.log2 : Nat) : Int) := by
  unfold Builtin.Int.intBits
  have : ((m : Int) == 0) = false := by simpa using h
  rw [this]
  simp
/-- the places where a stretch from i ends, for each i -/
def Rep (n : Nat) (R : Nat → Nat → Prop) (E : List Nat) : Prop := E.length = n + 1 ∧ ∀ i, i ≤ n → ∀ j, (E.getD i 0).testBit j = true ↔ R i j
/-- the number of the places that are led to from those of m -/
def Beh (E : List Nat) (m r : Nat) : Prop := ∀ j, r.testBit j = true ↔ ∃ k, m.testBit k = true ∧ (E.getD k 0).testBit j = true
theorem Beh.uniq {E : List Nat} {m r r' : Nat} (a : Beh E m r) (b : Beh E m r') : r = r' := Nat.eq_of_testBit_eq fun j => by rw [Bool.eq_iff_iff, a j, b j]
theorem lt_of_bits {x n : Nat} (h : ∀ j, x.testBit j = true → j < n) : x < 2 ^ n := Nat.lt_pow_two_of_testBit _ fun i hi => by
  cases e : x.testBit i with
  | false => rfl
  | true => have := h i e; omega
theorem bit_of_shift {x n : Nat} (h : x < 2 ^ (n + 1)) : (x / 2 ^ n = 1) ↔ x.testBit n = true := by
  rw [Nat.testBit_eq_decide_div_mod_eq, decide_eq_true_eq]
  have h9 : x / 2 ^ n < 2 := Nat.div_lt_of_lt_mul (by rw [Nat.pow_succ] at h; omega)
  generalize x / 2 ^ n = q at h9 ⊢
  omega
theorem star_iff {R : Nat → Nat → Prop} {i j : Nat} : Star R i j ↔ i = j ∨ ∃ k, k ≠ i ∧ R i k ∧ Star R k j := by
  constructor
  · intro h
    induction h with
    | refl => exact .inl rfl
    | @step a b c r s ih =>
      by_cases e : b = a
      · subst e; exact ih
      · exact .inr ⟨b, e, r, s⟩
  · rintro (rfl | ⟨k, _, r, s⟩)
    · exact .refl _
    · exact .step r s
theorem MRow_snoc (t : List Nat) (p : Pat) : ∀ (ps : List Pat) (i j : Nat), MRow t (ps ++ [p]) i j ↔ ∃ k, MRow t ps i k ∧ M t p k j
  | [], i, j => by
    show (∃ k, M t p i k ∧ k = j) ↔ ∃ k, i = k ∧ M t p k j
    exact ⟨fun ⟨k, h, e⟩ => ⟨i, rfl, e ▸ h⟩, fun ⟨k, e, h⟩ => ⟨j, e ▸ h, rfl⟩⟩
  | q :: ps, i, j => by
    show (∃ k, M t q i k ∧ MRow t (ps ++ [p]) k j) ↔ ∃ k, (∃ l, M t q i l ∧ MRow t ps l k) ∧ M t p k j
    constructor
    · rintro ⟨k, h, h2⟩
      obtain ⟨l, a, b⟩ := (MRow_snoc t p ps k j).mp h2
      exact ⟨l, ⟨k, h, a⟩, b⟩
    · rintro ⟨k, ⟨l, a, b⟩, c⟩
      exact ⟨l, a, (MRow_snoc t p ps l j).mpr ⟨k, b, c⟩⟩
theorem MOr_snoc (t : List Nat) (p : Pat) : ∀ (ps : List Pat) (i j : Nat), MOr t (ps ++ [p]) i j ↔ MOr t ps i j ∨ M t p i j
  | [], i, j => by show (M t p i j ∨ False) ↔ (False ∨ M t p i j); simp
  | q :: ps, i, j => by
    show (M t q i j ∨ MOr t (ps ++ [p]) i j) ↔ (M t q i j ∨ MOr t ps i j) ∨ M t p i j
    rw [MOr_snoc t p ps i j, or_assoc]
theorem MAnd_snoc (t : List Nat) (p : Pat) : ∀ (ps : List Pat) (i j : Nat), MAnd t (ps ++ [p]) i j ↔ MAnd t ps i j ∧ M t p i j
  | [], i, j => by show (M t p i j ∧ True) ↔ (True ∧ M t p i j); simp
  | q :: ps, i, j => by
    show (M t q i j ∧ MAnd t (ps ++ [p]) i j) ↔ (M t q i j ∧ MAnd t ps i j) ∧ M t p i j
    rw [MAnd_snoc t p ps i j, and_assoc]
theorem MAnd_mem {t : List Nat} {i j : Nat} : ∀ {ps : List Pat}, MAnd t ps i j ↔ ∀ p ∈ ps, M t p i j
  | [] => by show True ↔ _; simp
  | q :: ps => by
    show (M t q i j ∧ MAnd t ps i j) ↔ _
    rw [MAnd_mem (ps := ps)]; simp
theorem MOr_mem {t : List Nat} {i j : Nat} : ∀ {ps : List Pat}, MOr t ps i j ↔ ∃ p ∈ ps, M t p i j
  | [] => by show False ↔ _; simp
  | q :: ps => by
    show (M t q i j ∨ MOr t ps i j) ↔ _
    rw [MOr_mem (ps := ps)]; simp
theorem tb_between {N p : Nat} (h : p ≤ N) (j : Nat) : (2 ^ N - 2 ^ p).testBit j = (decide (p ≤ j) && decide (j < N)) := by
  have hp : 1 ≤ 2 ^ p := Nat.one_le_two_pow
  have hN : 2 ^ p ≤ 2 ^ N := Nat.pow_le_pow_right (by omega) h
  have e : 2 ^ N - 2 ^ p = 2 ^ N - ((2 ^ p - 1) + 1) := by omega
  rw [e, Nat.testBit_two_pow_sub_succ (by omega), Nat.testBit_two_pow_sub_one, Bool.and_comm]
  congr 1
  by_cases q : j < p <;> simp [q] <;> omega
end Bo
set_option Elab.async false
set_option linter.all false
set_option maxRecDepth 100000
set_option maxHeartbeats 4000000
/-! list comprehensions that put values in a row -/
namespace Bo
open PySem PySem.Spec PyProof.Rows L2 GE
abbrev nV (x : Nat) : V := V.int (x : Int)
/-- a new list at D holds the first i of some values; what was there before H0 stays -/
def Built (H0 : Hp) (D : Addr) (vals : Nat → V) (i : Nat) (H : Hp) : Prop := Ext H0 H ∧ H D = some (.lst ((List.range i).map vals))
theorem Built.zero {H0 : Hp} {D : Addr} {vals : Nat → V} (h : H0 D = none) : Built H0 D vals 0 (upd H0 D (.lst [])) := ⟨(Ext.refl _).wr h, upd_same⟩
theorem Built.next {H0 H H4 : Hp} {D : Addr} {vals : Nat → V} {i : Nat} {y : V} (h0 : H0 D = none) (b : Built H0 D vals i H) (e : Ext H H4) (ey : y = vals i) (hi : i < sizeLine) :
    ∃ acc, H4 D = some (.lst acc) ∧ acc.length < sizeLine ∧ Built H0 D vals (i + 1) (upd H4 D (.lst (acc ++ [y]))) := by
  refine ⟨_, e.lst b.2, by simpa using hi, (b.1.trans e).wr h0, ?_⟩
  rw [upd_same, ey, List.range_succ, List.map_append]
  rfl
section
variable {K : PySem.W.Frag} {g : TG} {tt : TT} {te : TE} {vs : List Nat} {σ : L2.St} {H1 : Hp} {D : Addr} {Qd : Hp → Prop}
/-- over the signs of a text with their places -/
theorem lc_ites {x : Str} (Pv : Nat → Hp → Prop) (h0 : Pv 0 (upd H1 D (.lst [])))
    (hs : ∀ i c T H, x.cps[i]? = some c → H T = none → Pv i H → g (.ref T) (wipe σ vs) (upd H T (.tup [nV i, .str ⟨#[c]⟩])) fun σ2 H2 => wipe σ2 vs = wipe σ vs ∧ tt σ2 H2 fun b H3 =>
      if b = true then te σ2 H3 fun y H4 => ∃ acc, H4 D = some (.lst acc) ∧ acc.length < sizeLine ∧ Pv (i + 1) (upd H4 D (.lst (acc ++ [y]))) else Pv (i + 1) H3) (hd : ∀ H, Pv x.cps.size H → Qd H) :
    ∃ W : Nat → Nat → Hp → Prop, (∃ m, W 0 m (upd H1 D (.lst []))) ∧ ∀ i m H, W i m H →
      ((Ites x).stop i H ∧ Qd H) ∨ ((Ites x).go i H ∧ ∃ Nx : Hp → Prop, (∀ H', Nx H' → ∃ m', m' < m ∧ W (i + 1) m' H') ∧ ∀ v H', (Ites x).yld i H v H' → g v (wipe σ vs) H' fun σ2 H2 => wipe σ2 vs = wipe σ vs ∧ tt σ2 H2 fun b H3 =>
        if b = true then te σ2 H3 fun y H4 => ∃ acc, H4 D = some (.lst acc) ∧ acc.length < sizeLine ∧ Nx (upd H4 D (.lst (acc ++ [y]))) else Nx H3) := by
  refine ⟨fun i m H => m = x.cps.size - i ∧ i ≤ x.cps.size ∧ Pv i H, ⟨x.cps.size, by simp, Nat.zero_le _, h0⟩, ?_⟩
  rintro i m H ⟨rfl, hi, p⟩
  by_cases hlt : i < x.cps.size
  · refine .inr ⟨hlt, Pv (i + 1), fun H' p' => ⟨x.cps.size - (i + 1), by omega, rfl, hlt, p'⟩, fun v H' y => ?_⟩
    obtain ⟨T, c, rfl, hT, rfl, hc⟩ := y
    exact hs i c T H hc hT p
  · have e : i = x.cps.size := by omega
    subst e
    exact .inl ⟨rfl, hd H p⟩
/-- over a list with places -/
theorem lc_ite {a : Addr} {xs : List V} (Pv : Nat → Hp → Prop) (h0 : Pv 0 (upd H1 D (.lst []))) (hl : ∀ i H, Pv i H → SqL K H a xs)
    (hs : ∀ i x T H, xs[i]? = some x → H T = none → Pv i H → g (.ref T) (wipe σ vs) (upd H T (.tup [nV i, x])) fun σ2 H2 => wipe σ2 vs = wipe σ vs ∧ tt σ2 H2 fun b H3 =>
      if b = true then te σ2 H3 fun y H4 => ∃ acc, H4 D = some (.lst acc) ∧ acc.length < sizeLine ∧ Pv (i + 1) (upd H4 D (.lst (acc ++ [y]))) else Pv (i + 1) H3) (hd : ∀ H, Pv xs.length H → Qd H) :
    ∃ W : Nat → Nat → Hp → Prop, (∃ m, W 0 m (upd H1 D (.lst []))) ∧ ∀ i m H, W i m H →
      ((Ite K a).stop i H ∧ Qd H) ∨ ((Ite K a).go i H ∧ ∃ Nx : Hp → Prop, (∀ H', Nx H' → ∃ m', m' < m ∧ W (i + 1) m' H') ∧ ∀ v H', (Ite K a).yld i H v H' → g v (wipe σ vs) H' fun σ2 H2 => wipe σ2 vs = wipe σ vs ∧ tt σ2 H2 fun b H3 =>
        if b = true then te σ2 H3 fun y H4 => ∃ acc, H4 D = some (.lst acc) ∧ acc.length < sizeLine ∧ Nx (upd H4 D (.lst (acc ++ [y]))) else Nx H3) := by
  refine ⟨fun i m H => m = xs.length - i ∧ i ≤ xs.length ∧ Pv i H, ⟨xs.length, by simp, Nat.zero_le _, h0⟩, ?_⟩
  rintro i m H ⟨rfl, hi, p⟩
  have q := hl i H p
  by_cases hlt : i < xs.length
  · refine .inr ⟨⟨xs, xs[i], q, by simp [hlt]⟩, Pv (i + 1), fun H' p' => ⟨xs.length - (i + 1), by omega, rfl, hlt, p'⟩, fun v H' y => ?_⟩
    obtain ⟨T, x, rfl, hT, rfl, hx⟩ := y
    exact hs i x T H (hx xs q) hT p
  · have e : i = xs.length := by omega
    subst e
    exact .inl ⟨⟨xs, q, Nat.le_refl _⟩, hd H p⟩
/-- over two lists of one length -/
theorem lc_itz {a b : Addr} {xs ys : List V} (hl : xs.length = ys.length) (Pv : Nat → Hp → Prop) (h0 : Pv 0 (upd H1 D (.lst []))) (hq : ∀ i H, Pv i H → SqL K H a xs ∧ SqL K H b ys)
    (hs : ∀ i x y T H, xs[i]? = some x → ys[i]? = some y → H T = none → Pv i H → g (.ref T) (wipe σ vs) (upd H T (.tup [x, y])) fun σ2 H2 => wipe σ2 vs = wipe σ vs ∧ tt σ2 H2 fun b H3 =>
      if b = true then te σ2 H3 fun y H4 => ∃ acc, H4 D = some (.lst acc) ∧ acc.length < sizeLine ∧ Pv (i + 1) (upd H4 D (.lst (acc ++ [y]))) else Pv (i + 1) H3) (hd : ∀ H, Pv xs.length H → Qd H) :
    ∃ W : Nat → Nat → Hp → Prop, (∃ m, W 0 m (upd H1 D (.lst []))) ∧ ∀ i m H, W i m H →
      ((Itz K a b).stop i H ∧ Qd H) ∨ ((Itz K a b).go i H ∧ ∃ Nx : Hp → Prop, (∀ H', Nx H' → ∃ m', m' < m ∧ W (i + 1) m' H') ∧ ∀ v H', (Itz K a b).yld i H v H' → g v (wipe σ vs) H' fun σ2 H2 => wipe σ2 vs = wipe σ vs ∧ tt σ2 H2 fun b H3 =>
        if b = true then te σ2 H3 fun y H4 => ∃ acc, H4 D = some (.lst acc) ∧ acc.length < sizeLine ∧ Nx (upd H4 D (.lst (acc ++ [y]))) else Nx H3) := by
  refine ⟨fun i m H => m = xs.length - i ∧ i ≤ xs.length ∧ Pv i H, ⟨xs.length, by simp, Nat.zero_le _, h0⟩, ?_⟩
  rintro i m H ⟨rfl, hi, p⟩
  obtain ⟨q1, q2⟩ := hq i H p
  by_cases hlt : i < xs.length
  · have hlt2 : i < ys.length := by omega
    refine .inr ⟨⟨xs, ys, xs[i], ys[i], q1, q2, by simp [hlt], by simp [hlt2]⟩, Pv (i + 1), fun H' p' => ⟨xs.length - (i + 1), by omega, rfl, hlt, p'⟩, fun v H' y => ?_⟩
    obtain ⟨T, x, y, rfl, hT, rfl, hx, hy⟩ := y
    exact hs i x y T H (hx xs q1) (hy ys q2) hT p
  · have e : i = xs.length := by omega
    subst e
    exact .inl ⟨⟨xs, ys, q1, q2, .inl (Nat.le_refl _)⟩, hd H p⟩
end
/-- a pair just made taken apart into slots i and j -/
theorem g_pair {K : PySem.W.Frag} {i j : Nat} {T : Addr} {x y : V} {σ : L2.St} {H : Hp} {Q : L2.St → Hp → Prop} (h : H T = some (.tup [x, y])) (q : Q ((σ.set i (some x)).set j (some y)) H) :
    gTup K 2 (gCons (gName i) (gCons (gName j) gNil)) (.ref T) σ H Q := ⟨T, _, rfl, SqT.of h, rfl, x, _, rfl, y, _, rfl, rfl, q⟩
end Bo
set_option Elab.async false
set_option linter.all false
set_option maxRecDepth 100000
set_option maxHeartbeats 0
namespace Bo
open PySem PySem.Spec PyProof.Rows L2
def top (i : Nat) : Stmt := PySem.Challenge.pw_bothreed_k02_shown_and_read.main.body.getD i (.Pass ⟨0, 0, 0, 0⟩)
abbrev sDenied : Stmt := top 7
abbrev sTogether : Stmt := top 8
abbrev sNeedLetters : Stmt := top 12
abbrev sNodes : Stmt := top 13
abbrev sIsLetter : Stmt := top 14
abbrev sPartsOf : Stmt := top 15
abbrev sShown : Stmt := top 22
abbrev sPartShown : Stmt := top 23
abbrev sRead : Stmt := top 24
abbrev sWritten : Stmt := top 25
abbrev sWords : Stmt := top 26
abbrev sCloseLevel : Stmt := top 27
abbrev sTakeWord : Stmt := top 28
abbrev sLawCellAt : Stmt := top 30
abbrev sLawLetters : Stmt := top 31
abbrev sLawSize : Stmt := top 32
abbrev sLawAround : Stmt := top 33
abbrev sLawJoined : Stmt := top 34
abbrev sLawStep : Stmt := top 35
abbrev sLaw : Stmt := top 36
abbrev sLevelInit : Stmt := inClass (top 6) 0
abbrev sLevelTakeNot : Stmt := inClass (top 6) 1
abbrev sLevelTakeAtom : Stmt := inClass (top 6) 2
abbrev sLevelTakeStar : Stmt := inClass (top 6) 3
abbrev sLevelEndHalf : Stmt := inClass (top 6) 4
abbrev sLevelEndBranch : Stmt := inClass (top 6) 5
abbrev sLevelTold : Stmt := inClass (top 6) 6
abbrev sLevelNeedItem : Stmt := inClass (top 6) 7
def dLevelInit : He.DefD := ⟨("Level", some "__init__"), "__init__", "Level.__init__", defArgs sLevelInit, defBody sLevelInit, defScope sLevelInit, [], []⟩
def dLevelTakeNot : He.DefD := ⟨("Level", some "take_not"), "take_not", "Level.take_not", defArgs sLevelTakeNot, defBody sLevelTakeNot, defScope sLevelTakeNot, [], []⟩
def dLevelTakeAtom : He.DefD := ⟨("Level", some "take_atom"), "take_atom", "Level.take_atom", defArgs sLevelTakeAtom, defBody sLevelTakeAtom, defScope sLevelTakeAtom, [], []⟩
def dLevelTakeStar : He.DefD := ⟨("Level", some "take_star"), "take_star", "Level.take_star", defArgs sLevelTakeStar, defBody sLevelTakeStar, defScope sLevelTakeStar, [], []⟩
def dLevelEndHalf : He.DefD := ⟨("Level", some "end_half"), "end_half", "Level.end_half", defArgs sLevelEndHalf, defBody sLevelEndHalf, defScope sLevelEndHalf, [], []⟩
def dLevelEndBranch : He.DefD := ⟨("Level", some "end_branch"), "end_branch", "Level.end_branch", defArgs sLevelEndBranch, defBody sLevelEndBranch, defScope sLevelEndBranch, [], []⟩
def dLevelTold : He.DefD := ⟨("Level", some "told"), "told", "Level.told", defArgs sLevelTold, defBody sLevelTold, defScope sLevelTold, [], []⟩
def dLevelNeedItem : He.DefD := ⟨("Level", some "need_item"), "need_item", "Level.need_item", defArgs sLevelNeedItem, defBody sLevelNeedItem, defScope sLevelNeedItem, [], []⟩
def dDenied : He.DefD := ⟨("denied", none), "denied", "denied", defArgs sDenied, defBody sDenied, defScope sDenied, [], []⟩
def dTogether : He.DefD := ⟨("together", none), "together", "together", defArgs sTogether, defBody sTogether, defScope sTogether, [], []⟩
def dNeedLetters : He.DefD := ⟨("need_letters", none), "need_letters", "need_letters", defArgs sNeedLetters, defBody sNeedLetters, defScope sNeedLetters, [], []⟩
def dNodes : He.DefD := ⟨("nodes", none), "nodes", "nodes", defArgs sNodes, defBody sNodes, defScope sNodes, [], []⟩
def dIsLetter : He.DefD := ⟨("is_letter", none), "is_letter", "is_letter", defArgs sIsLetter, defBody sIsLetter, defScope sIsLetter, [], []⟩
def dPartsOf : He.DefD := ⟨("parts_of", none), "parts_of", "parts_of", defArgs sPartsOf, defBody sPartsOf, defScope sPartsOf, [], []⟩
def dShown : He.DefD := ⟨("shown", none), "shown", "shown", defArgs sShown, defBody sShown, defScope sShown, [], []⟩
def dPartShown : He.DefD := ⟨("part_shown", none), "part_shown", "part_shown", defArgs sPartShown, defBody sPartShown, defScope sPartShown, [], []⟩
def dRead : He.DefD := ⟨("read", none), "read", "read", defArgs sRead, defBody sRead, defScope sRead, [], []⟩
def dWritten : He.DefD := ⟨("written", none), "written", "written", defArgs sWritten, defBody sWritten, defScope sWritten, [], []⟩
def dWords : He.DefD := ⟨("words", none), "words", "words", defArgs sWords, defBody sWords, defScope sWords, [], []⟩
def dCloseLevel : He.DefD := ⟨("close_level", none), "close_level", "close_level", defArgs sCloseLevel, defBody sCloseLevel, defScope sCloseLevel, [], []⟩
def dTakeWord : He.DefD := ⟨("take_word", none), "take_word", "take_word", defArgs sTakeWord, defBody sTakeWord, defScope sTakeWord, [], []⟩
def dLawCellAt : He.DefD := ⟨("_law_cell_at", none), "_law_cell_at", "_law_cell_at", defArgs sLawCellAt, defBody sLawCellAt, defScope sLawCellAt, [], []⟩
def dLawLetters : He.DefD := ⟨("_law_letters", none), "_law_letters", "_law_letters", defArgs sLawLetters, defBody sLawLetters, defScope sLawLetters, [], []⟩
def dLawSize : He.DefD := ⟨("_law_size", none), "_law_size", "_law_size", defArgs sLawSize, defBody sLawSize, defScope sLawSize, [], []⟩
def dLawAround : He.DefD := ⟨("_law_around", none), "_law_around", "_law_around", defArgs sLawAround, defBody sLawAround, defScope sLawAround, [], []⟩
def dLawJoined : He.DefD := ⟨("_law_joined", none), "_law_joined", "_law_joined", defArgs sLawJoined, defBody sLawJoined, defScope sLawJoined, [], []⟩
def dLawStep : He.DefD := ⟨("_law_step", none), "_law_step", "_law_step", defArgs sLawStep, defBody sLawStep, defScope sLawStep, [], []⟩
def dLaw : He.DefD := ⟨("law", none), "law", "law", defArgs sLaw, defBody sLaw, defScope sLaw, [], []⟩
def fn : List He.DefD := [dDenied, dTogether, dNeedLetters, dNodes, dIsLetter, dPartsOf, dShown, dPartShown, dRead, dWritten, dWords, dCloseLevel, dTakeWord, dLawCellAt, dLawLetters, dLawSize, dLawAround, dLawJoined, dLawStep, dLaw, dLevelInit, dLevelTakeNot, dLevelTakeAtom, dLevelTakeStar, dLevelEndHalf, dLevelEndBranch, dLevelTold, dLevelNeedItem]
def fa : List He.Fa := [.glo "denied", .glo "together", .glo "need_letters", .glo "nodes", .glo "is_letter", .glo "parts_of", .glo "shown", .glo "part_shown", .glo "read", .glo "written", .glo "words", .glo "close_level", .glo "take_word", .glo "_law_cell_at", .glo "_law_letters", .glo "_law_size", .glo "_law_around", .glo "_law_joined", .glo "_law_step", .glo "law", .glo "Level", .cls "Level", .mkr "Level", .noat "Level" "branches", .noat "Level" "halves", .noat "Level" "row", .noat "Level" "nots", .meth "Level" "__init__", .meth "Level" "take_not", .meth "Level" "take_atom", .meth "Level" "take_star", .meth "Level" "end_half", .meth "Level" "end_branch", .meth "Level" "told", .meth "Level" "need_item", .glo "MARKS", .glo "BRACKETED", .glo "NONE", .glo "EMPTY", .glo "PatternError", .glo "NoLetters", .glo "TooGreat", .glo "NoText", .exc "PatternError", .exc "NoLetters", .exc "TooGreat", .exc "NoText", .free "all", .free "isinstance", .free "len", .free "min", .free "range", .free "set", .free "str", .free "sum", .free "tuple", .int "MOST_LETTERS" 4, .int "MOST_NODES" 60, .int "MOST_WRITTEN" 400, .exm "PatternError" "PatternError" true, .exm "NoLetters" "PatternError" true, .exm "TooGreat" "PatternError" true, .exm "NoText" "PatternError" true]
def ts : List He.Tab := [(fun K => He.ga K "MARKS", ["row", "and", "or"]), (fun K => He.ga K "BRACKETED", ["row", "and", "or", "many", "not"])]
def tf : List He.Defn := [("need_letters", none)]
def names0 : List PySem.Str := ["denied", "together", "need_letters", "nodes", "is_letter", "parts_of", "shown", "part_shown", "read", "written", "words", "close_level", "take_word", "_law_cell_at", "_law_letters", "_law_size", "_law_around", "_law_joined", "_law_step", "PatternError"]
def names1 : List PySem.Str := ["NoLetters", "TooGreat", "NoText", "Level", "MOST_LETTERS", "MOST_NODES", "NONE", "EMPTY", "MOST_WRITTEN", "MARKS", "BRACKETED"]
def names : List PySem.Str := names0 ++ names1

/-- a tuple of texts of the top -/
def tupB (K : PySem.W.Frag) (a : Addr) (zs : List PySem.Str) : Bool := match K.lookup a with
  | some o => decide (o.cls = .type "tuple") && (match o.data with
    | .seq its _ => decide (its.toList.length ≤ 100) && decide (its.toList.map (fun u => match u with | .str z _ => some z | _ => none) = zs.map some)
    | _ => false)
  | none => false
def strB (K : PySem.W.Frag) (d : Addr) (k z : PySem.Str) : Bool := match PySem.W.nsIn K d k with
  | some (some (.str y _)) => decide (y = z)
  | _ => false
def brA (K : PySem.W.Frag) (d : Addr) (k : PySem.Str) : Addr := match PySem.W.nsIn K d k with
  | some (some (.ref a)) => a
  | _ => 0
def brB (K : PySem.W.Frag) (d : Addr) (k : PySem.Str) (zs : List PySem.Str) : Bool := decide (PySem.W.nsIn K d k = some (some (.ref (brA K d k)))) && tupB K (brA K d k) zs
def exT (K : PySem.W.Frag) : List Bool := [tupB K (He.ga K "NONE") ["none"], tupB K (He.ga K "EMPTY") ["empty"], strB K (He.ga K "MARKS") "row" "", strB K (He.ga K "MARKS") "and" "&", strB K (He.ga K "MARKS") "or" "|", brB K (He.ga K "BRACKETED") "row" ["row", "and", "or"], brB K (He.ga K "BRACKETED") "and" ["and", "or"], brB K (He.ga K "BRACKETED") "or" ["or"], brB K (He.ga K "BRACKETED") "many" ["row", "and", "or", "not"], brB K (He.ga K "BRACKETED") "not" ["row", "and", "or"]]
def ex (K : PySem.W.Frag) : Bool := (exT K).all id
abbrev R : PySem.W.OpenRow := PySem.W.OpenLaw.row PySem.Challenge.rw_bothreed_k02_shown_and_read
abbrev hk : PySem.W.Hook := He.hookX 4 fa fn ts tf ex
def ob (s : PySem.W.SharedT) : He.AlX := He.obsX 4 fa fn ts tf ex (HandSHeadRun.getT s)
theorem ob_eq (s : PySem.W.SharedT) : ob s = hk.obs s.abs := He.obsX_eq (HandSHeadRun.getT_eq s)
theorem run (w : World) : HandSHeadRun.RunEq R (PySem.W.view R.prog [36]) hk ob 9000 names w := by
  refine PySem.W.byRow2 "special-get-raises" (P := fun w => HandSHeadRun.RunEq R (PySem.W.view R.prog [36]) hk ob 9000 names w) (fun w => ?_) (fun w => ?_) w
  · intro os
    kernel_rfl
  · intro os
    kernel_rfl
end Bo
set_option Elab.async false
set_option linter.all false
set_option maxRecDepth 100000
set_option maxHeartbeats 4000000
namespace Bo
open PySem PySem.Spec PyProof.Rows L2 GE
/-- the text's codes -/
abbrev cds (z : Str) : List Nat := z.cps.toList
/-- an own error class -/
structure EX (K : PySem.W.Frag) (mg : Str → Option Value) (x : Str) (C : Addr) : Prop where
  g : mg x = some (.ref C)
  q : PySem.W.excIn K C He.veBase "ValueError.__new__" = true
  k : PySem.W.keepIn K (.ref C) = true
  s : PySem.W.subIn K (.ref C) (.type "BaseException") = some true
  t : PySem.W.typeIn K (.ref C) = some (.type "type")
def tys : List String := ["NoneType", "bool", "int", "str", "list", "tuple", "dict"]
/-- a value of a known kind -/
def Kn (K : PySem.W.Frag) (H : Hp) (v : V) (T : String) : Prop := TyX K H v (.type T) ∧ T ∈ tys
theorem kn_str {K : PySem.W.Frag} {T : String} (h : T ∈ tys) : PySem.W.kitOne K (.type T) (.type "str") = some (decide (T = "str")) := by
  simp only [tys, List.mem_cons, List.not_mem_nil, or_false] at h
  rcases h with rfl | rfl | rfl | rfl | rfl | rfl | rfl <;> exact kit_ty (by decide +kernel)
theorem kn_tup {K : PySem.W.Frag} {T : String} (h : T ∈ tys) : PySem.W.kitOne K (.type T) (.type "tuple") = some (decide (T = "tuple")) := by
  simp only [tys, List.mem_cons, List.not_mem_nil, or_false] at h
  rcases h with rfl | rfl | rfl | rfl | rfl | rfl | rfl <;> exact kit_ty (by decide +kernel)
def tagS : V → Value → Prop
  | .str _, t => t = .type "str"
  | _, t => t ≠ .type "str"
theorem tag_s {K : PySem.W.Frag} {H : Hp} {v : V} {t : Value} (h : TyX K H v t) : tagS v t := by
  cases h with
  | base b => cases b <;> first | exact rfl | exact fun e => (by injection e with e; exact absurd e (by decide)) | exact fun e => nomatch e
  | _ => exact fun e => (by injection e with e; exact absurd e (by decide))
theorem Kn.str {K : PySem.W.Frag} {H : Hp} {v : V} (h : Kn K H v "str") : ∃ z, v = .str z := by
  have q := tag_s h.1
  cases v <;> first | exact ⟨_, rfl⟩ | exact absurd rfl q
theorem Kn.ofStr (K : PySem.W.Frag) (H : Hp) (z : Str) : Kn K H (.str z) "str" := ⟨.base (.str z), by decide⟩
theorem Kn.notStr {K : PySem.W.Frag} {H : Hp} {v : V} {T : String} (h : Kn K H v T) (n : T ≠ "str") : ∀ z, v ≠ .str z := by
  rintro z rfl
  have q : Value.type T = .type "str" := tag_s h.1
  exact n (by injection q)
def goodS (z : Str) : Bool := decide (1 ≤ z.cps.size) && decide (z.cps.size ≤ 4) && (cds z).all (fun c => decide (97 ≤ c ∧ c ≤ 122)) && decide (unlike z z.cps.size = z.cps.size)
def goodV : V → Bool
  | .str z => goodS z
  | _ => false
theorem goodV_not {v : V} (h : ∀ z, v ≠ .str z) : goodV v = false := by
  cases v <;> first | rfl | exact absurd rfl (h _)
def spNL (K : PySem.W.Frag) (C T : Addr) : Sp := fun vs H Q E => ∃ (v : V) (Ty : String), vs = [v] ∧ Kn K H v Ty ∧ (∀ z, v = .str z → z.cps.size ≤ 100) ∧ GxR.TabG H T ∧ (goodV v = true → ∀ H', Ext H H' → Q .non H') ∧ (goodV v = false → ∀ H', Ext H H' → E (.ref C) none H')
theorem lt_sign (a b : Nat) : (!decide ([a] < [b])) = decide (b ≤ a) := by
  rw [Bool.eq_iff_iff, Bool.not_eq_true', decide_eq_false_iff_not, decide_eq_true_eq, List.cons_lt_cons_iff]
  constructor
  · intro h; apply Nat.not_lt.mp; exact fun e => h (.inl e)
  · rintro h (e | ⟨_, e⟩)
    · omega
    · exact absurd e (List.not_lt_nil _)
theorem get_all {p : Nat → Bool} {l : List Nat} {i : Nat} {c : Nat} (h : l[i]? = some c) : (l.take (i + 1)).all p = ((l.take i).all p && p c) := by
  rw [List.take_succ, List.all_append, h]; simp
theorem all_false {p : Nat → Bool} {l : List Nat} {i : Nat} {c : Nat} (h : l[i]? = some c) (hp : p c = false) : l.all p = false := by
  rw [List.all_eq_false]
  exact ⟨c, List.mem_of_getElem? h, by rw [hp]; exact Bool.false_ne_true⟩
section
variable {P : Program} {w : World} {K : PySem.W.Frag} {mg : Str → Option Value} {base : Heap}
/-- all over a text -/
theorem quant_str {stopv : Bool} {T : Addr} {x : Str} {te : TE} {σ : L2.St} {H1 : Hp} {Q : VK} (h0 : GxR.TabG H1 T) (Pv : Nat → Hp → Prop) (p0 : ∀ H, Ext H1 H → Pv 0 H)
    (hs : ∀ i c H, x.cps[i]? = some c → Pv i H → te (σ ++ [some (.str ⟨#[c]⟩)]) H fun y H3 => ∃ b, y = .bl b ∧ if b = stopv then Q (.bl stopv) H3 else Pv (i + 1) H3) (hd : ∀ H, Pv x.cps.size H → Q (.bl (!stopv)) H) :
    GxR.TabG H1 T ∧ ∀ H2, GxR.Tabbed T H1 H2 → ∃ W : Nat → Nat → Hp → Prop, (∃ m, W 0 m H2) ∧ ∀ i m H, W i m H →
      ((Its x).stop i H ∧ Q (.bl (!stopv)) H) ∨ ((Its x).go i H ∧ ∃ Nx : Hp → Prop, (∀ H', Nx H' → ∃ m', m' < m ∧ W (i + 1) m' H') ∧ ∀ v H', (Its x).yld i H v H' → te (σ ++ [some v]) H' fun y H3 => ∃ b, y = .bl b ∧ if b = stopv then Q (.bl stopv) H3 else Nx H3) := by
  refine ⟨h0, fun H2 hT => ⟨fun i m H => i ≤ x.cps.size ∧ m = x.cps.size - i ∧ Pv i H, ⟨x.cps.size, Nat.zero_le _, rfl, p0 H2 (Ext.tabbed h0 hT)⟩, ?_⟩⟩
  rintro i m H ⟨hi, rfl, p⟩
  by_cases hlt : i < x.cps.size
  · refine .inr ⟨hlt, Pv (i + 1), fun H' p' => ⟨x.cps.size - (i + 1), by omega, hlt, rfl, p'⟩, fun v H' y => ?_⟩
    obtain ⟨e, c, hc, y⟩ := y
    subst e
    subst y
    exact hs i c H' hc p
  · have e : i = x.cps.size := by omega
    subst e
    exact .inl ⟨Nat.le_refl _, hd H p⟩
theorem t_next {D : Ends} {σ : L2.St} {H : Hp} (h : D.nx σ H) : tNext D σ H := h
theorem if_notB {t : TE} {a b : TS} {D : Ends} {σ : L2.St} {H : Hp} (h : t σ H fun x H1 => ∃ c, x = .bl c ∧ if (!c) = true then a D σ H1 else b D σ H1) : tIfS (tNot (tB t)) a b D σ H := h
theorem qs_var {stopv : Bool} {T : Addr} {x : Str} {te : TE} {σ : L2.St} {H1 : Hp} {Q : VK} {j : Nat} (hj : σ[j]? = some (some (.str x))) (h0 : GxR.TabG H1 T) (Pv : Nat → Hp → Prop) (p0 : ∀ H, Ext H1 H → Pv 0 H)
    (hs : ∀ i c H, x.cps[i]? = some c → Pv i H → te (σ ++ [some (.str ⟨#[c]⟩)]) H fun y H3 => ∃ b, y = .bl b ∧ if b = stopv then Q (.bl stopv) H3 else Pv (i + 1) H3) (hd : ∀ H, Pv x.cps.size H → Q (.bl (!stopv)) H) : tQuant stopv T (iStr (tVar j)) te σ H1 Q :=
  ⟨_, hj, x, rfl, quant_str h0 Pv p0 hs hd⟩
theorem scNL : FnScope ["letters"] ["letters"] (defScope sNeedLetters) := ⟨rfl, rfl, rfl, by decide +kernel, rfl, by decide +kernel, by decide +kernel⟩
theorem nl_ok {f : Addr} {fd : FuncData} {c T C : Addr} {tk : Tok} (F : FnP K "need_letters" sNeedLetters f fd) (hc : fd.code = .ref c) (TB : GxR.TabB base mg c T) (X : EX K mg "NoLetters" C) (mi : mg "isinstance" = none) (ms : mg "str" = none) (ml : mg "len" = none) (ma : mg "all" = none) (mset : mg "set" = none) (mL : mg "MOST_LETTERS" = some (.int 4 tk)) :
    FnOk P w K mg base (L2N.CX P w) 3 f fd ["letters"] (spNL K C T) := by
  refine okC F hc scNL (fun vs H Q E h => ?_) (fun A outer s H vs Q E hr h => ?_)
  · obtain ⟨z, _, rfl, _⟩ := h
    rfl
  obtain ⟨v, Ty, rfl, hk, hz, hT, qg, qb⟩ := h
  refine ⟨_, pss_cons (ps_if (pt_not (pt_val (pe_callB call_isi rfl mi (by decide +kernel) (pa_cons (pv 0) (pa_cons (pe_bltn (v := .ty "str") (u := .type "str") rfl ms (by decide +kernel) rfl) pa_nil)))))
      (pss_one (L2N.ps_raise rfl (L2N.takes_of rfl rfl rfl rfl) (L2N.pmk_own PySem.F.excBase_ValueError X.q X.g X.k (raises_own X.s X.t) rfl))) pss_nil)
    (pss_cons (ps_if (pt_not (pt_chain op_le op_le pe_int (pe_callB call_len rfl ml PySem.boot_len (pa_cons (pv 0) pa_nil)) (pe_glob (v := .int 4) rfl mL ⟨_, rfl⟩)))
      (pss_one (L2N.ps_raise rfl (L2N.takes_of rfl rfl rfl rfl) (L2N.pmk_own PySem.F.excBase_ValueError X.q X.g X.k (raises_own X.s X.t) rfl))) pss_nil)
    (pss_cons (ps_if (pt_not (pt_val (pe_allE rfl hr rfl ma TB rfl (gsc_by (N := ["letters"]) (sc := defScope sNeedLetters) (by decide +kernel)) (pi_str (pv 0))
        (fun s H C code fp => pe_chain op_le_str op_le_str pe_str (pv 1) pe_str) (fun _ => rfl))))
      (pss_one (L2N.ps_raise rfl (L2N.takes_of rfl rfl rfl rfl) (L2N.pmk_own PySem.F.excBase_ValueError X.q X.g X.k (raises_own X.s X.t) rfl))) pss_nil)
    (pss_one (ps_if (pt_cmpR op_ne (pe_lenSetT rfl rfl ml rfl mset (pv 0)) (pe_callB call_len rfl ml PySem.boot_len (pa_cons (pv 0) pa_nil)) (nomark _))
      (pss_one (L2N.ps_raise rfl (L2N.takes_of rfl rfl rfl rfl) (L2N.pmk_own PySem.F.excBase_ValueError X.q X.g X.k (raises_own X.s X.t) rfl))) pss_nil)))), ?_⟩
  refine t_seq ⟨v, rfl, v, .ty "str", .type Ty, .type "str", _, rfl, .ty _, hk.1, kn_str hk.2, _, rfl, ?_⟩
  by_cases hs : Ty = "str"
  case neg => exact iffT (by rw [Bool.not_eq_true', decide_eq_false_iff_not]; exact hs) (qb (goodV_not (hk.notStr hs)) _ (Ext.refl _))
  subst hs
  obtain ⟨z, rfl⟩ := hk.str
  have hz := hz z rfl
  have qg : goodS z = true → ∀ H', Ext H H' → Q .non H' := qg
  have qb : goodS z = false → ∀ H', Ext H H' → E (.ref C) none H' := qb
  have ln : z.length ≤ sizeLine := Nat.le_trans hz (by decide)
  have hn : (cds z).length = z.cps.size := Array.length_toList
  refine iffF (by decide) ?_
  refine t_seq ⟨.str z, rfl, .str z, _, rfl, ⟨ln, rfl⟩, _, _, rfl, rfl, _, rfl, ?_⟩
  by_cases h1 : 1 ≤ z.cps.size
  · refine iffT (decide_eq_true (by show (1 : Int) ≤ ((z.cps.size : Nat) : Int); omega)) ⟨_, _, rfl, rfl, _, rfl, ?_⟩
    by_cases h4 : z.cps.size ≤ 4
    · refine iffF (by rw [Bool.not_eq_false', decide_eq_true_eq]; show ((z.cps.size : Nat) : Int) ≤ 4; omega) ?_
      dsimp only [tNext]
      refine t_seq ?_
      refine if_notB ?_
      refine qs_var rfl hT (fun i H' => Ext H H' ∧ ((cds z).take i).all (fun c => decide (97 ≤ c ∧ c ≤ 122)) = true) (fun H' e => ⟨e, rfl⟩) ?_ ?_
      · rintro i c H' hc ⟨e, hall⟩
        have hc' : (cds z)[i]? = some c := by rw [← hc]; exact Array.getElem?_toList
        refine ⟨_, rfl, _, _, rfl, rfl, _, rfl, ?_⟩
        rw [show (!decide ((⟨#[c]⟩ : Str).cps.toList < (Str.ofString "a").cps.toList)) = decide (97 ≤ c) from lt_sign c 97]
        by_cases ha : 97 ≤ c
        · refine iffT (decide_eq_true ha) ⟨_, _, rfl, rfl, _, rfl, ?_⟩
          rw [show (!decide ((Str.ofString "z").cps.toList < (⟨#[c]⟩ : Str).cps.toList)) = decide (c ≤ 122) from lt_sign 122 c]
          by_cases hz : c ≤ 122
          · rw [if_neg (by rw [decide_eq_true hz]; decide)]
            exact ⟨e, by rw [get_all hc', hall, decide_eq_true (And.intro ha hz)]; rfl⟩
          · rw [if_pos (decide_eq_false hz)]
            refine ⟨_, rfl, iffT rfl (qb ?_ _ e)⟩
            rw [goodS, all_false hc' (decide_eq_false (fun e => hz e.2))]; simp
        · refine iffF (decide_eq_false ha) ⟨_, rfl, ?_⟩
          rw [if_pos rfl]
          refine ⟨_, rfl, iffT rfl (qb ?_ _ e)⟩
          rw [goodS, all_false hc' (decide_eq_false (fun e => ha e.1))]; simp
      · rintro H' ⟨e, hall⟩
        rw [← hn, List.take_length] at hall
        refine ⟨_, rfl, iffF rfl ?_⟩
        refine ⟨.str z, rfl, z, rfl, hz, .str z, rfl, .str z, _, rfl, ⟨ln, rfl⟩, rfl, _, rfl, ?_⟩
        rw [dec_int]
        by_cases hu : unlike z z.cps.size = z.cps.size
        · refine iffF (by rw [hu]; simp; rfl) (qg ?_ _ e)
          rw [goodS, hall, decide_eq_true h1, decide_eq_true h4, decide_eq_true hu]; rfl
        · refine iffT (by rw [Bool.not_eq_true', beq_eq_false_iff_ne]; intro h; exact hu (Int.ofNat.inj h)) (qb ?_ _ e)
          rw [goodS, decide_eq_false hu]; simp
    · refine iffT (by rw [Bool.not_eq_true', decide_eq_false_iff_not]; show ¬ ((z.cps.size : Nat) : Int) ≤ 4; omega) ?_
      exact qb (by simp [goodS, h4]) _ (Ext.refl _)
  · refine iffF (decide_eq_false (by show ¬ (1 : Int) ≤ ((z.cps.size : Nat) : Int); omega)) ⟨_, rfl, iffT rfl ?_⟩
    exact qb (by simp [goodS, h1]) _ (Ext.refl _)
end
end Bo
set_option Elab.async false
set_option linter.all false
set_option maxRecDepth 100000
/-! list.extend(a tuple) -/
namespace GE
open PySem PySem.Spec PyProof.Rows L2 PySem.AutoSeq1
theorem list_extend_tuple (l : Addr) (items : Array Value) (n : Nat) (b : Addr) (items2 : Array Value) (n2 : Nat) (dd : Option Addr) (sl : Array (Option Value)) (hs0 : ¬(!items.isEmpty && Builtin.List.listTooLong (items.size + items2.size)) = true) (hs1 : items.size ≤ sizeLine) (hs2 : items.size + items2.size ≤ sizeLine + 1) :
    Meets (Builtin.«list.extend» ⟨[.ref l, .ref b], []⟩) (fun _ R s => s.heap.get? l = some { cls := .type "list", dict := none, data := .seq items n, slots := #[] } ∧ s.heap.get? b = some { cls := .type "tuple", dict := dd, data := .seq items2 n2, slots := sl } ∧ R (.ok (.ret Value.none)) { s with heap := s.heap.update l (Obj.mapSeq fun x => x ++ items2), toks := s.toks }) :=
  .of_wp fun prog w A R s h => by
    obtain ⟨hp, g, d, tk, os⟩ := s; obtain ⟨hl, hb, h⟩ := h; have f1 := idx_int; have f2 := AutoSeq1.sub_tuple_tuple; have f3 := AutoSeq1.sub_list_list; have f4 := AutoSeq1.sub_tuple_list; have f5 := AutoSeq1.sub_list_tuple;
    have hz' : (items ++ items2).size ≤ sizeLine + 1 := by rw [Array.size_append]; exact hs2
    wp_walk using (wpAny_updateSeq hl rfl (hz := hs1) (_hz' := hz')), AutoSeq1.wpAny_loadPart' hl, AutoSeq1.wpAny_loadPart' hb; exact ⟨_, rfl, h⟩
variable {X : Cx}
def rExtendTu : V → List V → Hp → VK → Prop := fun x vs H Q => ∃ l b xs zs, x = .ref l ∧ vs = [.ref b] ∧ H l = some (.lst xs) ∧ SqT X.K H b zs ∧ xs.length + zs.length ≤ sizeLine ∧ Q .non (upd H l (.lst (xs ++ zs)))
theorem mt_extendT : MtM X "list.extend" (rExtendTu (X := X)) := by
  intro pins s σ H x vs v us Q I rx rv h
  obtain ⟨l, b, xs, zs, rfl, rfl, hH, hB, hz, q⟩ := h
  cases rx
  obtain ⟨u, rfl, ru⟩ := rv.one
  cases ru
  obtain ⟨z, its, n, r, hl, e⟩ := I.lstM hH
  obtain ⟨its2, r2, ⟨⟨oc, od, odat, osl⟩, e2, ec, n2, ed⟩, _⟩ := I.tuple hB
  have ec : oc = .type "tuple" := ec
  have ed : odat = .seq its2.toArray n2 := ed
  subst ec
  subst ed
  have hl2 := r2.length
  have hsz : its.toArray.size + its2.toArray.size ≤ sizeLine := by rw [List.size_toArray, List.size_toArray]; omega
  have hlong : ¬ (!its.toArray.isEmpty && Builtin.List.listTooLong (its.toArray.size + its2.toArray.size)) = true := by
    rw [notLongL hsz, Bool.and_false]
    exact Bool.false_ne_true
  refine call_meets F.slot_list_extend ⟨_, e, rfl⟩ F.entry_list_extend (F.args_list_extend_2 _ _)
    (list_extend_tuple l its.toArray n b its2.toArray n2 od osl hlong (by rw [List.size_toArray]; omega) (by omega)) ⟨e, e2, ?_⟩
  refine ⟨.non, _, I.lset (its' := its ++ its2) hH e (by simp) (r.append r2) ?_, rfl, q⟩
  rw [List.length_append]
  omega
end GE
set_option Elab.async false
set_option linter.all false
set_option maxRecDepth 100000
set_option maxHeartbeats 4000000
namespace Bo
open PySem PySem.Spec PyProof.Rows L2 GE
mutual
/-- a pattern over the letters of L -/
def Pat.ok (L : Str) : Pat → Prop
  | .none => True | .empty => True
  | .sign c => c ∈ cds L
  | .row ps => 2 ≤ ps.length ∧ okL L ps
  | .or ps => 2 ≤ ps.length ∧ okL L ps
  | .and ps => 2 ≤ ps.length ∧ okL L ps
  | .many p => p.ok L | .not p => p.ok L
def okL (L : Str) : List Pat → Prop
  | [] => True
  | p :: ps => p.ok L ∧ okL L ps
end
def Pat.parts : Pat → List Pat
  | .row ps => ps | .or ps => ps | .and ps => ps
  | .many p => [p] | .not p => [p]
  | _ => []
theorem size_parts (p : Pat) : p.size = sizeL p.parts + 1 := by cases p <;> simp [Pat.size, Pat.parts, sizeL]
theorem ok_parts {L : Str} {p : Pat} (h : p.ok L) : okL L p.parts := by
  cases p with
  | none => trivial
  | empty => trivial
  | sign => trivial
  | row ps => exact h.2
  | or ps => exact h.2
  | and ps => exact h.2
  | many p => exact ⟨h, trivial⟩
  | not p => exact ⟨h, trivial⟩
theorem sizeL_append : ∀ (ps qs : List Pat), sizeL (ps ++ qs) = sizeL ps + sizeL qs
  | [], qs => by simp [sizeL]
  | p :: ps, qs => by rw [List.cons_append, sizeL, sizeL, sizeL_append ps qs]; omega
theorem okL_append {L : Str} : ∀ {ps qs : List Pat}, okL L (ps ++ qs) ↔ okL L ps ∧ okL L qs
  | [], qs => by simp [okL]
  | p :: ps, qs => by rw [List.cons_append, okL, okL, okL_append (ps := ps)]; exact ⟨fun ⟨a, b, c⟩ => ⟨⟨a, b⟩, c⟩, fun ⟨⟨a, b⟩, c⟩ => ⟨a, b, c⟩⟩
theorem len_le_sizeL : ∀ ps : List Pat, ps.length ≤ sizeL ps
  | [] => Nat.le_refl _
  | p :: ps => by have := size_pos p; have := len_le_sizeL ps; rw [List.length_cons, sizeL]; omega
/-! patterns at values, in the heap or of the top -/
mutual
def PatQ (K : PySem.W.Frag) (H : Hp) : Pat → V → Prop
  | .none => fun v => ∃ a, v = .ref a ∧ SqT K H a [.str "none"]
  | .empty => fun v => ∃ a, v = .ref a ∧ SqT K H a [.str "empty"]
  | .sign c => fun v => ∃ a, v = .ref a ∧ SqT K H a [.str "sign", .str ⟨#[c]⟩]
  | .row ps => fun v => ∃ a b vs, v = .ref a ∧ SqT K H a [.str "row", .ref b] ∧ SqT K H b vs ∧ PatsQ K H ps vs
  | .or ps => fun v => ∃ a b vs, v = .ref a ∧ SqT K H a [.str "or", .ref b] ∧ SqT K H b vs ∧ PatsQ K H ps vs
  | .and ps => fun v => ∃ a b vs, v = .ref a ∧ SqT K H a [.str "and", .ref b] ∧ SqT K H b vs ∧ PatsQ K H ps vs
  | .many p => fun v => ∃ a u, v = .ref a ∧ SqT K H a [.str "many", u] ∧ PatQ K H p u
  | .not p => fun v => ∃ a u, v = .ref a ∧ SqT K H a [.str "not", u] ∧ PatQ K H p u
def PatsQ (K : PySem.W.Frag) (H : Hp) : List Pat → List V → Prop
  | [] => fun vs => vs = []
  | p :: ps => fun vs => ∃ v r, vs = v :: r ∧ PatQ K H p v ∧ PatsQ K H ps r
end
/-- the tuples stay -/
def Tk (K : PySem.W.Frag) (H H' : Hp) : Prop := ∀ a xs, SqT K H a xs → SqT K H' a xs
theorem Tk.refl {K : PySem.W.Frag} (H : Hp) : Tk K H H := fun _ _ h => h
theorem Tk.trans {K : PySem.W.Frag} {H H1 H2 : Hp} (a : Tk K H H1) (b : Tk K H1 H2) : Tk K H H2 := fun x xs h => b x xs (a x xs h)
theorem Ext.sqT {K : PySem.W.Frag} {H H' : Hp} (e : Ext H H') : Tk K H H' := fun a xs h => by
  rcases h with (h | ⟨o, h⟩) | h
  · exact .inl (.inl (e.keep _ _ h (fun ps z => by cases z)))
  · exact .inl (.inr ⟨o, e.keep _ _ h (fun ps z => by cases z)⟩)
  · exact .inr h
mutual
theorem PatQ.ext {K : PySem.W.Frag} {H H' : Hp} (e : Tk K H H') : ∀ (p : Pat) (v : V), PatQ K H p v → PatQ K H' p v
  | .none, v, ⟨a, h1, h2⟩ => ⟨a, h1, e _ _ h2⟩
  | .empty, v, ⟨a, h1, h2⟩ => ⟨a, h1, e _ _ h2⟩
  | .sign c, v, ⟨a, h1, h2⟩ => ⟨a, h1, e _ _ h2⟩
  | .row ps, v, ⟨a, b, vs, h1, h2, h3, h4⟩ => ⟨a, b, vs, h1, e _ _ h2, e _ _ h3, PatsQ.ext e ps vs h4⟩
  | .or ps, v, ⟨a, b, vs, h1, h2, h3, h4⟩ => ⟨a, b, vs, h1, e _ _ h2, e _ _ h3, PatsQ.ext e ps vs h4⟩
  | .and ps, v, ⟨a, b, vs, h1, h2, h3, h4⟩ => ⟨a, b, vs, h1, e _ _ h2, e _ _ h3, PatsQ.ext e ps vs h4⟩
  | .many p, v, ⟨a, u, h1, h2, h3⟩ => ⟨a, u, h1, e _ _ h2, PatQ.ext e p u h3⟩
  | .not p, v, ⟨a, u, h1, h2, h3⟩ => ⟨a, u, h1, e _ _ h2, PatQ.ext e p u h3⟩
theorem PatsQ.ext {K : PySem.W.Frag} {H H' : Hp} (e : Tk K H H') : ∀ (ps : List Pat) (vs : List V), PatsQ K H ps vs → PatsQ K H' ps vs
  | [], vs, h => h
  | p :: ps, vs, ⟨v, r, h1, h2, h3⟩ => ⟨v, r, h1, PatQ.ext e p v h2, PatsQ.ext e ps r h3⟩
end
theorem PatsQ.len {K : PySem.W.Frag} {H : Hp} : ∀ {ps : List Pat} {vs : List V}, PatsQ K H ps vs → vs.length = ps.length
  | [], vs, h => by rw [show vs = [] from h]; rfl
  | p :: ps, vs, ⟨v, r, e, _, h⟩ => by rw [e, List.length_cons, List.length_cons, h.len]
theorem PatsQ.append {K : PySem.W.Frag} {H : Hp} : ∀ {ps qs : List Pat} {vs us : List V}, PatsQ K H ps vs → PatsQ K H qs us → PatsQ K H (ps ++ qs) (vs ++ us)
  | [], qs, vs, us, h, g => by rw [show vs = [] from h]; exact g
  | p :: ps, qs, vs, us, ⟨v, r, e, a, b⟩, g => by rw [e]; exact ⟨v, r ++ us, rfl, a, b.append g⟩
theorem PatsQ.cut {K : PySem.W.Frag} {H : Hp} : ∀ {ps qs : List Pat} {vs : List V}, PatsQ K H (ps ++ qs) vs → ∃ us ws, vs = us ++ ws ∧ PatsQ K H ps us ∧ PatsQ K H qs ws
  | [], qs, vs, h => ⟨[], vs, rfl, rfl, h⟩
  | p :: ps, qs, vs, ⟨v, r, e, a, b⟩ => by
    obtain ⟨us, ws, e2, c, d⟩ := PatsQ.cut (ps := ps) b
    exact ⟨v :: us, ws, by rw [e, e2]; rfl, ⟨v, us, rfl, a, c⟩, d⟩
theorem PatsQ.one {K : PySem.W.Frag} {H : Hp} {p : Pat} {v : V} (h : PatQ K H p v) : PatsQ K H [p] [v] := ⟨v, [], rfl, h, rfl⟩
theorem PatsQ.get {K : PySem.W.Frag} {H : Hp} : ∀ {ps : List Pat} {vs : List V} {i : Nat} {v : V}, PatsQ K H ps vs → vs[i]? = some v → ∃ p, ps[i]? = some p ∧ PatQ K H p v
  | [], vs, i, v, h, e => by rw [show vs = [] from h] at e; cases e
  | p :: ps, vs, 0, v, ⟨u, r, h, a, b⟩, e => by
    rw [h] at e
    cases (Option.some.inj e : u = v)
    exact ⟨p, rfl, a⟩
  | p :: ps, vs, i + 1, v, ⟨u, r, h, a, b⟩, e => by
    rw [h] at e
    exact PatsQ.get (ps := ps) b e
/-- a value by its kind and the rest -/
theorem PatQ.hd {K : PySem.W.Frag} {H : Hp} : ∀ {p : Pat} {v : V}, PatQ K H p v → ∃ a xs, v = .ref a ∧ SqT K H a (.str p.kind :: xs)
  | .none, _, ⟨a, e, h⟩ => ⟨a, _, e, h⟩
  | .empty, _, ⟨a, e, h⟩ => ⟨a, _, e, h⟩
  | .sign _, _, ⟨a, e, h⟩ => ⟨a, _, e, h⟩
  | .row _, _, ⟨a, b, vs, e, h, _⟩ => ⟨a, _, e, h⟩
  | .or _, _, ⟨a, b, vs, e, h, _⟩ => ⟨a, _, e, h⟩
  | .and _, _, ⟨a, b, vs, e, h, _⟩ => ⟨a, _, e, h⟩
  | .many _, _, ⟨a, u, e, h, _⟩ => ⟨a, _, e, h⟩
  | .not _, _, ⟨a, u, e, h, _⟩ => ⟨a, _, e, h⟩
/-! the words of a written pattern -/
inductive Tok where
  | bang | star | amp | bar | unit | null | lp | rp
  | sgn (c : Nat)
/-- the codes of a word -/
def Tok.cs : Tok → List Nat
  | .bang => [33] | .star => [42] | .amp => [38] | .bar => [124] | .unit => [40, 41] | .null => [91, 93] | .lp => [40] | .rp => [41] | .sgn c => [c]
/-- which parts stand in brackets -/
def brk (ks : List Str) (p : Pat) : Bool := decide (p.kind ∈ ks)
def setOf : Str → List Str := fun k => if k = "row" then ["row", "and", "or"] else if k = "and" then ["and", "or"] else if k = "or" then ["or"] else if k = "many" then ["row", "and", "or", "not"] else ["row", "and", "or"]
def inB (b : Bool) (t : List Tok) : List Tok := if b = true then .lp :: (t ++ [.rp]) else t
mutual
/-- the words that write a pattern -/
def tw : Pat → List Tok
  | .none => [.null]
  | .empty => [.unit]
  | .sign c => [.sgn c]
  | .many p => inB (brk ["row", "and", "or", "not"] p) (tw p) ++ [.star]
  | .not p => .bang :: inB (brk ["row", "and", "or"] p) (tw p)
  | .row ps => twL [] ["row", "and", "or"] ps
  | .and ps => twL [.amp] ["and", "or"] ps
  | .or ps => twL [.bar] ["or"] ps
/-- parts with a mark between -/
def twL (m : List Tok) (ks : List Str) : List Pat → List Tok
  | [] => []
  | p :: ps => inB (brk ks p) (tw p) ++ twM m ks ps
/-- more parts, a mark ahead of each -/
def twM (m : List Tok) (ks : List Str) : List Pat → List Tok
  | [] => []
  | p :: ps => m ++ (inB (brk ks p) (tw p) ++ twM m ks ps)
end
/-- the text that writes a pattern -/
def shn (p : Pat) : List Nat := (tw p).flatMap Tok.cs
/-- a level of what is read -/
structure Lv where
  bs : List Pat
  hs : List Pat
  row : List (Nat × Pat)
  n : Nat
def Lv.new : Lv := ⟨[], [], [], 0⟩
def nt : Nat → Pat → Pat
  | 0, p => p
  | n + 1, p => .not (nt n p)
def tog (mk : List Pat → Pat) : List Pat → Pat
  | [p] => p
  | ps => mk ps
def Lv.ready (l : Lv) : Bool := decide (l.n = 0) && !l.row.isEmpty
def Lv.takeNot (l : Lv) : Lv := { l with n := l.n + 1 }
def Lv.takeAtom (l : Lv) (p : Pat) : Lv := { l with row := l.row ++ [(l.n, p)], n := 0 }
def Lv.halved (l : Lv) : Lv := { l with hs := l.hs ++ [tog .row (l.row.map fun q => nt q.1 q.2)], row := [] }
def Lv.branched (l : Lv) : Lv := ⟨l.bs ++ [tog .and l.halved.hs], [], [], l.n⟩
def Lv.said (l : Lv) : Pat := tog .or l.branched.bs
def Lv.starred (l : Lv) : Lv := match l.row.getLast? with
  | some (k, p) => { l with row := l.row.dropLast ++ [(k, .many p)] }
  | none => l
/-- one word, at the levels from the innermost to the outermost; none: it is refused -/
def stepT : Tok → List Lv × Lv → Option (List Lv × Lv)
  | .bang, (s, l) => some (s, l.takeNot)
  | .star, (s, l) => if l.ready = true then some (s, l.starred) else none
  | .amp, (s, l) => if l.ready = true then some (s, l.halved) else none
  | .bar, (s, l) => if l.ready = true then some (s, l.branched) else none
  | .unit, (s, l) => some (s, l.takeAtom .empty)
  | .null, (s, l) => some (s, l.takeAtom .none)
  | .sgn c, (s, l) => some (s, l.takeAtom (.sign c))
  | .lp, (s, l) => some (l :: s, .new)
  | .rp, (s, l) => match s with
    | [] => none
    | o :: s' => if l.ready = true then some (s', o.takeAtom l.said) else none
def runT : List Tok → List Lv × Lv → Option (List Lv × Lv)
  | [], st => some st
  | t :: ts, st => (stepT t st).bind (runT ts)
theorem runT_app : ∀ (a b : List Tok) (st : List Lv × Lv), runT (a ++ b) st = (runT a st).bind (runT b)
  | [], b, st => rfl
  | t :: a, b, st => by
    show (stepT t st).bind (runT (a ++ b)) = ((stepT t st).bind (runT a)).bind (runT b)
    cases stepT t st with
    | none => rfl
    | some s1 => exact runT_app a b s1
/-- how many nots stand ahead of a pattern, and what is behind them -/
def nn : Pat → Nat
  | .not p => nn p + 1
  | _ => 0
def core : Pat → Pat
  | .not p => core p
  | p => p
theorem nt_core : ∀ p : Pat, nt (nn p) (core p) = p
  | .not p => congrArg Pat.not (nt_core p)
  | .none => rfl | .empty => rfl | .sign _ => rfl | .row _ => rfl | .or _ => rfl | .and _ => rfl | .many _ => rfl
theorem nt_add : ∀ (m n : Nat) (p : Pat), nt (m + n) p = nt m (nt n p)
  | 0, n, p => by rw [Nat.zero_add]; rfl
  | m + 1, n, p => by rw [Nat.succ_add]; exact congrArg Pat.not (nt_add m n p)
/-- a whole text of words is read to the pattern -/
def Whole (p : Pat) : Prop := ∀ s, ∃ l, runT (tw p) (s, .new) = some (s, l) ∧ l.ready = true ∧ l.said = p
/-- an item -/
def Item (ks : List Str) (p : Pat) : Prop := ∀ s l, ∃ k a, runT (inB (brk ks p) (tw p)) (s, l) = some (s, { l with row := l.row ++ [(l.n + k, a)], n := 0 }) ∧ nt k a = p
theorem item_in {ks : List Str} {p : Pat} (h : Whole p) (hb : brk ks p = true) : ∀ s l, runT (inB (brk ks p) (tw p)) (s, l) = some (s, { l with row := l.row ++ [(l.n, p)], n := 0 }) := by
  intro s l
  obtain ⟨l', h1, h2, h3⟩ := h (l :: s)
  rw [hb]
  show (some (l :: s, Lv.new)).bind (runT (tw p ++ [.rp])) = _
  show runT (tw p ++ [.rp]) (l :: s, Lv.new) = _
  rw [runT_app, h1]
  show ((if l'.ready = true then some (s, l.takeAtom l'.said) else none : Option (List Lv × Lv))).bind (runT []) = _
  rw [if_pos h2, h3]
  rfl
end Bo
set_option Elab.async false
set_option linter.all false
set_option maxRecDepth 100000
set_option maxHeartbeats 4000000
namespace Bo
open PySem PySem.Spec PyProof.Rows L2 GE
abbrev K3 : List Str := ["row", "and", "or"]
abbrev K4 : List Str := ["row", "and", "or", "not"]
abbrev KA : List Str := ["and", "or"]
abbrev KO : List Str := ["or"]
def ntq (q : Nat × Pat) : Pat := nt q.1 q.2
/-- a whole atom -/
def At (p : Pat) : Prop := ∀ s l, runT (inB (brk K4 p) (tw p)) (s, l) = some (s, { l with row := l.row ++ [(l.n, p)], n := 0 })
def Half (p : Pat) : Prop := ∀ s bs hs, ∃ row, runT (inB (brk KA p) (tw p)) (s, ⟨bs, hs, [], 0⟩) = some (s, ⟨bs, hs, row, 0⟩) ∧ row ≠ [] ∧ tog .row (row.map ntq) = p
def Bran (p : Pat) : Prop := ∀ s bs, ∃ hs row, runT (inB (brk KO p) (tw p)) (s, ⟨bs, [], [], 0⟩) = some (s, ⟨bs, hs, row, 0⟩) ∧ row ≠ [] ∧ tog .and (hs ++ [tog .row (row.map ntq)]) = p
structure Rd5 (p : Pat) : Prop where
  w : Whole p
  i : Item K3 p
  a : At p
  h : Half p
  b : Bran p
theorem ready_of {bs hs : List Pat} {row : List (Nat × Pat)} (h : row ≠ []) : (⟨bs, hs, row, 0⟩ : Lv).ready = true := by
  cases row with
  | nil => exact absurd rfl h
  | cons x xs => rfl
theorem whole_of {p : Pat} (hb : brk KO p = false) (b : Bran p) : Whole p := fun s => by
  obtain ⟨hs, row, h1, h2, h3⟩ := b s []
  rw [hb] at h1
  refine ⟨_, h1, ready_of h2, ?_⟩
  show tog .or ([] ++ [tog .and (hs ++ [tog .row (row.map ntq)])]) = p
  rw [h3]; rfl
theorem bran_of {p : Pat} (h1 : brk KO p = false) (h2 : brk KA p = false) (h : Half p) : Bran p := fun s bs => by
  obtain ⟨row, a, b, c⟩ := h s bs []
  rw [h2] at a
  exact ⟨[], row, by rw [h1]; exact a, b, by rw [c]; rfl⟩
theorem half_of {p : Pat} (h1 : brk KA p = false) (h2 : brk K3 p = false) (i : Item K3 p) : Half p := fun s bs hs => by
  obtain ⟨k, a, e, f⟩ := i s ⟨bs, hs, [], 0⟩
  rw [h2] at e
  refine ⟨[(0 + k, a)], by rw [h1]; exact e, by simp, ?_⟩
  show nt (0 + k) a = p
  rw [Nat.zero_add]; exact f
theorem half_in {p : Pat} (w : Whole p) (h : brk KA p = true) : Half p := fun s bs hs => ⟨[(0, p)], item_in w h s ⟨bs, hs, [], 0⟩, by simp, rfl⟩
theorem bran_in {p : Pat} (w : Whole p) (h : brk KO p = true) : Bran p := fun s bs => ⟨[], [(0, p)], item_in w h s ⟨bs, [], [], 0⟩, by simp, rfl⟩
theorem it_in {p : Pat} (w : Whole p) (h : brk K3 p = true) : Item K3 p := fun s l => ⟨0, p, item_in w h s l, rfl⟩
theorem at_in {p : Pat} (w : Whole p) (h : brk K4 p = true) : At p := fun s l => item_in w h s l
theorem rd_leaf {p : Pat} (a : At p) (h4 : brk K4 p = false) (h3 : brk K3 p = false) (hA : brk KA p = false) (hO : brk KO p = false) : Rd5 p := by
  have i : Item K3 p := fun s l => ⟨0, p, by have := a s l; rw [h4] at this; rw [h3]; exact this, rfl⟩
  have h := half_of hA h3 i
  have b := bran_of hO hA h
  exact ⟨whole_of hO b, i, a, h, b⟩
theorem rowsL (ks : List Str) (hk : ks = K3) : ∀ (ps : List Pat), (∀ p ∈ ps, Item K3 p) → ∀ s l, l.n = 0 → ∃ r, runT (twM [] ks ps) (s, l) = some (s, { l with row := l.row ++ r }) ∧ r.map ntq = ps
  | [], _, s, l, hn => ⟨[], by rw [List.append_nil]; rfl, rfl⟩
  | p :: ps, hi, s, l, hn => by
    obtain ⟨k, a, e, f⟩ := hi p List.mem_cons_self s l
    obtain ⟨r, e2, f2⟩ := rowsL ks hk ps (fun q hq => hi q (List.mem_cons_of_mem _ hq)) s { l with row := l.row ++ [(l.n + k, a)], n := 0 } rfl
    refine ⟨(l.n + k, a) :: r, ?_, ?_⟩
    · show runT ([] ++ (inB (brk ks p) (tw p) ++ twM [] ks ps)) (s, l) = _
      rw [List.nil_append, runT_app, hk, e]
      show runT (twM [] K3 ps) _ = _
      rw [← hk, e2]
      show some (s, (⟨l.bs, l.hs, (l.row ++ [(l.n + k, a)]) ++ r, 0⟩ : Lv)) = some (s, ⟨l.bs, l.hs, l.row ++ ((l.n + k, a) :: r), l.n⟩)
      rw [List.append_assoc, hn]; rfl
    · rw [List.map_cons, f2]
      show nt (l.n + k) a :: ps = p :: ps
      rw [hn, Nat.zero_add, f]
theorem andL : ∀ (ps : List Pat), (∀ p ∈ ps, Half p) → ∀ s bs hs row, row ≠ [] → ∃ hs' row', runT (twM [.amp] KA ps) (s, ⟨bs, hs, row, 0⟩) = some (s, ⟨bs, hs', row', 0⟩) ∧ row' ≠ [] ∧ hs' ++ [tog .row (row'.map ntq)] = (hs ++ [tog .row (row.map ntq)]) ++ ps
  | [], _, s, bs, hs, row, hr => ⟨hs, row, rfl, hr, by rw [List.append_nil]⟩
  | p :: ps, hi, s, bs, hs, row, hr => by
    obtain ⟨r1, e1, n1, f1⟩ := hi p List.mem_cons_self s bs (hs ++ [tog .row (row.map ntq)])
    obtain ⟨hs', row', e2, n2, f2⟩ := andL ps (fun q hq => hi q (List.mem_cons_of_mem _ hq)) s bs (hs ++ [tog .row (row.map ntq)]) r1 n1
    refine ⟨hs', row', ?_, n2, ?_⟩
    · show (if (⟨bs, hs, row, 0⟩ : Lv).ready = true then some (s, (⟨bs, hs, row, 0⟩ : Lv).halved) else none : Option (List Lv × Lv)).bind (runT (inB (brk KA p) (tw p) ++ twM [.amp] KA ps)) = _
      rw [if_pos (ready_of hr)]
      show runT (inB (brk KA p) (tw p) ++ twM [.amp] KA ps) (s, ⟨bs, hs ++ [tog .row (row.map ntq)], [], 0⟩) = _
      rw [runT_app, e1]
      exact e2
    · rw [f2, f1]; simp
theorem orL : ∀ (ps : List Pat), (∀ p ∈ ps, Bran p) → ∀ s bs hs row, row ≠ [] → ∃ bs' hs' row', runT (twM [.bar] KO ps) (s, ⟨bs, hs, row, 0⟩) = some (s, ⟨bs', hs', row', 0⟩) ∧ row' ≠ [] ∧ bs' ++ [tog .and (hs' ++ [tog .row (row'.map ntq)])] = (bs ++ [tog .and (hs ++ [tog .row (row.map ntq)])]) ++ ps
  | [], _, s, bs, hs, row, hr => ⟨bs, hs, row, rfl, hr, by rw [List.append_nil]⟩
  | p :: ps, hi, s, bs, hs, row, hr => by
    obtain ⟨h1, r1, e1, n1, f1⟩ := hi p List.mem_cons_self s (bs ++ [tog .and (hs ++ [tog .row (row.map ntq)])])
    obtain ⟨bs', hs', row', e2, n2, f2⟩ := orL ps (fun q hq => hi q (List.mem_cons_of_mem _ hq)) s (bs ++ [tog .and (hs ++ [tog .row (row.map ntq)])]) h1 r1 n1
    refine ⟨bs', hs', row', ?_, n2, ?_⟩
    · show (if (⟨bs, hs, row, 0⟩ : Lv).ready = true then some (s, (⟨bs, hs, row, 0⟩ : Lv).branched) else none : Option (List Lv × Lv)).bind (runT (inB (brk KO p) (tw p) ++ twM [.bar] KO ps)) = _
      rw [if_pos (ready_of hr)]
      show runT (inB (brk KO p) (tw p) ++ twM [.bar] KO ps) (s, ⟨bs ++ [tog .and (hs ++ [tog .row (row.map ntq)])], [], [], 0⟩) = _
      rw [runT_app, e1]
      exact e2
    · rw [f2, f1]; simp
theorem tog_two {mk : List Pat → Pat} {ps : List Pat} (h : 2 ≤ ps.length) : tog mk ps = mk ps := by
  match ps, h with
  | _ :: _ :: _, _ => rfl
mutual
theorem rd5 {L : Str} : ∀ (p : Pat), p.ok L → Rd5 p
  | .none, _ => rd_leaf (fun s l => rfl) rfl rfl rfl rfl
  | .empty, _ => rd_leaf (fun s l => rfl) rfl rfl rfl rfl
  | .sign c, _ => rd_leaf (fun s l => rfl) rfl rfl rfl rfl
  | .many q, h => by
    have hq := (rd5 q h).a
    refine rd_leaf (fun s l => ?_) rfl rfl rfl rfl
    show runT (inB (brk K4 q) (tw q) ++ [.star]) (s, l) = _
    rw [runT_app, hq s l]
    show (if (⟨l.bs, l.hs, l.row ++ [(l.n, q)], 0⟩ : Lv).ready = true then some (s, (⟨l.bs, l.hs, l.row ++ [(l.n, q)], 0⟩ : Lv).starred) else none : Option (List Lv × Lv)).bind (runT []) = _
    rw [if_pos (ready_of (by simp))]
    show some (s, (⟨l.bs, l.hs, l.row ++ [(l.n, q)], 0⟩ : Lv).starred) = _
    have e : (⟨l.bs, l.hs, l.row ++ [(l.n, q)], 0⟩ : Lv).starred = ⟨l.bs, l.hs, l.row ++ [(l.n, .many q)], 0⟩ := by
      unfold Lv.starred
      simp
    rw [e]
  | .not q, h => by
    have hq := (rd5 q h).i
    have i : Item K3 (.not q) := fun s l => by
      obtain ⟨k, a, e, f⟩ := hq s l.takeNot
      refine ⟨k + 1, a, ?_, congrArg Pat.not f⟩
      show runT (inB (brk K3 q) (tw q)) (s, l.takeNot) = _
      rw [e]
      show some (s, (⟨l.bs, l.hs, l.row ++ [(l.n + 1 + k, a)], 0⟩ : Lv)) = some (s, ⟨l.bs, l.hs, l.row ++ [(l.n + (k + 1), a)], 0⟩)
      rw [show l.n + 1 + k = l.n + (k + 1) by omega]
    have hf := half_of (p := .not q) rfl rfl i
    have b := bran_of (p := .not q) rfl rfl hf
    have w := whole_of (p := .not q) rfl b
    exact ⟨w, i, at_in w rfl, hf, b⟩
  | .row ps, h => by
    have hp := rd5L ps h.2
    have hf : Half (.row ps) := fun s bs hs => by
      obtain ⟨r, e, f⟩ := rowsL K3 rfl ps (fun q hq => (hp q hq).i) s ⟨bs, hs, [], 0⟩ rfl
      refine ⟨r, ?_, ?_, by rw [f]; exact tog_two h.1⟩
      · show runT (twL [] K3 ps) (s, ⟨bs, hs, [], 0⟩) = _
        rw [show twL [] K3 ps = twM [] K3 ps by cases ps <;> rfl]
        exact e
      · intro e0
        rw [e0] at f
        have h2 := h.1
        rw [← f] at h2
        exact absurd h2 (by decide)
    have b := bran_of (p := .row ps) rfl rfl hf
    have w := whole_of (p := .row ps) rfl b
    exact ⟨w, it_in w rfl, at_in w rfl, hf, b⟩
  | .and ps, h => by
    have hp := rd5L ps h.2
    have b : Bran (.and ps) := fun s bs => by
      cases ps with
      | nil => exact absurd h.1 (by decide)
      | cons p ps =>
        obtain ⟨r1, e1, n1, f1⟩ := (hp p List.mem_cons_self).h s bs []
        obtain ⟨hs', row', e2, n2, f2⟩ := andL ps (fun q hq => (hp q (List.mem_cons_of_mem _ hq)).h) s bs [] r1 n1
        refine ⟨hs', row', ?_, n2, ?_⟩
        · show runT (inB (brk KA p) (tw p) ++ twM [.amp] KA ps) (s, ⟨bs, [], [], 0⟩) = _
          rw [runT_app, e1]
          exact e2
        · rw [f2, f1]; exact tog_two h.1
    have w := whole_of (p := .and ps) rfl b
    exact ⟨w, it_in w rfl, at_in w rfl, half_in w rfl, b⟩
  | .or ps, h => by
    have hp := rd5L ps h.2
    have w : Whole (.or ps) := fun s => by
      cases ps with
      | nil => exact absurd h.1 (by decide)
      | cons p ps =>
        obtain ⟨h1, r1, e1, n1, f1⟩ := (hp p List.mem_cons_self).b s []
        obtain ⟨bs', hs', row', e2, n2, f2⟩ := orL ps (fun q hq => (hp q (List.mem_cons_of_mem _ hq)).b) s [] h1 r1 n1
        refine ⟨⟨bs', hs', row', 0⟩, ?_, ready_of n2, ?_⟩
        · show runT (inB (brk KO p) (tw p) ++ twM [.bar] KO ps) (s, ⟨[], [], [], 0⟩) = _
          rw [runT_app, e1]
          exact e2
        · show tog .or (bs' ++ [tog .and (hs' ++ [tog .row (row'.map ntq)])]) = _
          rw [f2, f1]; exact tog_two h.1
    exact ⟨w, it_in w rfl, at_in w rfl, half_in w rfl, bran_in w rfl⟩
theorem rd5L {L : Str} : ∀ (ps : List Pat), okL L ps → ∀ p ∈ ps, Rd5 p
  | [], _, p, hp => by cases hp
  | q :: ps, h, p, hp => by
    rcases List.mem_cons.mp hp with e | hp
    · exact e ▸ rd5 q h.1
    · exact rd5L ps h.2 p hp
end
end Bo
set_option Elab.async false
set_option linter.all false
set_option maxRecDepth 100000
set_option maxHeartbeats 4000000
namespace Bo
open PySem PySem.Spec PyProof.Rows L2 GE
def sgn (c : Nat) : Str := ⟨#[c]⟩
def txt (l : List Nat) : Str := ⟨l.toArray⟩
theorem cds_txt (l : List Nat) : cds (txt l) = l := rfl
theorem txt_cds (z : Str) : txt (cds z) = z := by cases z; rfl
theorem txt_inj {a b : List Nat} (h : txt a = txt b) : a = b := congrArg cds h
/-! the words of a text -/
def isLp : Tok → Bool
  | .lp => true | _ => false
/-- no bracket is closed where it was opened -/
def Gd : Bool → List Tok → Bool
  | _, [] => true
  | b, .rp :: ts => !b && Gd false ts
  | _, t :: ts => Gd (isLp t) ts
def lpE : Bool → List Tok → Bool
  | b, [] => b
  | _, t :: ts => lpE (isLp t) ts
theorem gd_app : ∀ (a c : List Tok) (b : Bool), Gd b (a ++ c) = (Gd b a && Gd (lpE b a) c)
  | [], c, b => by simp [Gd, lpE]
  | t :: a, c, b => by
    rw [List.cons_append]
    cases t <;> simp only [Gd, lpE, isLp, gd_app a c, Bool.and_assoc]
theorem lpE_app : ∀ (a c : List Tok) (b : Bool), lpE b (a ++ c) = lpE (lpE b a) c
  | [], c, b => rfl
  | t :: a, c, b => lpE_app a c (isLp t)
/-- fine between whatever -/
def Fine (ts : List Tok) : Prop := (∀ b, Gd b ts = true) ∧ ∀ b, lpE b ts = false
theorem fine_app {a c : List Tok} (h : Fine a) (g : Fine c) : Fine (a ++ c) := ⟨fun b => by rw [gd_app, h.1, g.1]; rfl, fun b => by rw [lpE_app, g.2]⟩
theorem fine_inB {b : Bool} {t : List Tok} (h : Fine t) : Fine (inB b t) := by
  cases b with
  | false => exact h
  | true =>
    refine ⟨fun b => ?_, fun b => ?_⟩
    · show Gd true (t ++ [.rp]) = true
      rw [gd_app, h.1, h.2]; rfl
    · show lpE true (t ++ [.rp]) = false
      rw [lpE_app, h.2]; rfl
theorem fine_one {t : Tok} (h : t ≠ .lp) (g : t ≠ .rp) : Fine [t] := by
  cases t <;> first | exact absurd rfl h | exact absurd rfl g | exact ⟨fun b => rfl, fun b => rfl⟩
theorem fine_mark {m : List Tok} (h : m = [] ∨ Fine m) {t : List Tok} (g : Fine t) : Fine (m ++ t) := by
  rcases h with rfl | h
  · exact g
  · exact fine_app h g
mutual
theorem tw_fine {L : Str} : ∀ (p : Pat), p.ok L → Fine (tw p)
  | .none, _ => fine_one (by simp) (by simp)
  | .empty, _ => fine_one (by simp) (by simp)
  | .sign c, _ => fine_one (by simp) (by simp)
  | .many p, h => fine_app (fine_inB (tw_fine p h)) (fine_one (by simp) (by simp))
  | .not p, h => fine_app (a := [.bang]) (fine_one (by simp) (by simp)) (fine_inB (tw_fine p h))
  | .row ps, h => twL_fine [] K3 (.inl rfl) ps h.2 (fun e => by have := h.1; rw [e] at this; exact absurd this (by decide))
  | .and ps, h => twL_fine [.amp] KA (.inr (fine_one (by simp) (by simp))) ps h.2 (fun e => by have := h.1; rw [e] at this; exact absurd this (by decide))
  | .or ps, h => twL_fine [.bar] KO (.inr (fine_one (by simp) (by simp))) ps h.2 (fun e => by have := h.1; rw [e] at this; exact absurd this (by decide))
theorem twL_fine {L : Str} (m : List Tok) (ks : List Str) (hm : m = [] ∨ Fine m) : ∀ (ps : List Pat), okL L ps → ps ≠ [] → Fine (twL m ks ps)
  | [], _, n => absurd rfl n
  | p :: ps, h, _ => by
    rcases twM_fine m ks hm ps h.2 with e | e
    · show Fine (inB (brk ks p) (tw p) ++ twM m ks ps)
      rw [e, List.append_nil]
      exact fine_inB (tw_fine p h.1)
    · exact fine_app (fine_inB (tw_fine p h.1)) e
theorem twM_fine {L : Str} (m : List Tok) (ks : List Str) (hm : m = [] ∨ Fine m) : ∀ (ps : List Pat), okL L ps → twM m ks ps = [] ∨ Fine (twM m ks ps)
  | [], _ => .inl rfl
  | p :: ps, h => by
    refine .inr (fine_mark hm ?_)
    rcases twM_fine m ks hm ps h.2 with e | e
    · rw [e, List.append_nil]
      exact fine_inB (tw_fine p h.1)
    · exact fine_app (fine_inB (tw_fine p h.1)) e
end
/-- a word with a letter of L -/
def okT (L : Str) : Tok → Prop
  | .sgn c => c ∈ cds L
  | _ => True
theorem okT_inB {L : Str} {b : Bool} {t : List Tok} (h : ∀ x ∈ t, okT L x) : ∀ x ∈ inB b t, okT L x := by
  cases b with
  | false => exact h
  | true =>
    intro x hx
    have hx : x ∈ Tok.lp :: (t ++ [.rp]) := hx
    simp only [List.mem_cons, List.mem_append, List.not_mem_nil, or_false] at hx
    rcases hx with rfl | hx | rfl
    · trivial
    · exact h x hx
    · trivial
mutual
theorem tw_ok {L : Str} : ∀ (p : Pat), p.ok L → ∀ x ∈ tw p, okT L x
  | .none, _, x, hx => by rw [List.mem_singleton.mp hx]; trivial
  | .empty, _, x, hx => by rw [List.mem_singleton.mp hx]; trivial
  | .sign c, h, x, hx => by rw [List.mem_singleton.mp hx]; exact h
  | .many p, h, x, hx => by
    rcases List.mem_append.mp hx with hx | hx
    · exact okT_inB (tw_ok p h) x hx
    · rw [List.mem_singleton.mp hx]; trivial
  | .not p, h, x, hx => by
    rcases List.mem_cons.mp hx with rfl | hx
    · trivial
    · exact okT_inB (tw_ok p h) x hx
  | .row ps, h, x, hx => twL_ok [] K3 (fun y hy => by cases hy) ps h.2 x hx
  | .and ps, h, x, hx => twL_ok [.amp] KA (fun y hy => by rw [List.mem_singleton.mp hy]; trivial) ps h.2 x hx
  | .or ps, h, x, hx => twL_ok [.bar] KO (fun y hy => by rw [List.mem_singleton.mp hy]; trivial) ps h.2 x hx
theorem twL_ok {L : Str} (m : List Tok) (ks : List Str) (hm : ∀ y ∈ m, okT L y) : ∀ (ps : List Pat), okL L ps → ∀ x ∈ twL m ks ps, okT L x
  | [], _, x, hx => by cases hx
  | p :: ps, h, x, hx => by
    rcases List.mem_append.mp hx with hx | hx
    · exact okT_inB (tw_ok p h.1) x hx
    · exact twM_ok m ks hm ps h.2 x hx
theorem twM_ok {L : Str} (m : List Tok) (ks : List Str) (hm : ∀ y ∈ m, okT L y) : ∀ (ps : List Pat), okL L ps → ∀ x ∈ twM m ks ps, okT L x
  | [], _, x, hx => by cases hx
  | p :: ps, h, x, hx => by
    rcases List.mem_append.mp hx with hx | hx
    · exact hm x hx
    rcases List.mem_append.mp hx with hx | hx
    · exact okT_inB (tw_ok p h.1) x hx
    · exact twM_ok m ks hm ps h.2 x hx
end
def lenT (ts : List Tok) : Nat := (ts.flatMap Tok.cs).length
theorem lenT_app (a b : List Tok) : lenT (a ++ b) = lenT a + lenT b := by unfold lenT; rw [List.flatMap_append, List.length_append]
theorem lenT_inB (b : Bool) (t : List Tok) : lenT (inB b t) ≤ lenT t + 2 := by
  cases b with
  | false => exact Nat.le_add_right _ _
  | true =>
    show lenT ([.lp] ++ (t ++ [.rp])) ≤ _
    rw [lenT_app, lenT_app]
    show 1 + (lenT t + 1) ≤ _
    omega
mutual
theorem tw_len : ∀ (p : Pat), lenT (tw p) + 3 ≤ 5 * p.size
  | .none => by decide
  | .empty => by decide
  | .sign c => (by show 1 + 3 ≤ 5; decide)
  | .many p => by
    have h := tw_len p
    have g := lenT_inB (brk K4 p) (tw p)
    show lenT (inB (brk K4 p) (tw p) ++ [.star]) + 3 ≤ 5 * (p.size + 1)
    rw [lenT_app]
    show lenT (inB (brk K4 p) (tw p)) + 1 + 3 ≤ _
    omega
  | .not p => by
    have h := tw_len p
    have g := lenT_inB (brk K3 p) (tw p)
    show lenT ([.bang] ++ inB (brk K3 p) (tw p)) + 3 ≤ 5 * (p.size + 1)
    rw [lenT_app]
    show 1 + lenT (inB (brk K3 p) (tw p)) + 3 ≤ _
    omega
  | .row ps => by
    have h := twM_len [] K3 (by decide) ps
    show lenT (twL [] K3 ps) + 3 ≤ 5 * (sizeL ps + 1)
    rw [show twL [] K3 ps = twM [] K3 ps by cases ps <;> rfl]
    omega
  | .and ps => by
    have h := twL_len [.amp] KA (by decide) ps
    show lenT (twL [.amp] KA ps) + 3 ≤ 5 * (sizeL ps + 1)
    omega
  | .or ps => by
    have h := twL_len [.bar] KO (by decide) ps
    show lenT (twL [.bar] KO ps) + 3 ≤ 5 * (sizeL ps + 1)
    omega
theorem twL_len (m : List Tok) (ks : List Str) (hm : lenT m ≤ 1) : ∀ (ps : List Pat), lenT (twL m ks ps) ≤ 5 * sizeL ps
  | [] => Nat.le_refl _
  | p :: ps => by
    have h := tw_len p
    have g := lenT_inB (brk ks p) (tw p)
    have k := twM_len m ks hm ps
    show lenT (inB (brk ks p) (tw p) ++ twM m ks ps) ≤ 5 * (p.size + sizeL ps)
    rw [lenT_app]
    omega
theorem twM_len (m : List Tok) (ks : List Str) (hm : lenT m ≤ 1) : ∀ (ps : List Pat), lenT (twM m ks ps) ≤ 5 * sizeL ps
  | [] => Nat.le_refl _
  | p :: ps => by
    have h := tw_len p
    have g := lenT_inB (brk ks p) (tw p)
    have k := twM_len m ks hm ps
    show lenT (m ++ (inB (brk ks p) (tw p) ++ twM m ks ps)) ≤ 5 * (p.size + sizeL ps)
    rw [lenT_app, lenT_app]
    omega
end
theorem cutS_nat {z : Str} {i j : Nat} (hi : i ≤ (cds z).length) : cutS z (Option.some (i : Int)) (Option.some (j : Int)) = txt (((cds z).drop i).take (j - i)) := by
  have hl : z.cps.toList.length = z.length := Array.length_toList
  have hi : i ≤ z.cps.toList.length := hi
  unfold cutS
  rw [HT.sIx_nat, HT.sIx_nat, show min i z.length = i by omega]
  refine congrArg txt ?_
  by_cases h : j ≤ z.length
  · rw [Nat.min_eq_left h]
  · rw [Nat.min_eq_right (by omega)]
    rw [List.take_of_length_le (by rw [List.length_drop]; omega), List.take_of_length_le (by show (List.drop i z.cps.toList).length ≤ _; rw [List.length_drop]; omega)]
def tkS (t : Tok) : Str := txt t.cs
theorem cs_len (t : Tok) : 1 ≤ t.cs.length ∧ t.cs.length ≤ 2 := by cases t <;> simp [Tok.cs]
/-- the first two signs of a text of words tell the length of its first word -/
theorem first_two {L : Str} {t : Tok} {r : List Tok} {b : Bool} (hL : goodS L = true) (hg : Gd b (t :: r) = true) (ho : ∀ x ∈ t :: r, okT L x) :
    decide (txt (((t :: r).flatMap Tok.cs).take 2) ∈ ([txt [40, 41], txt [91, 93]] : List Str)) = decide (t.cs.length = 2) := by
  have az : ∀ c, c ∈ cds L → 97 ≤ c ∧ c ≤ 122 := fun c hc => by
    unfold goodS at hL
    simp only [Bool.and_eq_true] at hL
    exact of_decide_eq_true (List.all_eq_true.mp hL.1.2 c hc)
  have no : ∀ (c : Nat) (l : List Nat), c ≠ 40 → c ≠ 91 → txt ((c :: l).take 2) ∉ ([txt [40, 41], txt [91, 93]] : List Str) := by
    intro c l n1 n2 h
    simp only [List.mem_cons, List.not_mem_nil, or_false] at h
    rcases h with h | h
    · have h := txt_inj h
      rw [List.take_succ_cons] at h
      exact n1 (List.cons.inj h).1
    · have h := txt_inj h
      rw [List.take_succ_cons] at h
      exact n2 (List.cons.inj h).1
  rw [List.flatMap_cons]
  cases t with
  | unit => exact (decide_eq_true (by simp [Tok.cs])).trans rfl
  | null => exact (decide_eq_true (by simp [Tok.cs])).trans rfl
  | bang => exact decide_eq_false (no 33 _ (by decide) (by decide))
  | star => exact decide_eq_false (no 42 _ (by decide) (by decide))
  | amp => exact decide_eq_false (no 38 _ (by decide) (by decide))
  | bar => exact decide_eq_false (no 124 _ (by decide) (by decide))
  | rp => exact decide_eq_false (no 41 _ (by decide) (by decide))
  | sgn c =>
    have := az c (ho _ List.mem_cons_self)
    exact decide_eq_false (no c _ (by omega) (by omega))
  | lp =>
    refine decide_eq_false fun h => ?_
    have hr : ∀ c l, r.flatMap Tok.cs = c :: l → c ≠ 41 := by
      intro c l e
      cases r with
      | nil => cases e
      | cons x xs =>
        rw [List.flatMap_cons] at e
        have ox := ho x (List.mem_cons_of_mem _ List.mem_cons_self)
        cases x <;> simp only [Tok.cs, List.cons_append, List.nil_append] at e <;> first
          | (have := (List.cons.inj e).1; subst this; decide)
          | skip
        · cases hg
        · rename_i d
          have := az d ox
          have := (List.cons.inj e).1
          omega
    simp only [List.mem_cons, List.not_mem_nil, or_false] at h
    rcases h with h | h
    · have h := txt_inj h
      have h : (40 :: r.flatMap Tok.cs).take 2 = [40, 41] := h
      rw [List.take_succ_cons] at h
      have h2 := (List.cons.inj h).2
      cases e : r.flatMap Tok.cs with
      | nil => rw [e] at h2; cases h2
      | cons c l =>
        rw [e, List.take_succ_cons] at h2
        exact hr c l e (List.cons.inj h2).1
    · have h := txt_inj h
      have h : (40 :: r.flatMap Tok.cs).take 2 = [91, 93] := h
      rw [List.take_succ_cons] at h
      exact absurd (List.cons.inj h).1 (by decide)
end Bo
set_option Elab.async false
set_option linter.all false
set_option maxRecDepth 100000
set_option maxHeartbeats 4000000
namespace Bo
open PySem PySem.Spec PyProof.Rows L2 GE
/-- FunD.ok where something may be let out -/
theorem okX {P : Program} {w : World} {K : PySem.W.Frag} {mg : Str → Option Value} {base : Heap} {CX : CXT} {x qual : Str} {params : Arguments} {body : List Stmt} {scope : Scope} {dvs : List V} {kws : List (Str × V)} {f : Addr} {fd : FuncData} {N ps : List Str} {k : Nat} {sp : Sp} (F : FunD K x qual params body scope dvs kws f fd) (S : FnScope N ps scope) (len : ∀ vs H Q E, sp vs H Q E → vs.length = ps.length)
    (hbody : ∀ (cdv : Value) (A : Around) (outer : List Env) (s : Shared) (H : Hp) (vs : List V) (Q : VK) (E : XK), Room k (A.deeper (envOfC qual scope s.heap.objs.size f cdv)) → sp vs H Q E →
      ∃ t, PSs (cxOf CX P w K mg base N qual scope f cdv A outer s H E) body t ∧ t { nx := fun _ H' => Q .non H', rt := Q } (start N vs) H) : FnOk P w K mg base CX (k + 1) f fd ps sp := by
  obtain ⟨oc, od, dV, kV, doc, pm, an, cdv, ct, osl, e, lk, hcd, _, _⟩ := F.ex
  subst e
  exact fn_of lk hcd S len fun A outer s H vs Q E hr hsp => hbody _ A outer s H vs Q E hr hsp
/-- what is never come to -/
theorem pss_never {X : Cx} {body : List Stmt} : PSs X body (fun _ _ _ => False) := ⟨fun _ _ _ _ _ _ h => h.elim⟩
/-- a method of Level -/
abbrev MtP (K : PySem.W.Frag) (x q : Str) (st : Stmt) (f : Addr) (fd : FuncData) : Prop := FunD K x q (defArgs st) (defBody st) (defScope st) [] [] f fd
def spWd : Sp := fun vs H Q _ => ∃ (L : Str) (ts : List Tok), vs = [.str (txt (ts.flatMap Tok.cs))] ∧ goodS L = true ∧ Gd false ts = true ∧ (∀ x ∈ ts, okT L x) ∧ lenT ts ≤ 400 ∧ ∀ r H', H r = none → Ext H H' → H' r = some (.lst (ts.map fun t => .str (tkS t))) → Q (.ref r) H'
section
variable {P : Program} {w : World} {K : PySem.W.Frag} {mg : Str → Option Value} {base : Heap}
theorem scWd : FnScope ["text", "found", "at", "size"] ["text"] (defScope sWords) := ⟨rfl, rfl, rfl, by decide +kernel, rfl, by decide +kernel, by decide +kernel⟩
theorem wd_ok {f : Addr} {fd : FuncData} (F : FnP K "words" sWords f fd) (ml : mg "len" = none) : FnOk P w K mg base CX0 1 f fd ["text"] spWd := by
  refine okD F scWd (fun vs H Q E h => ?_) (fun cdv A outer s H vs Q E hr h => ?_)
  · obtain ⟨L, ts, rfl, _⟩ := h
    rfl
  obtain ⟨L, ts, rfl, hL, hg, ho, hlen, q⟩ := h
  refine ⟨_, (pss_cons (ps_set (i := 1) scWd.nd rfl (Or.inl rfl) (pe_lst pa_nil)) (pss_cons (ps_set (i := 2) scWd.nd rfl (Or.inl rfl) pe_int) (pss_cons (ps_while PassesOwn.never (pt_cmpR op_lt (pv 2) (pe_callB call_len rfl ml PySem.boot_len (pa_cons (pv 0) pa_nil)) (nomark _))
      (pss_cons (ps_set (i := 3) scWd.nd rfl (Or.inl rfl) (pe_ifExp (pt_cmpR op_in_seq (pe_slice sl_str (pv 0) (po_some (pv 2)) (po_some (pe_op op_add (pv 2) pe_int))) (pe_tup (pa_cons pe_str (pa_cons pe_str pa_nil))) (by rfl)) pe_int pe_int)) (pss_cons (ps_expr (pe_bm PySem.F.plainAttrs_list PySem.F.slot_list_append PySem.F.type_list_append mt_append (pv 1) (pa_cons (pe_slice sl_str (pv 0) (po_some (pv 2)) (po_some (pe_op op_add (pv 2) (pv 3)))) pa_nil))) (pss_one (ps_aug (i := 2) scWd.nd rfl (Or.inl rfl) (pv 3) ip_add))))) (pss_one (ps_ret (pv 1)))))), ?_⟩
  have hcl : ∀ l : List Nat, (txt l).length = l.length := fun l => List.size_toArray
  have hz : (txt (ts.flatMap Tok.cs)).length ≤ sizeLine := Nat.le_trans (by rw [hcl]; exact hlen) (by decide)
  refine t_set ⟨Nat.zero_le _, fun l x0 => ?_⟩
  refine t_setC (t_seq ?_)
  refine ⟨fun m σ H' => ∃ (a r : List Tok) (b : Bool) (c3 : Option V), σ = [some (.str (txt (ts.flatMap Tok.cs))), some (.ref l), some (nV (lenT a)), c3] ∧ Ext H H' ∧ H' l = some (.lst (a.map fun t => .str (tkS t))) ∧ a ++ r = ts ∧ Gd b r = true ∧ m = r.length,
    ⟨ts.length, [], ts, false, none, rfl, Ext.new x0, upd_same, rfl, hg, rfl⟩, ?_⟩
  rintro m σ H1 ⟨a, r, b, c3, rfl, e, hl, har, hgr, rfl⟩
  have hla : lenT a + lenT r = lenT ts := by rw [← lenT_app, har]
  refine ⟨_, rfl, _, rfl, .str (txt (ts.flatMap Tok.cs)), _, rfl, ⟨hz, rfl⟩, _, _, rfl, rfl, _, rfl, ?_⟩
  have hlt : (txt (ts.flatMap Tok.cs)).length = lenT ts := hcl _
  cases r with
  | nil =>
    have e0 : lenT ([] : List Tok) = 0 := rfl
    refine iffF (decide_eq_false (by rw [hlt]; omega)) ?_
    rw [List.append_nil] at har
    subst har
    exact ⟨_, rfl, q l H1 x0 e hl⟩
  | cons t r =>
    have hto := fun x hx => ho x (har ▸ List.mem_append_right a hx)
    have h12 := cs_len t
    have htl : lenT (t :: r) = t.cs.length + lenT r := by show lenT ([t] ++ r) = _; rw [lenT_app]; show ([t].flatMap Tok.cs).length + _ = _; simp
    have hdrop : (ts.flatMap Tok.cs).drop (lenT a) = (t :: r).flatMap Tok.cs := by
      rw [← har, List.flatMap_append]
      exact List.drop_left
    have hcut : ∀ k : Nat, cutS (txt (ts.flatMap Tok.cs)) (some ((lenT a : Nat) : Int)) (some (((lenT a : Nat) : Int) + (k : Int))) = txt (((t :: r).flatMap Tok.cs).take k) := fun k => by
      have h := cutS_nat (z := txt (ts.flatMap Tok.cs)) (i := lenT a) (j := lenT a + k) (by show lenT a ≤ lenT ts; omega)
      rw [Int.natCast_add] at h
      rw [h, show lenT a + k - lenT a = k by omega]
      exact congrArg (fun l => txt (l.take k)) hdrop
    refine iffT (decide_eq_true (by rw [hlt]; omega)) ⟨fun σ' H2 => ∃ m' < (t :: r).length, ∃ (a r : List Tok) (b : Bool) (c3 : Option V), σ' = [some (.str (txt (ts.flatMap Tok.cs))), some (.ref l), some (nV (lenT a)), c3] ∧ Ext H H2 ∧ H2 l = some (.lst (a.map fun t => .str (tkS t))) ∧ a ++ r = ts ∧ Gd b r = true ∧ m' = r.length, fun σ' H2 ⟨m', h1, h2⟩ => ⟨m', h1, h2⟩, ?_⟩
    have hft := first_two hL hgr hto
    have two : ∀ {D : Ends} {u : TS} (H2 : Hp), Ext H1 H2 → u D [some (.str (txt (ts.flatMap Tok.cs))), some (.ref l), some (nV (lenT a)), some (nV t.cs.length)] H2 → True := fun _ _ _ => trivial
    refine t_set ⟨_, rfl, _, rfl, _, rfl, _, rfl, _, _, rfl, rfl, _, rfl, _, rfl, hz, by show 2 ≤ sizeLine; decide, fun p np => ⟨p, _, rfl, .inr (SqT.of upd_same), rfl, by decide, _, rfl, ?_⟩⟩
    have hin : inV (V.str (cutS (txt (ts.flatMap Tok.cs)) (some ((lenT a : Nat) : Int)) (some (((lenT a : Nat) : Int) + 2)))) [V.str "()", V.str "[]"] = decide (t.cs.length = 2) := by
      rw [show (((lenT a : Nat) : Int) + 2) = (((lenT a : Nat) : Int) + ((2 : Nat) : Int)) from rfl, hcut 2]
      exact (inV_str _ [txt [40, 41], txt [91, 93]]).trans hft
    rw [hin]
    have e1 := e.trans (Ext.new (o := .tup [V.str "()", .str "[]"]) np)
    have hl1 := (Ext.new (o := .tup [V.str "()", .str "[]"]) np).lst hl
    have go : ∀ s3 : Option V, s3 = some (nV t.cs.length) → ∀ {tt : TS}, True := fun _ _ _ => trivial
    refine Classical.byContradiction fun hno => ?_
    have fin : ∀ (k : Nat) (z : Str) (n : Int), k = t.cs.length → z = tkS t → n = ((lenT a : Nat) : Int) + (k : Int) → ∃ (a' r' : List Tok) (b' : Bool) (c3 : Option V), [some (V.str (txt (ts.flatMap Tok.cs))), some (.ref l), some (.int n), some (nV k)] = [some (.str (txt (ts.flatMap Tok.cs))), some (.ref l), some (nV (lenT a')), c3] ∧ Ext H (upd (upd H1 p (.tup [V.str "()", .str "[]"])) l (.lst ((a.map fun t => V.str (tkS t)) ++ [V.str z]))) ∧ (upd (upd H1 p (.tup [V.str "()", .str "[]"])) l (.lst ((a.map fun t => V.str (tkS t)) ++ [V.str z]))) l = some (.lst (a'.map fun t => .str (tkS t))) ∧ a' ++ r' = ts ∧ Gd b' r' = true ∧ r.length = r'.length := fun k z n hk hz hn => by
      subst hk hz hn
      refine ⟨a ++ [t], r, isLp t, some (nV t.cs.length), ?_, e1.wr x0, by rw [upd_same, List.map_append]; rfl, by rw [List.append_assoc]; exact har, ?_, rfl⟩
      · rw [lenT_app, show lenT [t] = t.cs.length by show ([t].flatMap Tok.cs).length = _; simp, ← Int.natCast_add]
      · cases t <;> first | exact hgr | (simp only [Gd, Bool.and_eq_true] at hgr; exact hgr.2)
    have tcut : ∀ k : Nat, k = t.cs.length → cutS (txt (ts.flatMap Tok.cs)) (some ((lenT a : Nat) : Int)) (some (((lenT a : Nat) : Int) + ((k : Nat) : Int))) = tkS t := fun k hk => by
      rw [hcut, hk, List.flatMap_cons, List.take_left]; rfl
    have hlen1 : (a.map fun t => V.str (tkS t)).length < sizeLine := by
      rw [List.length_map]
      have : ∀ l : List Tok, l.length ≤ lenT l := fun l => by
        induction l with
        | nil => exact Nat.le_refl _
        | cons x xs ih =>
          have := (cs_len x).1
          have h9 : lenT (x :: xs) = x.cs.length + lenT xs := by show lenT ([x] ++ xs) = _; rw [lenT_app]; show ([x].flatMap Tok.cs).length + _ = _; simp
          rw [List.length_cons]; omega
      have := this a
      exact Nat.lt_of_le_of_lt (show a.length ≤ 400 by omega) (by decide)
    by_cases h2 : t.cs.length = 2
    · apply hno
      refine iffT (decide_eq_true h2) ?_
      refine t_seq ⟨_, rfl, .inl ⟨rfl, _, SqL.of hl1⟩, _, rfl, _, rfl, _, rfl, _, rfl, _, rfl, _, _, rfl, rfl, _, rfl, _, rfl, hz, l, _, _, rfl, rfl, hl1, hlen1, ?_⟩
      exact ⟨_, rfl, _, rfl, _, _, rfl, rfl, r.length, Nat.lt_succ_self _, fin 2 _ _ h2.symm (tcut 2 h2.symm) rfl⟩
    · have h1 : t.cs.length = 1 := by omega
      apply hno
      refine iffF (decide_eq_false h2) ?_
      refine t_seq ⟨_, rfl, .inl ⟨rfl, _, SqL.of hl1⟩, _, rfl, _, rfl, _, rfl, _, rfl, _, rfl, _, _, rfl, rfl, _, rfl, _, rfl, hz, l, _, _, rfl, rfl, hl1, hlen1, ?_⟩
      exact ⟨_, rfl, _, rfl, _, _, rfl, rfl, r.length, Nat.lt_succ_self _, fin 1 _ _ h1.symm (tcut 1 h1.symm) rfl⟩
end
end Bo
set_option Elab.async false
set_option linter.all false
set_option maxRecDepth 100000
set_option maxHeartbeats 4000000
namespace Bo
open PySem PySem.Spec PyProof.Rows L2 GE
/-! a level as an object -/
def lf (b h r : Addr) (n : Int) : List (Str × V) := [("branches", .ref b), ("halves", .ref h), ("row", .ref r), ("nots", .int n)]
theorem lk_b (b h r : Addr) (n : Int) : (lf b h r n).lookup ("branches" : Str) = some (.ref b) := rfl
theorem lk_h (b h r : Addr) (n : Int) : (lf b h r n).lookup ("halves" : Str) = some (.ref h) := rfl
theorem lk_r (b h r : Addr) (n : Int) : (lf b h r n).lookup ("row" : Str) = some (.ref r) := rfl
theorem lk_n (b h r : Addr) (n : Int) : (lf b h r n).lookup ("nots" : Str) = some (.int n) := rfl
theorem pf_n (b h r : Addr) (n m : Int) : putF ("nots" : Str) (.int m) (lf b h r n) = lf b h r m := rfl
theorem pf_r (b h r q : Addr) (n : Int) : putF ("row" : Str) (.ref q) (lf b h r n) = lf b h q n := rfl
theorem pf_h (b h r q : Addr) (n : Int) : putF ("halves" : Str) (.ref q) (lf b h r n) = lf b q r n := rfl
theorem lf_no (b h r : Addr) (n : Int) {m : Str} (h1 : m ≠ "branches") (h2 : m ≠ "halves") (h3 : m ≠ "row") (h4 : m ≠ "nots") : (lf b h r n).lookup m = none := by
  unfold lf
  simp only [List.lookup, beq_eq_false_iff_ne.mpr h1, beq_eq_false_iff_ne.mpr h2, beq_eq_false_iff_ne.mpr h3, beq_eq_false_iff_ne.mpr h4]
/-- where a level's object and its lists stand -/
structure La where
  o : Addr
  b : Addr
  h : Addr
  r : Addr
def La.foot (a : La) : List Addr := [a.o, a.b, a.h, a.r]
def RowQ (K : PySem.W.Frag) (H : Hp) : List (Nat × Pat) → List V → Prop
  | [] => fun vs => vs = []
  | (n, p) :: r => fun vs => ∃ t v us, vs = .ref t :: us ∧ SqT K H t [nV n, v] ∧ PatQ K H p v ∧ RowQ K H r us
theorem RowQ.ext {K : PySem.W.Frag} {H H' : Hp} (e : Tk K H H') : ∀ {row : List (Nat × Pat)} {vs : List V}, RowQ K H row vs → RowQ K H' row vs
  | [], vs, h => h
  | (n, p) :: r, vs, ⟨t, v, us, h1, h2, h3, h4⟩ => ⟨t, v, us, h1, e _ _ h2, PatQ.ext e p v h3, RowQ.ext e h4⟩
theorem RowQ.append {K : PySem.W.Frag} {H : Hp} : ∀ {r s : List (Nat × Pat)} {vs us : List V}, RowQ K H r vs → RowQ K H s us → RowQ K H (r ++ s) (vs ++ us)
  | [], s, vs, us, h, g => by rw [show vs = [] from h]; exact g
  | (n, p) :: r, s, vs, us, ⟨t, v, ws, e, a, b, c⟩, g => by rw [e]; exact ⟨t, v, ws ++ us, rfl, a, b, RowQ.append c g⟩
theorem RowQ.len {K : PySem.W.Frag} {H : Hp} : ∀ {r : List (Nat × Pat)} {vs : List V}, RowQ K H r vs → vs.length = r.length
  | [], vs, h => by rw [show vs = [] from h]; rfl
  | (n, p) :: r, vs, ⟨t, v, us, e, _, _, h⟩ => by rw [e, List.length_cons, List.length_cons, RowQ.len h]
theorem RowQ.get {K : PySem.W.Frag} {H : Hp} : ∀ {r : List (Nat × Pat)} {vs : List V} {i : Nat} {x : V}, RowQ K H r vs → vs[i]? = some x → ∃ n p t v, r[i]? = some (n, p) ∧ x = .ref t ∧ SqT K H t [nV n, v] ∧ PatQ K H p v
  | [], vs, i, x, h, e => by rw [show vs = [] from h] at e; cases e
  | (n, p) :: r, vs, 0, x, ⟨t, v, us, h, a, b, _⟩, e => by
    rw [h] at e
    cases (Option.some.inj e : V.ref t = x)
    exact ⟨n, p, t, v, rfl, rfl, a, b⟩
  | (n, p) :: r, vs, i + 1, x, ⟨t, v, us, h, a, b, c⟩, e => by
    rw [h] at e
    exact RowQ.get (r := r) c e
theorem RowQ.cut {K : PySem.W.Frag} {H : Hp} : ∀ {r s : List (Nat × Pat)} {vs : List V}, RowQ K H (r ++ s) vs → ∃ us ws, vs = us ++ ws ∧ RowQ K H r us ∧ RowQ K H s ws
  | [], s, vs, h => ⟨[], vs, rfl, rfl, h⟩
  | (n, p) :: r, s, vs, ⟨t, v, us, e, a, b, c⟩ => by
    obtain ⟨u2, ws, e2, c2, d⟩ := RowQ.cut (r := r) c
    exact ⟨.ref t :: u2, ws, by rw [e, e2]; rfl, ⟨t, v, u2, rfl, a, b, c2⟩, d⟩
structure LvAt (K : PySem.W.Frag) (C : Addr) (H : Hp) (a : La) (l : Lv) : Prop where
  ob : ∃ dx, H a.o = some (.ins C dx (lf a.b a.h a.r (l.n : Int)))
  bs : ∃ vs, H a.b = some (.lst vs) ∧ PatsQ K H l.bs vs
  hs : ∃ vs, H a.h = some (.lst vs) ∧ PatsQ K H l.hs vs
  row : ∃ vs, H a.r = some (.lst vs) ∧ RowQ K H l.row vs
  bh : a.b ≠ a.h
  br : a.b ≠ a.r
  hr : a.h ≠ a.r
/-- the sizes stay small -/
def Sm (l : Lv) : Prop := l.bs.length ≤ 1000 ∧ l.hs.length ≤ 1000 ∧ l.row.length ≤ 1000 ∧ l.n ≤ 1000 ∧ ∀ q ∈ l.row, q.1 ≤ 1000
/-- only what is at S is changed; what is at S' stood at S or is new -/
structure Upd (H H' : Hp) (S S' : List Addr) : Prop where
  fr : ∀ b o, H b = some o → b ∉ S → H' b = some o
  fs : ∀ x ∈ S', x ∈ S ∨ H x = none
  th : ∀ b o, H b = some o → ∃ o', H' b = some o'
theorem Upd.refl (H : Hp) (S : List Addr) : Upd H H S S := ⟨fun _ _ h _ => h, fun _ h => .inl h, fun _ o h => ⟨o, h⟩⟩
theorem Upd.free {H H' : Hp} {S S' : List Addr} (u : Upd H H' S S') {x : Addr} (h : H' x = none) : H x = none := by
  cases e : H x with
  | none => rfl
  | some o => obtain ⟨o', h'⟩ := u.th x o e; rw [h] at h'; cases h'
theorem Upd.trans {H H1 H2 : Hp} {S S1 S2 : List Addr} (a : Upd H H1 S S1) (b : Upd H1 H2 S1 S2) : Upd H H2 S S2 :=
  ⟨fun c o h n => b.fr c o (a.fr c o h n) fun hc => (a.fs c hc).elim n fun e => (by rw [h] at e; cases e),
    fun x hx => (b.fs x hx).elim (fun h => a.fs x h) (fun h => .inr (a.free h)),
    fun c o h => let ⟨o', h'⟩ := a.th c o h; b.th c o' h'⟩
/-- something new beside -/
theorem Upd.new {H : Hp} {S : List Addr} {p : Addr} {o : HO} (h : H p = none) : Upd H (upd H p o) S S :=
  ⟨fun b u q _ => by rw [upd_ne (ne_of_none q h)]; exact q, fun _ h => .inl h, fun b u q => ⟨u, by rw [upd_ne (ne_of_none q h)]; exact q⟩⟩
theorem Upd.wr {H : Hp} {S : List Addr} {p : Addr} {o : HO} (h : p ∈ S) (t : ∃ o, H p = some o) : Upd H (upd H p o) S S :=
  ⟨fun b u q n => by rw [upd_ne (fun e => n (by rw [e]; exact h))]; exact q, fun _ h => .inl h, fun b u q => by
    by_cases e : b = p
    · rw [e]; exact ⟨o, upd_same⟩
    · exact ⟨u, by rw [upd_ne e]; exact q⟩⟩
/-- what was there before is as it was -/
theorem Upd.ext {H0 H H' : Hp} {S S' : List Addr} (u : Upd H H' S S') (e : Ext H0 H) (n : ∀ x ∈ S, H0 x = none) : Ext H0 H' ∧ ∀ x ∈ S', H0 x = none := by
  have nn : ∀ b o, H0 b = some o → b ∉ S := fun b o h hb => by rw [n b hb] at h; cases h
  refine ⟨⟨fun b o h t => u.fr b o (e.keep b o h t) (nn b o h), fun b ht => ?_, fun b o h => ?_⟩, fun x hx => ?_⟩
  · obtain ⟨ps, z, _⟩ := id ht
    obtain ⟨ps', z', t'⟩ := e.tab b ht
    exact ⟨ps', u.fr b _ z' (nn b _ z), t'⟩
  · obtain ⟨o', h'⟩ := e.there b o h
    exact u.th b o' h'
  · rcases u.fs x hx with h | h
    · exact n x h
    · exact e.free h
/-- the tuples stay where only lists and objects are written -/
theorem Upd.tk {K : PySem.W.Frag} {H H' : Hp} {S S' : List Addr} (u : Upd H H' S S') (h : ∀ x ∈ S, (∃ xs, H x = some (.lst xs)) ∨ ∃ C dx fs, H x = some (.ins C dx fs)) : Tk K H H' := fun a xs hs => by
  have no : ∀ o, H a = some o → (∀ xs, o ≠ .lst xs) → (∀ C dx fs, o ≠ .ins C dx fs) → a ∉ S := fun o e n1 n2 ha => by
    rcases h a ha with ⟨ys, q⟩ | ⟨C, dx, fs, q⟩
    · exact n1 ys (Option.some.inj (e.symm.trans q))
    · exact n2 C dx fs (Option.some.inj (e.symm.trans q))
  rcases hs with (hs | ⟨o, hs⟩) | hs
  · exact .inl (.inl (u.fr a _ hs (no _ hs (fun _ e => by cases e) (fun _ _ _ e => by cases e))))
  · exact .inl (.inr ⟨o, u.fr a _ hs (no _ hs (fun _ e => by cases e) (fun _ _ _ e => by cases e))⟩)
  · exact .inr hs
theorem LvAt.kinds {K : PySem.W.Frag} {C : Addr} {H : Hp} {a : La} {l : Lv} (h : LvAt K C H a l) : ∀ x ∈ a.foot, (∃ xs, H x = some (.lst xs)) ∨ ∃ C dx fs, H x = some (.ins C dx fs) := by
  intro x hx
  simp only [La.foot, List.mem_cons, List.not_mem_nil, or_false] at hx
  rcases hx with rfl | rfl | rfl | rfl
  · obtain ⟨dx, e⟩ := h.ob; exact .inr ⟨_, _, _, e⟩
  · obtain ⟨vs, e, _⟩ := h.bs; exact .inl ⟨_, e⟩
  · obtain ⟨vs, e, _⟩ := h.hs; exact .inl ⟨_, e⟩
  · obtain ⟨vs, e, _⟩ := h.row; exact .inl ⟨_, e⟩
theorem LvAt.tk {K : PySem.W.Frag} {C : Addr} {H H' : Hp} {a : La} {l : Lv} {S' : List Addr} (h : LvAt K C H a l) (u : Upd H H' a.foot S') : Tk K H H' := u.tk h.kinds
theorem LvAt.keep {K : PySem.W.Frag} {C : Addr} {H H' : Hp} {a : La} {l : Lv} (h : LvAt K C H a l) (t : Tk K H H') (k : ∀ x ∈ a.foot, ∀ o, H x = some o → H' x = some o) : LvAt K C H' a l := by
  obtain ⟨⟨dx, h1⟩, ⟨v1, h2, p2⟩, ⟨v2, h3, p3⟩, ⟨v3, h4, p4⟩, a1, a2, a3⟩ := h
  exact ⟨⟨dx, k _ (by simp [La.foot]) _ h1⟩, ⟨v1, k _ (by simp [La.foot]) _ h2, PatsQ.ext t _ _ p2⟩, ⟨v2, k _ (by simp [La.foot]) _ h3, PatsQ.ext t _ _ p3⟩, ⟨v3, k _ (by simp [La.foot]) _ h4, RowQ.ext t p4⟩, a1, a2, a3⟩
/-- the class's facts -/
structure LTx (K : PySem.W.Frag) (C : Addr) : Prop where
  cl : Cls K C
  nb : NoAttr K C "branches"
  nh : NoAttr K C "halves"
  nr : NoAttr K C "row"
  nn : NoAttr K C "nots"
theorem ins_ne {H : Hp} {a b C dx : Addr} {fs : List (Str × V)} {xs : List V} (h1 : H a = some (.ins C dx fs)) (h2 : H b = some (.lst xs)) : a ≠ b := ne_of h1 h2 (by intro z; cases z)
def spDen (K : PySem.W.Frag) : Sp := fun vs H Q _ => ∃ (n : Nat) (v : V) (p : Pat), vs = [nV n, v] ∧ n ≤ 1000 ∧ PatQ K H p v ∧ ∀ v' H', (∀ S, Upd H H' S S) → PatQ K H' (nt n p) v' → Q v' H'
def mkOf (k : Str) : List Pat → Pat := if k = "row" then Pat.row else if k = "or" then Pat.or else Pat.and
def spTog (K : PySem.W.Frag) : Sp := fun vs H Q _ => ∃ (k : Str) (a : Addr) (us : List V) (ps : List Pat), vs = [.str k, .ref a] ∧ k ∈ (["row", "or", "and"] : List Str) ∧ H a = some (.lst us) ∧ PatsQ K H ps us ∧ ps.length ≤ 1001 ∧ ∀ v' H', (∀ S, Upd H H' S S) → PatQ K H' (tog (mkOf k) ps) v' → Q v' H'
theorem mk_at {K : PySem.W.Frag} {H : Hp} {k : Str} {a b : Addr} {vs : List V} {ps : List Pat} (m : k ∈ (["row", "or", "and"] : List Str)) (h1 : SqT K H a [.str k, .ref b]) (h2 : SqT K H b vs) (h3 : PatsQ K H ps vs) : PatQ K H (mkOf k ps) (.ref a) := by
  simp only [List.mem_cons, List.not_mem_nil, or_false] at m
  rcases m with rfl | rfl | rfl
  · exact ⟨a, b, vs, rfl, h1, h2, h3⟩
  · exact ⟨a, b, vs, rfl, h1, h2, h3⟩
  · exact ⟨a, b, vs, rfl, h1, h2, h3⟩
theorem upd_tk {K : PySem.W.Frag} {H H' : Hp} (h : ∀ S, Upd H H' S S) : Tk K H H' := (h []).tk (fun x hx => by cases hx)
section
variable {P : Program} {w : World} {K : PySem.W.Frag} {mg : Str → Option Value} {base : Heap}
theorem scDen : FnScope ["nots", "pattern", "_"] ["nots", "pattern"] (defScope sDenied) := ⟨rfl, rfl, rfl, by decide +kernel, rfl, by decide +kernel, by decide +kernel⟩
theorem den_ok {f : Addr} {fd : FuncData} (F : FnP K "denied" sDenied f fd) (mr : mg "range" = none) : FnOk P w K mg base CX0 1 f fd ["nots", "pattern"] (spDen K) := by
  refine okD F scDen (fun vs H Q E h => ?_) (fun cdv A outer s H vs Q E hr h => ?_)
  · obtain ⟨n, v, p, rfl, _⟩ := h
    rfl
  obtain ⟨n, v, p, rfl, hn, hp, q⟩ := h
  refine ⟨_, (pss_cons (ps_for PassesOwn.never rfl (pi_range1 rfl mr (pa_cons (pv 0) pa_nil)) (pg_name (i := 2) scDen.nd rfl (Or.inl rfl)) (pss_one (ps_set (i := 1) scDen.nd rfl (Or.inl rfl) (pe_tup (pa_cons pe_str (pa_cons (pv 1) pa_nil)))))) (pss_one (ps_ret (pv 1)))), ?_⟩
  refine t_seq ⟨_, rfl, _, rfl, by show -(2 ^ 62) ≤ ((n : Nat) : Int); omega, by show ((n : Nat) : Int) < 2 ^ 62; omega, ?_⟩
  refine for_range (fun i σ' H' => ∃ (u : V) (c : Option V), σ' = [some (nV n), some u, c] ∧ (∀ S, Upd H H' S S) ∧ PatQ K H' (nt i p) u) ?_ ?_ ?_
  · exact ⟨v, none, rfl, fun S => Upd.refl H S, hp⟩
  · rintro i σ' H' hi ⟨u, c, rfl, e, hu⟩
    refine ⟨_, rfl, by show 2 ≤ sizeLine; decide, fun t x => ⟨.ref t, _, rfl, fun S => (e S).trans (Upd.new x), t, u, rfl, SqT.of upd_same, PatQ.ext (upd_tk fun S => Upd.new x) _ _ hu⟩⟩
  · rintro σ' H' ⟨u, c, rfl, e, hu⟩
    have : ((n : Int)).toNat = n := Int.toNat_natCast n
    rw [this] at hu
    exact ⟨_, rfl, q u H' e hu⟩
theorem scTog : FnScope ["kind", "parts"] ["kind", "parts"] (defScope sTogether) := ⟨rfl, rfl, rfl, by decide +kernel, rfl, by decide +kernel, by decide +kernel⟩
theorem tog_ok {f : Addr} {fd : FuncData} (F : FnP K "together" sTogether f fd) (ml : mg "len" = none) (mt : mg "tuple" = none) : FnOk P w K mg base CX0 1 f fd ["kind", "parts"] (spTog K) := by
  refine okD F scTog (fun vs H Q E h => ?_) (fun cdv A outer s H vs Q E hr h => ?_)
  · obtain ⟨k, a, us, ps, rfl, _⟩ := h
    rfl
  obtain ⟨k, a, us, ps, rfl, hm, ha, hps, hsz, q⟩ := h
  refine ⟨_, (pss_cons (ps_if (pt_cmpR op_eq (pe_callB call_len rfl ml PySem.boot_len (pa_cons (pv 1) pa_nil)) pe_int (nomark _)) (pss_one (ps_ret (pe_ix ix_list (pv 1) pe_int (fun _ _ => rfl)))) pss_nil) (pss_one (ps_ret (pe_tup (pa_cons (pv 0) (pa_cons (pe_tupleOf rfl mt (pv 1)) pa_nil)))))), ?_⟩
  refine t_seq ⟨_, rfl, .ref a, _, rfl, .inl ⟨_, SqL.of ha, rfl⟩, rfl, _, rfl, ?_⟩
  rw [dec_int]
  have hlen := hps.len
  by_cases h1 : us.length = 1
  · rw [show (((us.length : Nat) : Int) == 1) = true by rw [h1]; rfl]
    obtain ⟨y, rfl⟩ : ∃ y, us = [y] := List.length_eq_one_iff.mp h1
    obtain ⟨p, rfl⟩ : ∃ p, ps = [p] := List.length_eq_one_iff.mp (by rw [← hlen]; exact h1)
    obtain ⟨y', r', e9, hy, _⟩ := hps
    have : y = y' := (List.cons.inj e9).1
    subst this
    exact iffT rfl ⟨_, rfl, a, _, 0, y, rfl, rfl, SqL.of ha, atI_nat (j := 0) rfl, q y H (fun S => Upd.refl H S) hy⟩
  · rw [show (((us.length : Nat) : Int) == 1) = false from beq_eq_false_iff_ne.mpr (by omega)]
    refine iffF rfl ?_
    dsimp only [tNext]
    refine ⟨_, rfl, _, rfl, .inl ⟨a, us, rfl, SqL.of ha, fun p2 x2 => ⟨by show 2 ≤ sizeLine; decide, fun p3 x3 => ?_⟩⟩⟩
    have e : ∀ S, Upd H (upd (upd H p2 (.tup us)) p3 (.tup [.str k, .ref p2])) S S := fun S => (Upd.new x2).trans (Upd.new x3)
    refine q _ _ e ?_
    have ht : tog (mkOf k) ps = mkOf k ps := by
      match ps, hlen with
      | [], _ => rfl
      | [p], h9 => exact absurd (h9.trans rfl) h1
      | _ :: _ :: _, _ => rfl
    rw [ht]
    exact mk_at hm (SqT.of upd_same) (SqT.of (by rw [upd_ne (ne_of_none (show upd H p2 (.tup us) p2 = some _ from upd_same) x3)]; exact upd_same)) (PatsQ.ext (upd_tk e) _ _ hps)
end
end Bo
set_option Elab.async false
set_option linter.all false
set_option maxRecDepth 100000
set_option maxHeartbeats 4000000
namespace Bo
open PySem PySem.Spec PyProof.Rows L2 GE
theorem t_seq' {t u : TS} {D : Ends} {σ : L2.St} {H : Hp} (h : t { D with nx := u D } σ H) : tSeq t u D σ H := h
theorem Upd.wrN {H H' : Hp} {D : Addr} {o : HO} (u : ∀ S, Upd H H' S S) (hD : H D = none) : ∀ S, Upd H (upd H' D o) S S := fun S =>
  ⟨fun b q h n => by rw [upd_ne (ne_of_none h hD)]; exact (u S).fr b q h n, fun _ h => .inl h, fun b q h => by rw [upd_ne (ne_of_none h hD)]; exact (u S).th b q h⟩
theorem g_pairT {K : PySem.W.Frag} {i j : Nat} {T : Addr} {x y : V} {σ : L2.St} {H : Hp} {Q : L2.St → Hp → Prop} (h : SqT K H T [x, y]) (q : Q ((σ.set i (some x)).set j (some y)) H) :
    gTup K 2 (gCons (gName i) (gCons (gName j) gNil)) (.ref T) σ H Q := ⟨T, _, rfl, h, rfl, x, _, rfl, y, _, rfl, rfl, q⟩
def spInit (K : PySem.W.Frag) (C : Addr) : Sp := fun vs H Q _ => ∃ (p dx : Addr), vs = [.ref p] ∧ H p = some (.ins C dx []) ∧ ∀ a H', a.o = p → LvAt K C H' a .new → Upd H H' [p] a.foot → Q .non H'
def spTN (K : PySem.W.Frag) (C : Addr) : Sp := fun vs H Q _ => ∃ (a : La) (l : Lv), vs = [.ref a.o] ∧ LvAt K C H a l ∧ Sm l ∧ ∀ H', LvAt K C H' a l.takeNot → Upd H H' a.foot a.foot → Q .non H'
def spTA (K : PySem.W.Frag) (C : Addr) : Sp := fun vs H Q _ => ∃ (a : La) (l : Lv) (v : V) (p : Pat), vs = [.ref a.o, v] ∧ LvAt K C H a l ∧ Sm l ∧ PatQ K H p v ∧ ∀ H', LvAt K C H' a (l.takeAtom p) → Upd H H' a.foot a.foot → Q .non H'
def spNI (K : PySem.W.Frag) (C CX : Addr) : Sp := fun vs H Q E => ∃ (a : La) (l : Lv), vs = [.ref a.o] ∧ LvAt K C H a l ∧ (l.ready = true → Q .non H) ∧ (l.ready = false → E (.ref CX) none H)
def spTS (K : PySem.W.Frag) (C CX : Addr) : Sp := fun vs H Q E => ∃ (a : La) (l : Lv), vs = [.ref a.o] ∧ LvAt K C H a l ∧ Sm l ∧ (l.ready = true → ∀ H', LvAt K C H' a l.starred → Upd H H' a.foot a.foot → Q .non H') ∧ (l.ready = false → E (.ref CX) none H)
def spEH (K : PySem.W.Frag) (C CX : Addr) (op : Lv → Lv) : Sp := fun vs H Q E => ∃ (a : La) (l : Lv), vs = [.ref a.o] ∧ LvAt K C H a l ∧ Sm l ∧ (l.ready = true → ∀ a' H', a'.o = a.o → LvAt K C H' a' (op l) → Upd H H' a.foot a'.foot → Q .non H') ∧ (l.ready = false → E (.ref CX) none H)
def spTo (K : PySem.W.Frag) (C CX : Addr) : Sp := fun vs H Q E => ∃ (a : La) (l : Lv), vs = [.ref a.o] ∧ LvAt K C H a l ∧ Sm l ∧ (l.ready = true → ∀ v H' S', Upd H H' a.foot S' → PatQ K H' l.said v → Q v H') ∧ (l.ready = false → E (.ref CX) none H)
section
variable {P : Program} {w : World} {K : PySem.W.Frag} {mg : Str → Option Value} {base : Heap} {C CX : Addr}
theorem scInit : FnScope ["self"] ["self"] (defScope sLevelInit) := ⟨rfl, rfl, rfl, by decide +kernel, rfl, by decide +kernel, by decide +kernel⟩
theorem init_ok {f : Addr} {fd : FuncData} (F : MtP K "__init__" "Level.__init__" sLevelInit f fd) (T : LTx K C) : FnOk P w K mg base CX0 1 f fd ["self"] (spInit K C) := by
  refine okD F scInit (fun vs H Q E h => ?_) (fun cdv A outer s H vs Q E hr h => ?_)
  · obtain ⟨p, dx, rfl, _⟩ := h
    rfl
  obtain ⟨p, dx, rfl, hp, q⟩ := h
  refine ⟨_, (pss_cons (ps_fld (pv 0) (pe_lst pa_nil) rfl) (pss_cons (ps_fld (pv 0) (pe_lst pa_nil) rfl) (pss_cons (ps_fld (pv 0) (pe_lst pa_nil) rfl) (pss_one (ps_fld (pv 0) pe_int rfl))))), ?_⟩
  refine ⟨Nat.zero_le _, fun b xb => ⟨_, rfl, p, C, dx, _, rfl, (by rw [upd_ne (ne_of_none hp xb)]; exact hp), T.cl, T.nb, (by show 0 < 1000; decide), ?_⟩⟩
  have pb := ne_of_none hp xb
  refine ⟨Nat.zero_le _, fun h xh => ?_⟩
  have ph : p ≠ h := fun e => by rw [e, upd_same] at xh; cases xh
  have bh : b ≠ h := fun e => by rw [← e, upd_ne pb.symm, upd_same] at xh; cases xh
  refine ⟨_, rfl, p, C, dx, _, rfl, (by rw [upd_ne ph]; exact upd_same), T.cl, T.nh, (by show 1 < 1000; decide), ?_⟩
  refine ⟨Nat.zero_le _, fun r xr => ?_⟩
  have pr : p ≠ r := fun e => by rw [e, upd_same] at xr; cases xr
  have hr_ : h ≠ r := fun e => by rw [← e, upd_ne ph.symm, upd_same] at xr; cases xr
  have br : b ≠ r := fun e => by rw [← e, upd_ne pb.symm, upd_ne bh, upd_ne pb.symm, upd_same] at xr; cases xr
  refine ⟨_, rfl, p, C, dx, _, rfl, (by rw [upd_ne pr]; exact upd_same), T.cl, T.nr, (by show 2 < 1000; decide), ?_⟩
  refine ⟨_, rfl, p, C, dx, _, rfl, upd_same, T.cl, T.nn, (by show 3 < 1000; decide), ?_⟩
  have xb0 := xb
  have xh0 : H h = none := by rw [upd_ne ph.symm, upd_ne bh.symm] at xh; exact xh
  have xr0 : H r = none := by rw [upd_ne pr.symm, upd_ne hr_.symm, upd_ne pr.symm, upd_ne br.symm] at xr; exact xr
  refine q ⟨p, b, h, r⟩ _ rfl ⟨⟨dx, ?_⟩, ⟨[], ?_, rfl⟩, ⟨[], ?_, rfl⟩, ⟨[], ?_, rfl⟩, bh, br, hr_⟩ ⟨fun x o hx hn => ?_, fun x hx => ?_, fun x o hx => ?_⟩
  · show upd _ p _ p = _
    rw [upd_same]; rfl
  · show upd _ p _ b = _
    rw [upd_ne pb.symm, upd_ne pb.symm, upd_ne br, upd_ne pb.symm, upd_ne bh, upd_ne pb.symm, upd_same]
  · show upd _ p _ h = _
    rw [upd_ne ph.symm, upd_ne ph.symm, upd_ne hr_, upd_ne ph.symm, upd_same]
  · show upd _ p _ r = _
    rw [upd_ne pr.symm, upd_ne pr.symm, upd_same]
  · have hn : x ≠ p := fun e => hn (by rw [e]; exact List.mem_singleton.mpr rfl)
    rw [upd_ne hn, upd_ne hn, upd_ne (ne_of_none hx xr0), upd_ne hn, upd_ne (ne_of_none hx xh0), upd_ne hn, upd_ne (ne_of_none hx xb0)]
    exact hx
  · simp only [La.foot, List.mem_cons, List.not_mem_nil, or_false] at hx
    rcases hx with rfl | rfl | rfl | rfl
    · exact .inl (List.mem_singleton.mpr rfl)
    · exact .inr xb0
    · exact .inr xh0
    · exact .inr xr0
  · by_cases e : x = p
    · subst e; exact ⟨_, upd_same⟩
    · exact ⟨o, by rw [upd_ne e, upd_ne e, upd_ne (ne_of_none hx xr0), upd_ne e, upd_ne (ne_of_none hx xh0), upd_ne e, upd_ne (ne_of_none hx xb0)]; exact hx⟩
theorem scTN : FnScope ["self"] ["self"] (defScope sLevelTakeNot) := ⟨rfl, rfl, rfl, by decide +kernel, rfl, by decide +kernel, by decide +kernel⟩
theorem memo {a : La} : a.o ∈ a.foot := by simp [La.foot]
theorem memb {a : La} : a.b ∈ a.foot := by simp [La.foot]
theorem memh {a : La} : a.h ∈ a.foot := by simp [La.foot]
theorem memr {a : La} : a.r ∈ a.foot := by simp [La.foot]
theorem tn_ok {f : Addr} {fd : FuncData} (F : MtP K "take_not" "Level.take_not" sLevelTakeNot f fd) (T : LTx K C) : FnOk P w K mg base CX0 1 f fd ["self"] (spTN K C) := by
  refine okD F scTN (fun vs H Q E h => ?_) (fun cdv A outer s H vs Q E hr h => ?_)
  · obtain ⟨a, l, rfl, _⟩ := h
    rfl
  obtain ⟨a, l, rfl, hl, hs, q⟩ := h
  obtain ⟨⟨dx, h1⟩, ⟨v1, h2, p2⟩, ⟨v2, h3, p3⟩, ⟨v3, h4, p4⟩, a1, a2, a3⟩ := id hl
  refine ⟨_, (pss_one (ps_fldaug (pv 0) pe_int in_add)), ?_⟩
  refine ⟨_, rfl, a.o, C, _, _, _, rfl, h1, T.cl, T.nn, lk_n _ _ _ _, _, _, rfl, rfl, _, _, h1, (by show 4 < 1000; decide), ?_⟩
  have u : Upd H (upd H a.o (.ins C dx (lf a.b a.h a.r ((l.n : Int) + 1)))) a.foot a.foot := Upd.wr memo ⟨_, h1⟩
  have t := hl.tk u
  refine q _ ⟨⟨dx, upd_same⟩, ⟨v1, ?_, PatsQ.ext t _ _ p2⟩, ⟨v2, ?_, PatsQ.ext t _ _ p3⟩, ⟨v3, ?_, RowQ.ext t p4⟩, a1, a2, a3⟩ u
  · rw [upd_ne (ins_ne h1 h2).symm]; exact h2
  · rw [upd_ne (ins_ne h1 h3).symm]; exact h3
  · rw [upd_ne (ins_ne h1 h4).symm]; exact h4
theorem scTA : FnScope ["self", "atom"] ["self", "atom"] (defScope sLevelTakeAtom) := ⟨rfl, rfl, rfl, by decide +kernel, rfl, by decide +kernel, by decide +kernel⟩
theorem ta_ok {f : Addr} {fd : FuncData} (F : MtP K "take_atom" "Level.take_atom" sLevelTakeAtom f fd) (T : LTx K C) : FnOk P w K mg base CX0 1 f fd ["self", "atom"] (spTA K C) := by
  refine okD F scTA (fun vs H Q E h => ?_) (fun cdv A outer s H vs Q E hr h => ?_)
  · obtain ⟨a, l, v, p, rfl, _⟩ := h
    rfl
  obtain ⟨a, l, v, p, rfl, hl, hs, hp, q⟩ := h
  obtain ⟨⟨dx, h1⟩, ⟨v1, h2, p2⟩, ⟨v2, h3, p3⟩, ⟨v3, h4, p4⟩, a1, a2, a3⟩ := id hl
  refine ⟨_, (pss_cons (ps_expr (pe_bm PySem.F.plainAttrs_list PySem.F.slot_list_append PySem.F.type_list_append mt_append (pe_fld (pv 0) rfl) (pa_cons (pe_tup (pa_cons (pe_fld (pv 0) rfl) (pa_cons (pv 1) pa_nil))) pa_nil))) (pss_one (ps_fld (pv 0) pe_int rfl))), ?_⟩
  refine t_seq ⟨_, rfl, a.o, C, dx, _, _, rfl, h1, T.cl, T.nr, lk_r _ _ _ _, .inl ⟨rfl, _, SqL.of h4⟩, _, rfl, a.o, C, dx, _, _, rfl, h1, T.cl, T.nn, lk_n _ _ _ _, _, rfl, by show 2 ≤ sizeLine; decide, fun t x => ?_⟩
  have e1 : ∀ {b o}, H b = some o → upd H t (.tup [nV l.n, v]) b = some o := fun h => by rw [upd_ne (ne_of_none h x)]; exact h
  have hlen : v3.length < sizeLine := Nat.lt_of_le_of_lt (show v3.length ≤ 1000 by rw [p4.len]; exact hs.2.2.1) (by decide)
  refine ⟨a.r, _, _, rfl, rfl, e1 h4, hlen, ?_⟩
  dsimp only
  have or_ := ins_ne h1 h4
  refine ⟨_, rfl, a.o, C, dx, _, rfl, (by rw [upd_ne or_]; exact e1 h1), T.cl, T.nn, (by show 4 < 1000; decide), ?_⟩
  have u : Upd H (upd (upd (upd H t (.tup [nV l.n, v])) a.r (.lst (v3 ++ [.ref t]))) a.o (.ins C dx (lf a.b a.h a.r 0))) a.foot a.foot :=
    (Upd.new x).trans ((Upd.wr memr ⟨_, e1 h4⟩).trans (Upd.wr memo ⟨_, (by rw [upd_ne or_]; exact e1 h1)⟩))
  have tk := hl.tk u
  have tr : t ≠ a.r := (ne_of_none h4 x).symm
  have to_ : t ≠ a.o := (ne_of_none h1 x).symm
  refine q _ ⟨⟨dx, upd_same⟩, ⟨v1, ?_, PatsQ.ext tk _ _ p2⟩, ⟨v2, ?_, PatsQ.ext tk _ _ p3⟩, ⟨v3 ++ [.ref t], ?_, RowQ.append (RowQ.ext tk p4) ⟨t, v, [], rfl, SqT.of ?_, PatQ.ext tk _ _ hp, rfl⟩⟩, a1, a2, a3⟩ u
  · rw [upd_ne (ins_ne h1 h2).symm, upd_ne a2]; exact e1 h2
  · rw [upd_ne (ins_ne h1 h3).symm, upd_ne a3]; exact e1 h3
  · rw [upd_ne or_.symm]; exact upd_same
  · rw [upd_ne to_, upd_ne tr]; exact upd_same
theorem scNI : FnScope ["self"] ["self"] (defScope sLevelNeedItem) := ⟨rfl, rfl, rfl, by decide +kernel, rfl, by decide +kernel, by decide +kernel⟩
theorem ni_ok {f : Addr} {fd : FuncData} (F : MtP K "need_item" "Level.need_item" sLevelNeedItem f fd) (T : LTx K C) (X : EX K mg "NoText" CX) : FnOk P w K mg base (L2N.CX P w) 1 f fd ["self"] (spNI K C CX) := by
  refine okX F scNI (fun vs H Q E h => ?_) (fun cdv A outer s H vs Q E hr h => ?_)
  · obtain ⟨a, l, rfl, _⟩ := h
    rfl
  obtain ⟨a, l, rfl, hl, qg, qb⟩ := h
  obtain ⟨⟨dx, h1⟩, ⟨v1, h2, p2⟩, ⟨v2, h3, p3⟩, ⟨v3, h4, p4⟩, a1, a2, a3⟩ := id hl
  refine ⟨_, (pss_one (ps_if (PW.pt (pw_or (pt_cmpR op_gt (pe_fld (pv 0) rfl) pe_int (nomark _)) (pw_or1 (pt_not (pt_truth (pe_fld (pv 0) rfl) (by intro _; rfl))))))
    (pss_one (L2N.ps_raise rfl (L2N.takes_of rfl rfl rfl rfl) (L2N.pmk_own PySem.F.excBase_ValueError X.q X.g X.k (raises_own X.s X.t) rfl))) pss_nil)), ?_⟩
  refine ⟨_, rfl, a.o, C, dx, _, _, rfl, h1, T.cl, T.nn, lk_n _ _ _ _, _, _, rfl, rfl, _, rfl, ?_⟩
  by_cases hn : l.n = 0
  · refine iffF (decide_eq_false (by rw [hn]; decide)) ?_
    refine ⟨_, rfl, a.o, C, dx, _, _, rfl, h1, T.cl, T.nr, lk_r _ _ _ _, _, .inl ⟨_, SqL.of h4, rfl⟩, ?_⟩
    have hlen := p4.len
    cases hrow : l.row with
    | nil =>
      rw [hrow] at hlen
      have : v3 = [] := List.length_eq_zero_iff.mp hlen
      subst this
      exact iffT (by decide) (qb (by simp [Lv.ready, hrow]))
    | cons x xs =>
      rw [hrow] at hlen
      refine iffF ?_ (qg (by simp [Lv.ready, hn, hrow]))
      cases v3 with
      | nil => cases hlen
      | cons y ys => simp
  · refine iffT (decide_eq_true (by omega)) (qb ?_)
    simp [Lv.ready, hn]
theorem ready_cut {l : Lv} (h : l.ready = true) : ∃ r k p, l.row = r ++ [(k, p)] ∧ l.n = 0 := by
  unfold Lv.ready at h
  rw [Bool.and_eq_true, decide_eq_true_eq] at h
  rcases List.eq_nil_or_concat l.row with e | ⟨r, x, e⟩
  · rw [e] at h; exact absurd h.2 (by decide)
  · exact ⟨r, x.1, x.2, by rw [e, List.concat_eq_append], h.1⟩
theorem scTS : FnScope ["self", "nots", "atom"] ["self"] (defScope sLevelTakeStar) := ⟨rfl, rfl, rfl, by decide +kernel, rfl, by decide +kernel, by decide +kernel⟩
theorem ts_ok {f g : Addr} {fd gd : FuncData} (F : MtP K "take_star" "Level.take_star" sLevelTakeStar f fd) (T : LTx K C) (G : FnOk P w K mg base (L2N.CX P w) 1 g gd ["self"] (spNI K C CX)) (b : Binds K gd ["self"] []) (m : Meth K C "need_item" g) :
    FnOk P w K mg base (L2N.CX P w) 2 f fd ["self"] (spTS K C CX) := by
  refine okX F scTS (fun vs H Q E h => ?_) (fun cdv A outer s H vs Q E hr h => ?_)
  · obtain ⟨a, l, rfl, _⟩ := h
    rfl
  obtain ⟨a, l, rfl, hl, hs, qg, qb⟩ := h
  obtain ⟨⟨dx, h1⟩, ⟨v1, h2, p2⟩, ⟨v2, h3, p3⟩, ⟨v3, h4, p4⟩, a1, a2, a3⟩ := id hl
  refine ⟨_, (pss_cons (ps_expr (pe_meth0 (pv 0) T.cl m G hr b .nil (L2N.passes_call (L2N.takes_of rfl rfl rfl rfl) (fun _ _ _ _ h => h)))) (pss_cons (ps_asg (pe_bm0 PySem.F.plainAttrs_list PySem.F.slot_list_pop PySem.F.type_list_pop mt_pop (pe_fld (pv 0) rfl)) (pg_tup (by rfl) (pgs_cons (pg_name (i := 1) scTS.nd rfl (Or.inl rfl)) (pgs_cons (pg_name (i := 2) scTS.nd rfl (Or.inl rfl)) pgs_nil)))) (pss_one (ps_expr (pe_bm PySem.F.plainAttrs_list PySem.F.slot_list_append PySem.F.type_list_append mt_append (pe_fld (pv 0) rfl) (pa_cons (pe_tup (pa_cons (pv 1) (pa_cons (pe_tup (pa_cons pe_str (pa_cons (pv 2) pa_nil))) pa_nil))) pa_nil)))))), ?_⟩
  refine t_seq ⟨_, rfl, a.o, dx, _, rfl, h1, lf_no _ _ _ _ (by decide +kernel) (by decide +kernel) (by decide +kernel) (by decide +kernel), a, l, rfl, hl, fun rd => ?_, fun rd => qb rd⟩
  dsimp only
  obtain ⟨r0, k, p, hrow, hn⟩ := ready_cut rd
  rw [hrow] at p4
  obtain ⟨us, ws, rfl, q4, t, v, us', e9, hs4, hp4, hn4⟩ := RowQ.cut p4
  rw [show us' = [] from hn4] at e9
  subst e9
  have or_ := ins_ne h1 h4
  refine t_seq ⟨_, rfl, a.o, C, dx, _, _, rfl, h1, T.cl, T.nr, lk_r _ _ _ _, .inl ⟨rfl, _, SqL.of h4⟩, a.r, _, .ref t, rfl, rfl, h4, by simp, ?_⟩
  rw [List.dropLast_concat]
  have u1 : Upd H (upd H a.r (.lst us)) a.foot a.foot := Upd.wr memr ⟨_, h4⟩
  have tk1 := hl.tk u1
  refine g_pairT (tk1 _ _ hs4) ?_
  have h1' : upd H a.r (.lst us) a.o = some (.ins C dx (lf a.b a.h a.r (l.n : Int))) := by rw [upd_ne or_]; exact h1
  refine ⟨_, rfl, a.o, C, dx, _, _, rfl, h1', T.cl, T.nr, lk_r _ _ _ _, .inl ⟨rfl, _, SqL.of upd_same⟩, _, rfl, _, rfl, by show 2 ≤ sizeLine; decide, fun t2 x2 => ⟨by show 2 ≤ sizeLine; decide, fun t3 x3 => ?_⟩⟩
  have g2 : ∀ {b o}, upd H a.r (.lst us) b = some o → upd (upd (upd H a.r (.lst us)) t2 (.tup [.str "many", v])) t3 (.tup [nV k, .ref t2]) b = some o := fun {b o} h => by
    have e := (show upd (upd H a.r (.lst us)) t2 (.tup [.str "many", v]) b = some o by rw [upd_ne (ne_of_none h x2)]; exact h)
    rw [upd_ne (ne_of_none e x3)]; exact e
  have hr2 := g2 (b := a.r) upd_same
  have hlen : us.length < sizeLine := Nat.lt_of_le_of_lt (show us.length ≤ 1000 by
    have := hs.2.2.1
    rw [hrow, List.length_append] at this
    rw [q4.len]; omega) (by decide)
  refine ⟨a.r, _, _, rfl, rfl, hr2, hlen, ?_⟩
  have u : Upd H (upd (upd (upd (upd H a.r (.lst us)) t2 (.tup [.str "many", v])) t3 (.tup [nV k, .ref t2])) a.r (.lst (us ++ [.ref t3]))) a.foot a.foot := u1.trans ((Upd.new x2).trans ((Upd.new x3).trans (Upd.wr memr ⟨_, hr2⟩)))
  have tk := hl.tk u
  have t2r : t2 ≠ a.r := (ne_of_none (show upd H a.r (.lst us) a.r = some _ from upd_same) x2).symm
  have t2e : upd (upd H a.r (.lst us)) t2 (.tup [.str "many", v]) t2 = some (.tup [.str "many", v]) := upd_same
  have t3r : t3 ≠ a.r := (ne_of_none (show upd (upd H a.r (.lst us)) t2 (.tup [.str "many", v]) a.r = some (.lst us) by rw [upd_ne t2r.symm]; exact upd_same) x3).symm
  have hst : l.starred = { l with row := r0 ++ [(k, .many p)] } := by
    unfold Lv.starred
    rw [hrow]
    simp
  refine qg rd _ ?_ u
  rw [hst]
  refine ⟨⟨dx, ?_⟩, ⟨v1, ?_, PatsQ.ext tk _ _ p2⟩, ⟨v2, ?_, PatsQ.ext tk _ _ p3⟩, ⟨us ++ [.ref t3], upd_same, RowQ.append (RowQ.ext tk q4) ⟨t3, .ref t2, [], rfl, SqT.of ?_, ⟨t2, v, rfl, SqT.of ?_, PatQ.ext tk _ _ hp4⟩, rfl⟩⟩, a1, a2, a3⟩
  · rw [upd_ne or_]; exact g2 h1'
  · rw [upd_ne a2]; exact g2 (by rw [upd_ne a2]; exact h2)
  · rw [upd_ne a3]; exact g2 (by rw [upd_ne a3]; exact h3)
  · rw [upd_ne t3r]; exact upd_same
  · rw [upd_ne t2r, upd_ne (ne_of_none t2e x3)]; exact t2e
end
end Bo
set_option Elab.async false
set_option linter.all false
set_option maxRecDepth 100000
set_option maxHeartbeats 4000000
namespace Bo
open PySem PySem.Spec PyProof.Rows L2 GE
theorem map_take {α β : Type} (f : α → β) : ∀ (i : Nat) (xs : List α) (x : α), xs[i]? = some x → (xs.take (i + 1)).map f = (xs.take i).map f ++ [f x] := fun i xs x h => by
  rw [List.take_succ, h, List.map_append]; rfl
theorem updA {H H' : Hp} (u : ∀ S, Upd H H' S S) {b : Addr} {o : HO} (h : H b = some o) : H' b = some o := (u []).fr b o h (by simp)
section
variable {P : Program} {w : World} {K : PySem.W.Frag} {mg : Str → Option Value} {base : Heap} {C CX : Addr}
theorem scEH : FnScope ["self", "nots", "atom"] ["self"] (defScope sLevelEndHalf) := ⟨rfl, rfl, rfl, by decide +kernel, rfl, by decide +kernel, by decide +kernel⟩
theorem eh_ok {f g g2 g3 : Addr} {fd gd d2 d3 : FuncData} (F : MtP K "end_half" "Level.end_half" sLevelEndHalf f fd) (T : LTx K C) (G : FnOk P w K mg base (L2N.CX P w) 1 g gd ["self"] (spNI K C CX)) (b : Binds K gd ["self"] []) (m : Meth K C "need_item" g)
    (G2 : FnOk P w K mg base CX0 1 g2 d2 ["nots", "pattern"] (spDen K)) (b2 : Binds K d2 ["nots", "pattern"] []) (k2 : PySem.W.keepIn K (.ref g2) = true) (m2 : mg "denied" = some (.ref g2))
    (G3 : FnOk P w K mg base CX0 1 g3 d3 ["kind", "parts"] (spTog K)) (b3 : Binds K d3 ["kind", "parts"] []) (k3 : PySem.W.keepIn K (.ref g3) = true) (m3 : mg "together" = some (.ref g3)) :
    FnOk P w K mg base (L2N.CX P w) 2 f fd ["self"] (spEH K C CX Lv.halved) := by
  refine okX F scEH (fun vs H Q E h => ?_) (fun cdv A outer s H vs Q E hr h => ?_)
  · obtain ⟨a, l, rfl, _⟩ := h
    rfl
  obtain ⟨a, l, rfl, hl, hs, qg, qb⟩ := h
  obtain ⟨⟨dx, h1⟩, ⟨v1, h2, p2⟩, ⟨v2, h3, p3⟩, ⟨v3, h4, p4⟩, a1, a2, a3⟩ := id hl
  refine ⟨_, (pss_cons (ps_expr (pe_meth0 (pv 0) T.cl m G hr b .nil (L2N.passes_call (L2N.takes_of rfl rfl rfl rfl) (fun _ _ _ _ h => h)))) (pss_cons (ps_expr (pe_bm PySem.F.plainAttrs_list PySem.F.slot_list_append PySem.F.type_list_append mt_append (pe_fld (pv 0) rfl) (pa_cons (pe_call G3 hr rfl m3 k3 b3 .nil pass0 (pa_cons pe_str (pa_cons (pe_lc (own := [("nots", 1), ("atom", 2)]) (g := gTup K 2 (gCons (gName 1) (gCons (gName 2) gNil))) (tt := tYes) rfl scEH.nd (pi_list (pe_fld (pv 0) rfl))
      (blkOk_by (N := ["self", "nots", "atom"]) (sc := defScope sLevelEndHalf) (by decide +kernel))
      (fun _ _ _ _ _ => pg_tup rfl (pgs_cons (pg_name (i := 1) scEH.nd rfl (Or.inl rfl) (Or.inr rfl)) (pgs_cons (pg_name (i := 2) scEH.nd rfl (Or.inl rfl) (Or.inr rfl)) pgs_nil))) (fun _ _ _ _ _ => pts_nil)
      (fun _ _ _ _ _ => pe_call G2 hr rfl m2 k2 b2 .nil pass0 (pa_cons (pv 1) (pa_cons (pv 2) pa_nil)))) pa_nil))) pa_nil))) (pss_one (ps_fld (pv 0) (pe_lst pa_nil) rfl)))), ?_⟩
  refine t_seq ⟨_, rfl, a.o, dx, _, rfl, h1, lf_no _ _ _ _ (by decide +kernel) (by decide +kernel) (by decide +kernel) (by decide +kernel), a, l, rfl, hl, fun rd => ?_, fun rd => qb rd⟩
  dsimp only
  have l3 := p4.len
  refine t_seq ⟨_, rfl, a.o, C, dx, _, _, rfl, h1, T.cl, T.nh, lk_h _ _ _ _, .inl ⟨rfl, _, SqL.of h3⟩, _, rfl, a.o, C, dx, _, _, rfl, h1, T.cl, T.nr, lk_r _ _ _ _, a.r, rfl, ⟨_, SqL.of h4⟩, fun D hD => ?_⟩
  refine lc_list (K := K) (a := a.r) (xs := v3) (fun i H' => (∀ S, Upd H H' S S) ∧ ∃ ws, H' D = some (.lst ws) ∧ PatsQ K H' ((l.row.take i).map ntq) ws ∧ i ≤ v3.length) ⟨fun S => Upd.new hD, [], upd_same, rfl, Nat.zero_le _⟩ (fun i H' _ b => SqL.of (updA b.1 h4)) ?_ ?_
  · rintro i x H' hx ⟨u, ws, hw, pw, hi⟩
    obtain ⟨n, p, t, v, hg, rfl, hst, hp⟩ := p4.get hx
    have tk := upd_tk (K := K) u
    have hlt : i < v3.length := (List.getElem?_eq_some_iff.mp hx).1
    have hn : n ≤ 1000 ∨ True := .inr trivial
    refine g_pairT (tk _ _ hst) ⟨rfl, ?_⟩
    refine ⟨_, rfl, _, rfl, n, v, p, rfl, ?_, PatQ.ext tk _ _ hp, fun v' H2 u2 hp2 => ?_⟩
    · exact hs.2.2.2.2 _ (List.mem_of_getElem? hg)
    · have hw2 := updA u2 hw
      have hwl := pw.len
      rw [List.length_map, List.length_take] at hwl
      have h9 := hs.2.2.1
      refine ⟨ws, hw2, Nat.lt_of_le_of_lt (show ws.length ≤ 1000 by omega) (by decide), Upd.wrN (fun S => (u S).trans (u2 S)) hD, ws ++ [v'], upd_same, ?_, hlt⟩
      rw [map_take ntq i l.row (n, p) hg]
      have tk2 : Tk K H2 (upd H2 D (.lst (ws ++ [v']))) := (Upd.wr (List.mem_singleton.mpr rfl) ⟨_, hw2⟩ : Upd H2 _ [D] [D]).tk (fun x hx => by rw [List.mem_singleton.mp hx]; exact .inl ⟨_, hw2⟩)
      exact (PatsQ.ext ((upd_tk u2).trans tk2) _ _ pw).append (PatsQ.one (PatQ.ext tk2 _ _ hp2))
  · rintro H1 ⟨u, ws, hw, pw, _⟩
    rw [l3, List.take_length] at pw
    refine ⟨"row", D, ws, l.row.map ntq, rfl, by decide, hw, pw, by rw [List.length_map]; have := hs.2.2.1; omega, fun v' H2 u2 hp2 => ?_⟩
    have u12 : ∀ S, Upd H H2 S S := fun S => (u S).trans (u2 S)
    have h3' := updA u12 h3
    have h1' := updA u12 h1
    have hlen : v2.length < sizeLine := Nat.lt_of_le_of_lt (show v2.length ≤ 1000 by rw [p3.len]; exact hs.2.1) (by decide)
    refine ⟨a.h, _, _, rfl, rfl, h3', hlen, ?_⟩
    dsimp only
    refine ⟨Nat.zero_le _, fun r2 x2 => ?_⟩
    have oh := ins_ne h1 h3
    have hr2 : r2 ≠ a.h := fun e => by rw [e, upd_same] at x2; cases x2
    have x2' : H2 r2 = none := by rw [upd_ne hr2] at x2; exact x2
    have x20 : H r2 = none := (u12 []).free x2'
    have or2 : a.o ≠ r2 := ne_of_none h1 x20
    have h1'' : upd (upd H2 a.h (.lst (v2 ++ [v']))) r2 (.lst []) a.o = some (.ins C dx (lf a.b a.h a.r (l.n : Int))) := by rw [upd_ne or2, upd_ne oh]; exact h1'
    refine ⟨_, rfl, a.o, C, dx, _, rfl, h1'', T.cl, T.nr, (by show 4 < 1000; decide), ?_⟩
    have uu : Upd H (upd (upd (upd H2 a.h (.lst (v2 ++ [v']))) r2 (.lst [])) a.o (.ins C dx (lf a.b a.h r2 (l.n : Int)))) a.foot a.foot :=
      (u12 _).trans ((Upd.wr memh ⟨_, h3'⟩).trans ((Upd.new x2).trans (Upd.wr memo ⟨_, h1''⟩)))
    have tk := hl.tk uu
    have ub : Upd H2 (upd (upd (upd H2 a.h (.lst (v2 ++ [v']))) r2 (.lst [])) a.o (.ins C dx (lf a.b a.h r2 (l.n : Int)))) a.foot a.foot := (Upd.wr memh ⟨_, h3'⟩).trans ((Upd.new x2).trans (Upd.wr memo ⟨_, h1''⟩))
    have tk2 : Tk K H2 _ := ub.tk (fun x hx => by
      simp only [La.foot, List.mem_cons, List.not_mem_nil, or_false] at hx
      rcases hx with rfl | rfl | rfl | rfl
      · exact .inr ⟨_, _, _, h1'⟩
      · exact .inl ⟨_, updA u12 h2⟩
      · exact .inl ⟨_, h3'⟩
      · exact .inl ⟨_, updA u12 h4⟩)
    have br2 : a.b ≠ r2 := ne_of_none h2 x20
    refine qg rd ⟨a.o, a.b, a.h, r2⟩ _ rfl ⟨⟨dx, upd_same⟩, ⟨v1, ?_, PatsQ.ext tk _ _ p2⟩, ⟨v2 ++ [v'], ?_, (PatsQ.ext tk _ _ p3).append (PatsQ.one (PatQ.ext tk2 _ _ hp2))⟩, ⟨[], ?_, rfl⟩, a1, br2, hr2.symm⟩ ⟨uu.fr, fun x hx => ?_, uu.th⟩
    · show upd _ a.o _ a.b = _
      rw [upd_ne (ins_ne h1 h2).symm, upd_ne br2, upd_ne a1]; exact updA u12 h2
    · show upd _ a.o _ a.h = _
      rw [upd_ne oh.symm, upd_ne hr2.symm]; exact upd_same
    · show upd _ a.o _ r2 = _
      rw [upd_ne or2.symm]; exact upd_same
    · simp only [La.foot, List.mem_cons, List.not_mem_nil, or_false] at hx
      rcases hx with rfl | rfl | rfl | rfl
      · exact .inl memo
      · exact .inl memb
      · exact .inl memh
      · exact .inr x20
theorem scEB : FnScope ["self"] ["self"] (defScope sLevelEndBranch) := ⟨rfl, rfl, rfl, by decide +kernel, rfl, by decide +kernel, by decide +kernel⟩
theorem eb_ok {f g g3 : Addr} {fd gd d3 : FuncData} (F : MtP K "end_branch" "Level.end_branch" sLevelEndBranch f fd) (T : LTx K C) (G : FnOk P w K mg base (L2N.CX P w) 2 g gd ["self"] (spEH K C CX Lv.halved)) (b : Binds K gd ["self"] []) (m : Meth K C "end_half" g)
    (G3 : FnOk P w K mg base CX0 1 g3 d3 ["kind", "parts"] (spTog K)) (b3 : Binds K d3 ["kind", "parts"] []) (k3 : PySem.W.keepIn K (.ref g3) = true) (m3 : mg "together" = some (.ref g3)) :
    FnOk P w K mg base (L2N.CX P w) 3 f fd ["self"] (spEH K C CX Lv.branched) := by
  refine okX F scEB (fun vs H Q E h => ?_) (fun cdv A outer s H vs Q E hr h => ?_)
  · obtain ⟨a, l, rfl, _⟩ := h
    rfl
  obtain ⟨a0, l, rfl, hl0, hs, qg, qb⟩ := h
  obtain ⟨⟨dx0, h10⟩, _⟩ := id hl0
  refine ⟨_, (pss_cons (ps_expr (pe_meth0 (pv 0) T.cl m G hr b .nil (L2N.passes_call (L2N.takes_of rfl rfl rfl rfl) (fun _ _ _ _ h => h)))) (pss_cons (ps_expr (pe_bm PySem.F.plainAttrs_list PySem.F.slot_list_append PySem.F.type_list_append mt_append (pe_fld (pv 0) rfl) (pa_cons (pe_call G3 (hr.mono (by omega)) rfl m3 k3 b3 .nil pass0 (pa_cons pe_str (pa_cons (pe_fld (pv 0) rfl) pa_nil))) pa_nil))) (pss_one (ps_fld (pv 0) (pe_lst pa_nil) rfl)))), ?_⟩
  refine t_seq ⟨_, rfl, a0.o, dx0, _, rfl, h10, lf_no _ _ _ _ (by decide +kernel) (by decide +kernel) (by decide +kernel) (by decide +kernel), a0, l, rfl, hl0, hs, fun rd a H0 ea hl u0 => ?_, fun rd => qb rd⟩
  dsimp only
  obtain ⟨⟨dx, h1⟩, ⟨v1, h2, p2⟩, ⟨v2, h3, p3⟩, ⟨v3, h4, p4⟩, a1, a2, a3⟩ := id hl
  have n1 : l.halved.bs.length ≤ 1000 := hs.1
  have n2 : l.halved.hs.length ≤ 1001 := by show (l.hs ++ [_]).length ≤ 1001; rw [List.length_append]; have := hs.2.1; show _ + 1 ≤ _; omega
  rw [← ea]
  refine t_seq ⟨_, rfl, a.o, C, dx, _, _, rfl, h1, T.cl, T.nb, lk_b _ _ _ _, .inl ⟨rfl, _, SqL.of h2⟩, _, rfl, a.o, C, dx, _, _, rfl, h1, T.cl, T.nh, lk_h _ _ _ _, "and", a.h, v2, l.halved.hs, rfl, by decide, h3, p3, n2, fun v' H2 u2 hp2 => ?_⟩
  have h1' := updA u2 h1
  have h2' := updA u2 h2
  have hlen : v1.length < sizeLine := Nat.lt_of_le_of_lt (show v1.length ≤ 1000 by rw [p2.len]; exact n1) (by decide)
  refine ⟨a.b, _, _, rfl, rfl, h2', hlen, ?_⟩
  dsimp only
  refine ⟨Nat.zero_le _, fun r2 x2 => ?_⟩
  have ob := ins_ne h1 h2
  have br2 : r2 ≠ a.b := fun e => by rw [e, upd_same] at x2; cases x2
  have x2' : H2 r2 = none := by rw [upd_ne br2] at x2; exact x2
  have x20 : H0 r2 = none := (u2 []).free x2'
  have or2 : a.o ≠ r2 := ne_of_none h1 x20
  have h1'' : upd (upd H2 a.b (.lst (v1 ++ [v']))) r2 (.lst []) a.o = some (.ins C dx (lf a.b a.h a.r (l.halved.n : Int))) := by rw [upd_ne or2, upd_ne ob]; exact h1'
  refine ⟨_, rfl, a.o, C, dx, _, rfl, h1'', T.cl, T.nh, (by show 4 < 1000; decide), ?_⟩
  have ub : Upd H2 (upd (upd (upd H2 a.b (.lst (v1 ++ [v']))) r2 (.lst [])) a.o (.ins C dx (lf a.b r2 a.r (l.halved.n : Int)))) a.foot a.foot := (Upd.wr memb ⟨_, h2'⟩).trans ((Upd.new x2).trans (Upd.wr memo ⟨_, h1''⟩))
  have uu := (u2 a.foot).trans ub
  have tk := hl.tk uu
  have tk2 : Tk K H2 _ := ub.tk (fun x hx => by
    simp only [La.foot, List.mem_cons, List.not_mem_nil, or_false] at hx
    rcases hx with rfl | rfl | rfl | rfl
    · exact .inr ⟨_, _, _, h1'⟩
    · exact .inl ⟨_, h2'⟩
    · exact .inl ⟨_, updA u2 h3⟩
    · exact .inl ⟨_, updA u2 h4⟩)
  have rr2 : r2 ≠ a.r := (ne_of_none h4 x20).symm
  have u3 : Upd H0 _ a.foot (La.foot ⟨a.o, a.b, r2, a.r⟩) := ⟨uu.fr, fun x hx => by
    simp only [La.foot, List.mem_cons, List.not_mem_nil, or_false] at hx
    rcases hx with rfl | rfl | rfl | rfl
    · exact .inl memo
    · exact .inl memb
    · exact .inr x20
    · exact .inl memr, uu.th⟩
  refine qg rd ⟨a.o, a.b, r2, a.r⟩ _ ea ⟨⟨dx, upd_same⟩, ⟨v1 ++ [v'], ?_, (PatsQ.ext tk _ _ p2).append (PatsQ.one (PatQ.ext tk2 _ _ hp2))⟩, ⟨[], ?_, rfl⟩, ⟨v3, ?_, RowQ.ext tk p4⟩, br2.symm, a2, rr2⟩ (u0.trans u3)
  · show upd _ a.o _ a.b = _
    rw [upd_ne ob.symm, upd_ne br2.symm]; exact upd_same
  · show upd _ a.o _ r2 = _
    rw [upd_ne or2.symm]; exact upd_same
  · show upd _ a.o _ a.r = _
    rw [upd_ne (ins_ne h1 h4).symm, upd_ne rr2.symm, upd_ne a2.symm]; exact updA u2 h4
theorem scTd : FnScope ["self"] ["self"] (defScope sLevelTold) := ⟨rfl, rfl, rfl, by decide +kernel, rfl, by decide +kernel, by decide +kernel⟩
theorem td_ok {f g g3 : Addr} {fd gd d3 : FuncData} (F : MtP K "told" "Level.told" sLevelTold f fd) (T : LTx K C) (G : FnOk P w K mg base (L2N.CX P w) 3 g gd ["self"] (spEH K C CX Lv.branched)) (b : Binds K gd ["self"] []) (m : Meth K C "end_branch" g)
    (G3 : FnOk P w K mg base CX0 1 g3 d3 ["kind", "parts"] (spTog K)) (b3 : Binds K d3 ["kind", "parts"] []) (k3 : PySem.W.keepIn K (.ref g3) = true) (m3 : mg "together" = some (.ref g3)) :
    FnOk P w K mg base (L2N.CX P w) 4 f fd ["self"] (spTo K C CX) := by
  refine okX F scTd (fun vs H Q E h => ?_) (fun cdv A outer s H vs Q E hr h => ?_)
  · obtain ⟨a, l, rfl, _⟩ := h
    rfl
  obtain ⟨a0, l, rfl, hl0, hs, qg, qb⟩ := h
  obtain ⟨⟨dx0, h10⟩, _⟩ := id hl0
  refine ⟨_, (pss_cons (ps_expr (pe_meth0 (pv 0) T.cl m G hr b .nil (L2N.passes_call (L2N.takes_of rfl rfl rfl rfl) (fun _ _ _ _ h => h)))) (pss_one (ps_ret (pe_call G3 (hr.mono (by omega)) rfl m3 k3 b3 .nil pass0 (pa_cons pe_str (pa_cons (pe_fld (pv 0) rfl) pa_nil)))))), ?_⟩
  refine t_seq ⟨_, rfl, a0.o, dx0, _, rfl, h10, lf_no _ _ _ _ (by decide +kernel) (by decide +kernel) (by decide +kernel) (by decide +kernel), a0, l, rfl, hl0, hs, fun rd a H0 ea hl u0 => ?_, fun rd => qb rd⟩
  dsimp only
  obtain ⟨⟨dx, h1⟩, ⟨v1, h2, p2⟩, _⟩ := id hl
  have n1 : l.branched.bs.length ≤ 1001 := by show (l.bs ++ [_]).length ≤ 1001; rw [List.length_append]; have := hs.1; show _ + 1 ≤ _; omega
  rw [← ea]
  exact ⟨_, rfl, a.o, C, dx, _, _, rfl, h1, T.cl, T.nb, lk_b _ _ _ _, "or", a.b, v1, l.branched.bs, rfl, by decide, h2, p2, n1, fun v' H2 u2 hp2 => qg rd v' H2 _ (u0.trans (u2 _)) hp2⟩
end
end Bo
set_option Elab.async false
set_option linter.all false
set_option maxRecDepth 100000
set_option maxHeartbeats 4000000
namespace Bo
open PySem PySem.Spec PyProof.Rows L2 GE
theorem tyx_ext {K : PySem.W.Frag} {H H' : Hp} {v : V} {t : Value} (e : Ext H H') (h : TyX K H v t) : TyX K H' v t := by
  cases h with
  | base b =>
    cases b with
    | non => exact .base .non
    | bl x => exact .base (.bl x)
    | int i => exact .base (.int i)
    | str x => exact .base (.str x)
    | flt x => exact .base (.flt x)
    | lst k => exact .base (.lst (e.keep _ _ k (fun ps z => by cases z)))
    | frz k => exact .base (.frz (e.keep _ _ k (fun ps z => by cases z)))
    | tup k => exact .base (.tup (e.keep _ _ k (fun ps z => by cases z)))
    | dK k => exact .base (.dK (e.keep _ _ k (fun ps z => by cases z)))
    | dT k => exact .base (.dT (e.keep _ _ k (fun ps z => by cases z)))
    | ins k a b c d f => exact .base (.ins (e.keep _ _ k (fun ps z => by cases z)) a b c d f)
  | byt b => exact .byt b
  | set k => exact .set (e.keep _ _ k (fun ps z => by cases z))
  | kList k c => exact .kList k c
  | kTuple k c => exact .kTuple k c
  | kDict k c => exact .kDict k c
  | fTuple k => exact .fTuple (e.keep _ _ k (fun ps z => by cases z))
  | fDict k => exact .fDict (e.keep _ _ k (fun ps z => by cases z))
theorem kn_ext {K : PySem.W.Frag} {H H' : Hp} {v : V} {T : String} (e : Ext H H') (h : Kn K H v T) : Kn K H' v T := ⟨tyx_ext e h.1, h.2⟩
theorem kn_tupA {K : PySem.W.Frag} {H : Hp} {a : Addr} {xs : List V} (h : H a = some (.tup xs)) : Kn K H (.ref a) "tuple" := ⟨.base (.tup h), by decide⟩
theorem kn_lstA {K : PySem.W.Frag} {H : Hp} {a : Addr} {xs : List V} (h : H a = some (.lst xs)) : Kn K H (.ref a) "list" := ⟨.base (.lst h), by decide⟩
theorem kn_dicA {K : PySem.W.Frag} {H : Hp} {a : Addr} {xs : List (Key × V)} (h : H a = some (.dK xs)) : Kn K H (.ref a) "dict" := ⟨.base (.dK h), by decide⟩
def letB (L : Str) : V → Bool
  | .str z => match cds z with
    | [c] => decide (c ∈ cds L)
    | _ => false
  | _ => false
theorem letB_not {L : Str} {v : V} (h : ∀ z, v ≠ .str z) : letB L v = false := by
  cases v <;> first | rfl | exact absurd rfl (h _)
def spIL (K : PySem.W.Frag) : Sp := fun vs H Q _ => ∃ (L : Str) (v : V) (T : String), vs = [.str L, v] ∧ Kn K H v T ∧ (∀ z, v = .str z → z.cps.size ≤ 500) ∧ Q (.bl (letB L v)) H
section
variable {P : Program} {w : World} {K : PySem.W.Frag} {mg : Str → Option Value} {base : Heap}
theorem scIL : FnScope ["letters", "thing"] ["letters", "thing"] (defScope sIsLetter) := ⟨rfl, rfl, rfl, by decide +kernel, rfl, by decide +kernel, by decide +kernel⟩
theorem il_ok {f : Addr} {fd : FuncData} (F : FnP K "is_letter" sIsLetter f fd) (mi : mg "isinstance" = none) (ms : mg "str" = none) (ml : mg "len" = none) : FnOk P w K mg base CX0 1 f fd ["letters", "thing"] (spIL K) := by
  refine okD F scIL (fun vs H Q E h => ?_) (fun cdv A outer s H vs Q E hr h => ?_)
  · obtain ⟨L, c, T, rfl, _⟩ := h
    rfl
  obtain ⟨L, v, T, rfl, hk, hz, q⟩ := h
  refine ⟨_, pss_one (ps_ret (pe_and (pe_callB call_isi rfl mi (by decide +kernel) (pa_cons (pv 1) (pa_cons (pe_bltn (v := .ty "str") (u := .type "str") rfl ms (by decide +kernel) rfl) pa_nil)))
    (pe_and (pe_cmpR op_eq (pe_callB call_len rfl ml PySem.boot_len (pa_cons (pv 1) pa_nil)) pe_int (nomark _)) (pe_one (pe_cmpR op_in_sign (pv 1) (pv 0) (by rfl)))))), ?_⟩
  refine ⟨_, rfl, v, .ty "str", .type T, .type "str", _, rfl, .ty _, hk.1, kn_str hk.2, _, rfl, ?_⟩
  by_cases hs : T = "str"
  · subst hs
    obtain ⟨z, rfl⟩ := hk.str
    refine iffT (by decide) ?_
    refine ⟨_, rfl, .str z, z.length, rfl, ⟨Nat.le_trans (hz z rfl) (by decide), rfl⟩, rfl, _, rfl, ?_⟩
    have hl : (cds z).length = z.length := Array.length_toList
    rw [dec_int]
    by_cases h1 : z.length = 1
    · rw [show (((z.length : Nat) : Int) == 1) = true by rw [h1]; rfl]
      refine iffT rfl ?_
      obtain ⟨c, hc⟩ : ∃ c, cds z = [c] := List.length_eq_one_iff.mp (by omega)
      obtain ⟨⟨cs⟩⟩ := z
      have hc : cs = [c] := hc
      subst hc
      exact ⟨_, rfl, _, rfl, c, L, rfl, rfl, q⟩
    · rw [show (((z.length : Nat) : Int) == 1) = false from beq_eq_false_iff_ne.mpr (by omega)]
      refine iffF rfl ?_
      have e : letB L (.str z) = false := by
        show (match cds z with | [c] => decide (c ∈ cds L) | _ => false) = false
        split
        · rename_i c hc
          rw [hc] at hl
          exact absurd hl.symm h1
        · rfl
      rw [e] at q
      exact q
  · rw [show decide (T = "str") = false from decide_eq_false hs]
    refine iffF rfl ?_
    rw [letB_not (hk.notStr hs)] at q
    exact q
end
/-! what the top holds -/
theorem vals_str : ∀ {us : List Value} {zs : List Str}, us.map (fun u => match u with | .str z _ => some z | _ => none) = zs.map some → Vals (zs.map V.str) us
  | [], [], _ => .nil
  | [], _ :: _, h => by cases h
  | _ :: _, [], h => by cases h
  | u :: us, z :: zs, h => by
    rw [List.map_cons, List.map_cons] at h
    injection h with h1 h2
    refine .cons ?_ (vals_str h2)
    split at h1
    · rename_i y t
      cases h1
      exact ⟨t, rfl⟩
    · cases h1
theorem tup_ok {K : PySem.W.Frag} {a : Addr} {zs : List Str} (h : tupB K a zs = true) (H : Hp) : SqT K H a (zs.map V.str) := by
  unfold tupB at h
  cases e : K.lookup a with
  | none => rw [e] at h; cases h
  | some o =>
    rw [e] at h
    obtain ⟨h1, h2⟩ := He.ba h
    cases e2 : o.data with
    | seq its n =>
      rw [e2] at h2
      obtain ⟨h3, h4⟩ := He.ba h2
      have h3 : its.toList.length ≤ 100 := of_decide_eq_true h3
      refine .inr ⟨o, its, n, e, of_decide_eq_true h1, e2, ?_, vals_str (of_decide_eq_true h4)⟩
      rw [Array.length_toList] at h3
      exact Nat.le_trans h3 (by decide)
    | _ => rw [e2] at h2; cases h2
theorem str_ok' {K : PySem.W.Frag} {d : Addr} {k z : Str} (h : strB K d k z = true) : ∃ t, PySem.W.nsIn K d k = some (some (.str z t)) := by
  unfold strB at h
  split at h
  · rename_i y t e
    have : y = z := of_decide_eq_true h
    exact ⟨t, by rw [e, this]⟩
  · cases h
theorem br_ok {K : PySem.W.Frag} {d : Addr} {k : Str} {zs : List Str} (h : brB K d k zs = true) : PySem.W.nsIn K d k = some (some (.ref (brA K d k))) ∧ ∀ H, SqT K H (brA K d k) (zs.map V.str) := by
  unfold brB at h
  obtain ⟨h1, h2⟩ := He.ba h
  exact ⟨of_decide_eq_true h1, tup_ok h2⟩
section
variable {K : PySem.W.Frag} {σ : L2.St} {H : Hp} {a : Addr} {xs : List V} {v : V} {Q : VK} {D : Ends} {t u : TS}
theorem r_ixQ {i : Nat} (j : Nat) (h0 : σ[i]? = some (some (.ref a))) (ha : SqT K H a xs) (hx : xs[j]? = some v) (q : Q v H) : tOp (rIxT K) (tVar i) (tC (.int (j : Int))) σ H Q :=
  ⟨_, h0, a, xs, _, v, rfl, rfl, ha, atI_nat hx, q⟩
theorem r_inQ {i : Nat} {k : Str} (zs : List Str) (h0 : σ[i]? = some (some (.ref a))) (ha : SqT K H a (.str k :: xs)) (hz : zs.length ≤ 20) (q : ∀ p, H p = none → Q (.bl (decide (k ∈ zs))) (upd H p (.tup (zs.map V.str)))) :
    tOp (rIn K false) (tOp (rIxT K) (tVar i) (tC (.int 0))) (tTup (tCs zs)) σ H Q := by
  refine r_ixQ 0 h0 ha rfl (tCs_go zs _ ⟨?_, fun p np => ?_⟩)
  · rw [List.length_map]; exact Nat.le_of_lt (small1000 (by omega))
  · refine ⟨p, _, rfl, .inr (SqT.of upd_same), rfl, ?_, ?_⟩
    · rw [List.all_map, List.all_eq_true]; intro z _; rfl
    · rw [inV_str]; exact q p np
theorem if_inTQ {i : Nat} {k : Str} (zs : List Str) (h0 : σ[i]? = some (some (.ref a))) (ha : SqT K H a (.str k :: xs)) (hk : k ∈ zs) (h : ∀ p, H p = none → t D σ (upd H p (.tup (zs.map V.str)))) (hz : zs.length ≤ 20 := by decide) :
    tIfS (tTest (tOp (rIn K false) (tOp (rIxT K) (tVar i) (tC (.int 0))) (tTup (tCs zs)))) t u D σ H :=
  r_inQ zs h0 ha hz fun p np => ⟨_, rfl, iffT (decide_eq_true hk) (h p np)⟩
theorem if_inFQ {i : Nat} {k : Str} (zs : List Str) (h0 : σ[i]? = some (some (.ref a))) (ha : SqT K H a (.str k :: xs)) (hk : k ∉ zs) (h : ∀ p, H p = none → u D σ (upd H p (.tup (zs.map V.str)))) (hz : zs.length ≤ 20 := by decide) :
    tIfS (tTest (tOp (rIn K false) (tOp (rIxT K) (tVar i) (tC (.int 0))) (tTup (tCs zs)))) t u D σ H :=
  r_inQ zs h0 ha hz fun p np => ⟨_, rfl, iffF (decide_eq_false hk) (h p np)⟩
end
theorem tk_new {K : PySem.W.Frag} {H : Hp} {p : Addr} {o : HO} (h : H p = none) : Tk K H (upd H p o) := (Ext.new h).sqT
def PartsQ (K : PySem.W.Frag) (H : Hp) (v : V) (us : List V) : Prop :=
  (∃ a b k, v = .ref a ∧ k ∈ (["row", "or", "and"] : List Str) ∧ SqT K H a [.str k, .ref b] ∧ SqT K H b us) ∨ (∃ a k u, v = .ref a ∧ k ∈ (["many", "not"] : List Str) ∧ SqT K H a [.str k, u] ∧ us = [u]) ∨
    ∃ a k xs, v = .ref a ∧ SqT K H a (.str k :: xs) ∧ k ∉ (["row", "or", "and"] : List Str) ∧ k ∉ (["many", "not"] : List Str) ∧ us = []
theorem pat_partsQ {K : PySem.W.Frag} {H : Hp} {p : Pat} {v : V} (h : PatQ K H p v) : ∃ us, PartsQ K H v us ∧ PatsQ K H p.parts us := by
  cases p with
  | none => obtain ⟨a, e, h⟩ := h; exact ⟨[], .inr (.inr ⟨a, _, _, e, h, by decide, by decide, rfl⟩), rfl⟩
  | empty => obtain ⟨a, e, h⟩ := h; exact ⟨[], .inr (.inr ⟨a, _, _, e, h, by decide, by decide, rfl⟩), rfl⟩
  | sign c => obtain ⟨a, e, h⟩ := h; exact ⟨[], .inr (.inr ⟨a, _, _, e, h, by decide, by decide, rfl⟩), rfl⟩
  | row ps => obtain ⟨a, b, vs, e, h, hb, hp⟩ := h; exact ⟨vs, .inl ⟨a, b, _, e, by decide, h, hb⟩, hp⟩
  | or ps => obtain ⟨a, b, vs, e, h, hb, hp⟩ := h; exact ⟨vs, .inl ⟨a, b, _, e, by decide, h, hb⟩, hp⟩
  | and ps => obtain ⟨a, b, vs, e, h, hb, hp⟩ := h; exact ⟨vs, .inl ⟨a, b, _, e, by decide, h, hb⟩, hp⟩
  | many p => obtain ⟨a, u, e, h, hp⟩ := h; exact ⟨[u], .inr (.inl ⟨a, _, u, e, by decide, h, rfl⟩), u, [], rfl, hp, rfl⟩
  | not p => obtain ⟨a, u, e, h, hp⟩ := h; exact ⟨[u], .inr (.inl ⟨a, _, u, e, by decide, h, rfl⟩), u, [], rfl, hp, rfl⟩
theorem partsQ_ext {K : PySem.W.Frag} {H H' : Hp} {v : V} {us : List V} (e : Tk K H H') (h : PartsQ K H v us) : PartsQ K H' v us := by
  rcases h with ⟨a, b, k, e1, m, h1, h2⟩ | ⟨a, k, u, e1, m, h1, e2⟩ | ⟨a, k, xs, e1, h1, n1, n2, e2⟩
  · exact .inl ⟨a, b, k, e1, m, e _ _ h1, e _ _ h2⟩
  · exact .inr (.inl ⟨a, k, u, e1, m, e _ _ h1, e2⟩)
  · exact .inr (.inr ⟨a, k, xs, e1, e _ _ h1, n1, n2, e2⟩)
def spPO (K : PySem.W.Frag) : Sp := fun vs H Q _ => ∃ (v : V) (us : List V), vs = [v] ∧ PartsQ K H v us ∧ ∀ b H', Ext H H' → SqT K H' b us → Q (.ref b) H'
def spNo (K : PySem.W.Frag) : Sp := fun vs H Q _ => ∃ (v : V) (p : Pat), vs = [v] ∧ PatQ K H p v ∧ p.size ≤ 500 ∧ ∀ H', Ext H H' → Q (nV p.size) H'
section
variable {P : Program} {w : World} {K : PySem.W.Frag} {mg : Str → Option Value} {base : Heap}
theorem scPO : FnScope ["pattern"] ["pattern"] (defScope sPartsOf) := ⟨rfl, rfl, rfl, by decide +kernel, rfl, by decide +kernel, by decide +kernel⟩
theorem scNo : FnScope ["pattern", "count", "waiting"] ["pattern"] (defScope sNodes) := ⟨rfl, rfl, rfl, by decide +kernel, rfl, by decide +kernel, by decide +kernel⟩
theorem po_ok {f : Addr} {fd : FuncData} (F : FnP K "parts_of" sPartsOf f fd) : FnOk P w K mg base CX0 1 f fd ["pattern"] (spPO K) := by
  refine okD F scPO (fun vs H Q E h => ?_) (fun cdv A outer s H vs Q E hr h => ?_)
  · obtain ⟨v, us, rfl, _⟩ := h
    rfl
  obtain ⟨v, us, rfl, hp, q⟩ := h
  refine ⟨_, pss_cons (ps_if (pt_cmpR op_in_seq (pe_ix ix_tup (pv 0) pe_int (fun _ _ => rfl)) (pe_tup (pa_cons pe_str (pa_cons pe_str (pa_cons pe_str pa_nil)))) (by rfl))
      (pss_one (ps_ret (pe_ix ix_tup (pv 0) pe_int (fun _ _ => rfl)))) pss_nil)
    (pss_cons (ps_if (pt_cmpR op_in_seq (pe_ix ix_tup (pv 0) pe_int (fun _ _ => rfl)) (pe_tup (pa_cons pe_str (pa_cons pe_str pa_nil))) (by rfl))
      (pss_one (ps_ret (pe_tup (pa_cons (pe_ix ix_tup (pv 0) pe_int (fun _ _ => rfl)) pa_nil)))) pss_nil)
    (pss_one (ps_ret (pe_tup pa_nil)))), ?_⟩
  rcases hp with ⟨a, b, k, rfl, n1, ha, hb⟩ | ⟨a, k, u, rfl, n2, ha, rfl⟩ | ⟨a, k, xs, rfl, ha, n1, n2, rfl⟩
  · refine t_seq (if_inTQ ["row", "or", "and"] rfl ha n1 fun p1 np => ?_)
    refine r_ixQ 1 rfl (tk_new np _ _ ha) rfl ?_
    exact q b _ (Ext.new np) (tk_new np _ _ hb)
  · have n1 : k ∉ (["row", "or", "and"] : List Str) := by
      simp only [List.mem_cons, List.not_mem_nil, or_false] at n2
      rcases n2 with rfl | rfl <;> decide
    refine t_seq (if_inFQ ["row", "or", "and"] rfl ha n1 fun p1 np => t_seq (if_inTQ ["many", "not"] rfl (tk_new np _ _ ha) n2 fun p2 np2 => ?_))
    have e2 := (Ext.new (o := .tup ((["row", "or", "and"] : List Str).map V.str)) np).trans (Ext.new (o := .tup ((["many", "not"] : List Str).map V.str)) np2)
    exact r_ixQ 1 rfl (e2.sqT _ _ ha) rfl ⟨by show 1 ≤ sizeLine; decide, fun p3 np3 => q p3 _ (e2.trans (Ext.new np3)) (SqT.of upd_same)⟩
  · refine t_seq (if_inFQ ["row", "or", "and"] rfl ha n1 fun p1 np => t_seq (if_inFQ ["many", "not"] rfl (tk_new np _ _ ha) n2 fun p2 np2 => ?_))
    exact ⟨Nat.zero_le _, fun p3 np3 => q p3 _ ((Ext.new np).trans ((Ext.new np2).trans (Ext.new np3))) (SqT.of upd_same)⟩
theorem r_pop {σ : L2.St} {H : Hp} {l : Addr} {us : List V} {y : V} {i : Nat} {Q : VK} (h0 : σ[i]? = some (some (.ref l))) (hl : H l = some (.lst (us ++ [y]))) (q : Q y (upd H l (.lst us))) : tBM0 K "list" rPop (tVar i) σ H Q :=
  ⟨_, h0, .inl ⟨rfl, _, SqL.of hl⟩, l, _, y, rfl, rfl, hl, by simp, by rw [List.dropLast_concat]; exact q⟩
theorem cut_lastQ {H : Hp} {ps : List Pat} {p : Pat} {vs : List V} (h : PatsQ K H (ps ++ [p]) vs) : ∃ us y, vs = us ++ [y] ∧ PatsQ K H ps us ∧ PatQ K H p y := by
  obtain ⟨us, ws, rfl, a, b⟩ := PatsQ.cut h
  obtain ⟨y, r, rfl, hy, hr⟩ := b
  rw [show r = [] from hr]
  exact ⟨us, y, rfl, a, hy⟩
theorem sizeL_one (p : Pat) : sizeL [p] = p.size := by simp [sizeL]
theorem no_ok {f k : Addr} {fd kd : FuncData} (F : FnP K "nodes" sNodes f fd)
    (J : FnOk P w K mg base CX0 1 k kd ["pattern"] (spPO K)) (bJ : Binds K kd ["pattern"] []) (kJ : PySem.W.keepIn K (.ref k) = true) (mJ : mg "parts_of" = some (.ref k)) : FnOk P w K mg base CX0 2 f fd ["pattern"] (spNo K) := by
  refine okD F scNo (fun vs H Q E h => ?_) (fun cdv A outer s H vs Q E hr h => ?_)
  · obtain ⟨v, p, rfl, _⟩ := h
    rfl
  obtain ⟨v, p, rfl, hp, hsz, q⟩ := h
  refine ⟨_, pss_cons (ps_set (i := 1) scNo.nd rfl (Or.inl rfl) pe_int)
    (pss_cons (ps_set (i := 2) scNo.nd rfl (Or.inl rfl) (pe_lst (pa_cons (pv 0) pa_nil)))
    (pss_cons (ps_while PassesOwn.never (pt_truth (pv 2) (by intro _; rfl))
      (pss_cons (ps_aug (i := 1) scNo.nd rfl (Or.inl rfl) pe_int ip_add)
      (pss_one (ps_expr (pe_bm PySem.F.plainAttrs_list PySem.F.slot_list_extend PySem.F.type_list_extend mt_extendT (pv 2) (pa_cons (pe_call J (hr.mono (by omega)) rfl mJ kJ bJ .nil pass0 (pa_cons (pe_bm0 PySem.F.plainAttrs_list PySem.F.slot_list_pop PySem.F.type_list_pop mt_pop (pv 2)) pa_nil)) pa_nil))))))
    (pss_one (ps_ret (pv 1))))), ?_⟩
  refine t_setC (t_set ⟨_, rfl, by show 1 ≤ sizeLine; decide, fun l hl => ?_⟩)
  refine ⟨fun m σ H' => ∃ (vs : List V) (ps : List Pat) (n : Nat), σ = [some v, some (nV n), some (.ref l)] ∧ Ext H H' ∧ H' l = some (.lst vs) ∧ PatsQ K H ps vs ∧ sizeL ps = m ∧ n + m = p.size, ⟨p.size, [v], [p], 0, rfl, Ext.new hl, upd_same, ⟨v, [], rfl, hp, rfl⟩, sizeL_one p, by omega⟩, ?_⟩
  rintro m σ H' ⟨vs, ps, n, rfl, e, hl', hps, rfl, hm⟩
  refine ⟨_, rfl, _, .inl ⟨_, SqL.of hl', rfl⟩, ?_⟩
  rcases List.eq_nil_or_concat ps with rfl | ⟨ps, r, rfl⟩
  · rw [show vs = [] from hps]
    have e9 : n = p.size := hm
    exact iffF rfl ⟨_, rfl, e9 ▸ q _ e⟩
  · rw [List.concat_eq_append] at hps hm ⊢
    obtain ⟨us, y, rfl, hus, hy⟩ := cut_lastQ hps
    have hm' := hm
    rw [sizeL_append, sizeL_one] at hm'
    refine iffT (by simp) ⟨fun σ' H2 => ∃ m' < sizeL (ps ++ [r]), ∃ (vs : List V) (ps : List Pat) (n : Nat), σ' = [some v, some (nV n), some (.ref l)] ∧ Ext H H2 ∧ H2 l = some (.lst vs) ∧ PatsQ K H ps vs ∧ sizeL ps = m' ∧ n + m' = p.size, fun σ' H2 ⟨m', h1, h2⟩ => ⟨m', h1, h2⟩, ?_⟩
    refine t_seq ⟨_, rfl, _, _, rfl, rfl, ?_⟩
    have e1 : Ext H (upd H' l (.lst us)) := e.wr hl
    refine ⟨_, rfl, .inl ⟨rfl, _, SqL.of hl'⟩, r_pop rfl hl' ?_⟩
    obtain ⟨zs, hpz, hz⟩ := pat_partsQ hy
    refine ⟨y, zs, rfl, partsQ_ext e1.sqT hpz, fun b H3 e3 hb => ?_⟩
    have l3 : H3 l = some (.lst us) := e3.lst upd_same
    have hlen : us.length + zs.length ≤ 500 := by
      have a1 := hus.len
      have a2 := hz.len
      have a3 := len_le_sizeL ps
      have a4 := len_le_sizeL r.parts
      have a5 := size_parts r
      omega
    refine ⟨l, b, us, zs, rfl, rfl, l3, hb, Nat.le_trans hlen (by decide), ?_⟩
    refine ⟨sizeL (ps ++ r.parts), ?_, us ++ zs, ps ++ r.parts, n + 1, rfl, (e1.trans e3).wr hl, upd_same, hus.append hz, rfl, ?_⟩
    · rw [sizeL_append, sizeL_append, sizeL_one, size_parts r]; omega
    · rw [sizeL_append]; have := size_parts r; omega
end
end Bo
set_option Elab.async false
set_option linter.all false
set_option maxRecDepth 100000
set_option maxHeartbeats 4000000
namespace Bo
open PySem PySem.Spec PyProof.Rows L2 GE
/-! the levels in a list -/
def LvsAt (K : PySem.W.Frag) (C : Addr) (H : Hp) : List La → List Lv → Prop
  | [], [] => True
  | a :: as, l :: ls => LvAt K C H a l ∧ LvsAt K C H as ls
  | _, _ => False
theorem lvs_snoc {K : PySem.W.Frag} {C : Addr} {H : Hp} : ∀ {as : List La} {st : List Lv} {l : Lv}, LvsAt K C H as (st ++ [l]) → ∃ as0 a, as = as0 ++ [a] ∧ LvsAt K C H as0 st ∧ LvAt K C H a l
  | [], [], l, h => h.elim
  | [], s :: st, l, h => h.elim
  | [a], [], l, h => ⟨[], a, rfl, trivial, h.1⟩
  | a :: b :: as, [], l, h => h.2.elim
  | a :: as, s :: st, l, h => by
    obtain ⟨as0, a1, rfl, h1, h2⟩ := lvs_snoc (as := as) (st := st) h.2
    exact ⟨a :: as0, a1, rfl, ⟨h.1, h1⟩, h2⟩
theorem snoc_lvs {K : PySem.W.Frag} {C : Addr} {H : Hp} : ∀ {as : List La} {st : List Lv} {a : La} {l : Lv}, LvsAt K C H as st → LvAt K C H a l → LvsAt K C H (as ++ [a]) (st ++ [l])
  | [], [], a, l, h, g => ⟨g, trivial⟩
  | [], _ :: _, a, l, h, g => h.elim
  | _ :: _, [], a, l, h, g => h.elim
  | b :: as, s :: st, a, l, h, g => ⟨h.1, snoc_lvs h.2 g⟩
theorem lvs_keep {K : PySem.W.Frag} {C : Addr} {H H' : Hp} (t : Tk K H H') : ∀ {as : List La} {st : List Lv}, LvsAt K C H as st → (∀ x ∈ as.flatMap La.foot, ∀ o, H x = some o → H' x = some o) → LvsAt K C H' as st
  | [], [], h, k => trivial
  | [], _ :: _, h, k => h.elim
  | _ :: _, [], h, k => h.elim
  | a :: as, s :: st, h, k => ⟨h.1.keep t (fun x hx => k x (by rw [List.flatMap_cons]; exact List.mem_append_left _ hx)), lvs_keep t h.2 (fun x hx => k x (by rw [List.flatMap_cons]; exact List.mem_append_right _ hx))⟩
theorem lvs_len {K : PySem.W.Frag} {C : Addr} {H : Hp} : ∀ {as : List La} {st : List Lv}, LvsAt K C H as st → as.length = st.length
  | [], [], _ => rfl
  | [], _ :: _, h => h.elim
  | _ :: _, [], h => h.elim
  | a :: as, s :: st, h => congrArg (· + 1) (lvs_len h.2)
theorem lvs_there {K : PySem.W.Frag} {C : Addr} {H : Hp} : ∀ {as : List La} {st : List Lv}, LvsAt K C H as st → ∀ x ∈ as.flatMap La.foot, ∃ o, H x = some o
  | [], [], h, x, hx => by cases hx
  | [], _ :: _, h, _, _ => h.elim
  | _ :: _, [], h, _, _ => h.elim
  | a :: as, s :: st, h, x, hx => by
    rw [List.flatMap_cons] at hx
    rcases List.mem_append.mp hx with hx | hx
    · rcases h.1.kinds x hx with ⟨xs, e⟩ | ⟨_, _, _, e⟩ <;> exact ⟨_, e⟩
    · exact lvs_there h.2 x hx
theorem LvAt.foot_nd {K : PySem.W.Frag} {C : Addr} {H : Hp} {a : La} {l : Lv} (h : LvAt K C H a l) : a.foot.Nodup := by
  obtain ⟨⟨dx, h1⟩, ⟨v1, h2, p2⟩, ⟨v2, h3, p3⟩, ⟨v3, h4, p4⟩, a1, a2, a3⟩ := h
  simp [La.foot, ins_ne h1 h2, ins_ne h1 h3, ins_ne h1 h4, a1, a2, a3]
/-- the levels' list at ls, all made since H0 -/
structure StI (K : PySem.W.Frag) (C : Addr) (r : Addr) (ws : List V) (H0 H : Hp) (ls : Addr) (st : List Lv) (as : List La) : Prop where
  l : H ls = some (.lst (as.map fun a => .ref a.o))
  at_ : LvsAt K C H as st
  nd : (as.flatMap La.foot).Nodup
  nl : ls ∉ as.flatMap La.foot
  e : Ext H0 H
  n : ∀ x ∈ as.flatMap La.foot, H0 x = none
  nls : H0 ls = none
  kr : H r = some (.lst ws)
  kn : r ∉ as.flatMap La.foot
  kl : r ≠ ls
theorem flat_snoc (as : List La) (a : La) : (as ++ [a]).flatMap La.foot = as.flatMap La.foot ++ a.foot := by rw [List.flatMap_append, List.flatMap_cons, List.flatMap_nil, List.append_nil]
/-- the innermost level is changed -/
theorem StI.top {K : PySem.W.Frag} {C r : Addr} {ws : List V} {H0 H H' : Hp} {ls : Addr} {st : List Lv} {as : List La} {a a' : La} {l l' : Lv} (h : StI K C r ws H0 H ls (st ++ [l]) (as ++ [a])) (hl : LvAt K C H a l) (hs : LvsAt K C H as st) (h' : LvAt K C H' a' l') (ea : a'.o = a.o) (u : Upd H H' a.foot a'.foot) :
    StI K C r ws H0 H' ls (st ++ [l']) (as ++ [a']) := by
  obtain ⟨h1, h2, h3, h4, h5, h6, h7, h8, h9, h10⟩ := h
  rw [flat_snoc] at h3 h4 h6 h9
  have hd := List.nodup_append.mp h3
  have there := lvs_there hs
  have no : ∀ x ∈ as.flatMap La.foot, x ∉ a.foot := fun x hx hx2 => hd.2.2 x hx x hx2 rfl
  obtain ⟨e', n'⟩ := u.ext h5 (fun x hx => h6 x (List.mem_append_right _ hx))
  have lsn : ls ∉ a.foot := fun hx => h4 (List.mem_append_right _ hx)
  refine ⟨?_, snoc_lvs (lvs_keep (hl.tk u) hs fun x hx o e => u.fr x o e (no x hx)) h', ?_, ?_, e', ?_, h7, u.fr r _ h8 (fun hx => h9 (List.mem_append_right _ hx)), ?_, h10⟩
  · rw [u.fr ls _ h1 lsn, List.map_append, List.map_append, List.map_cons, List.map_cons, List.map_nil, ea]
  · rw [flat_snoc]
    refine List.nodup_append.mpr ⟨hd.1, h'.foot_nd, fun x hx y hy e => ?_⟩
    subst e
    rcases u.fs x hy with h | h
    · exact no x hx h
    · obtain ⟨o, q⟩ := there x hx; rw [h] at q; cases q
  · rw [flat_snoc]
    intro hx
    rcases List.mem_append.mp hx with hx | hx
    · exact h4 (List.mem_append_left _ hx)
    · rcases u.fs ls hx with h | h
      · exact lsn h
      · rw [h] at h1; cases h1
  · rw [flat_snoc]
    intro x hx
    rcases List.mem_append.mp hx with hx | hx
    · exact h6 x (List.mem_append_left _ hx)
    · exact n' x hx
  · rw [flat_snoc]
    intro hx
    rcases List.mem_append.mp hx with hx | hx
    · exact h9 (List.mem_append_left _ hx)
    · rcases u.fs r hx with h | h
      · exact h9 (List.mem_append_right _ h)
      · rw [h] at h8; cases h8
/-- a word within one level -/
def opT : Tok → Lv → Option Lv
  | .bang, l => some l.takeNot
  | .star, l => if l.ready = true then some l.starred else none
  | .amp, l => if l.ready = true then some l.halved else none
  | .bar, l => if l.ready = true then some l.branched else none
  | .unit, l => some (l.takeAtom .empty)
  | .null, l => some (l.takeAtom .none)
  | .sgn c, l => some (l.takeAtom (.sign c))
  | .lp, _ => none
  | .rp, _ => none
theorem step_op {t : Tok} (h1 : t ≠ .lp) (h2 : t ≠ .rp) (s : List Lv) (l : Lv) : stepT t (s, l) = (opT t l).map fun l' => (s, l') := by
  cases t <;> first
    | exact absurd rfl h1
    | exact absurd rfl h2
    | rfl
    | (simp only [stepT, opT]; split <;> rfl)
def spTW (K : PySem.W.Frag) (C CX : Addr) : Sp := fun vs H Q E => ∃ (L : Str) (a : La) (l : Lv) (t : Tok), vs = [.str L, .ref a.o, .str (tkS t)] ∧ goodS L = true ∧ okT L t ∧ t ≠ .lp ∧ t ≠ .rp ∧ LvAt K C H a l ∧ Sm l ∧
  (∀ l', opT t l = some l' → ∀ a' H', a'.o = a.o → LvAt K C H' a' l' → Upd H H' a.foot a'.foot → Q .non H') ∧ (opT t l = none → E (.ref CX) none H)
theorem str_ne {a b : Str} (h : a ≠ b) : decide (V.str a = V.str b) = false := decide_eq_false fun e => h (V.str.inj e)
section
variable {P : Program} {w : World} {K : PySem.W.Frag} {mg : Str → Option Value} {base : Heap} {C CX : Addr}
theorem scTW : FnScope ["letters", "level", "word"] ["letters", "level", "word"] (defScope sTakeWord) := ⟨rfl, rfl, rfl, by decide +kernel, rfl, by decide +kernel, by decide +kernel⟩
theorem tw_word {L : Str} (hL : goodS L = true) {t : Tok} (ho : okT L t) {x : Str} (hx : ∀ c, x = txt [c] → c < 97) (hne : (match t with | .sgn _ => True | t => tkS t ≠ x)) : tkS t ≠ x := by
  cases t with
  | sgn c =>
    intro e
    have az : 97 ≤ c := by
      unfold goodS at hL
      simp only [Bool.and_eq_true] at hL
      exact (of_decide_eq_true (List.all_eq_true.mp hL.1.2 c ho)).1
    have := hx c e.symm
    omega
  | _ => exact hne
theorem tw_ok' {f g1 g2 g3 g4 g5 g6 : Addr} {fd d1 d2 d3 d4 d5 d6 : FuncData} {aE aN : Addr} (F : FnP K "take_word" sTakeWord f fd) (T : LTx K C) (X : EX K mg "NoText" CX)
    (G1 : FnOk P w K mg base CX0 1 g1 d1 ["self"] (spTN K C)) (b1 : Binds K d1 ["self"] []) (m1 : Meth K C "take_not" g1)
    (G2 : FnOk P w K mg base CX0 1 g2 d2 ["self", "atom"] (spTA K C)) (b2 : Binds K d2 ["self", "atom"] []) (m2 : Meth K C "take_atom" g2)
    (G3 : FnOk P w K mg base (L2N.CX P w) 2 g3 d3 ["self"] (spTS K C CX)) (b3 : Binds K d3 ["self"] []) (m3 : Meth K C "take_star" g3)
    (G4 : FnOk P w K mg base (L2N.CX P w) 2 g4 d4 ["self"] (spEH K C CX Lv.halved)) (b4 : Binds K d4 ["self"] []) (m4 : Meth K C "end_half" g4)
    (G5 : FnOk P w K mg base (L2N.CX P w) 3 g5 d5 ["self"] (spEH K C CX Lv.branched)) (b5 : Binds K d5 ["self"] []) (m5 : Meth K C "end_branch" g5)
    (G6 : FnOk P w K mg base CX0 1 g6 d6 ["letters", "thing"] (spIL K)) (b6 : Binds K d6 ["letters", "thing"] []) (k6 : PySem.W.keepIn K (.ref g6) = true) (m6 : mg "is_letter" = some (.ref g6))
    (mE : mg "EMPTY" = some (.ref aE)) (mN : mg "NONE" = some (.ref aN)) (hE : ∀ H, SqT K H aE [.str "empty"]) (hN : ∀ H, SqT K H aN [.str "none"]) :
    FnOk P w K mg base (L2N.CX P w) 4 f fd ["letters", "level", "word"] (spTW K C CX) := by
  refine okX F scTW (fun vs H Q E h => ?_) (fun cdv A outer s H vs Q E hr h => ?_)
  · obtain ⟨L, a, l, t, rfl, _⟩ := h
    rfl
  obtain ⟨L, a, l, t, rfl, hL, ho, n1, n2, hl, hs, qg, qb⟩ := h
  obtain ⟨⟨dx, h1⟩, _⟩ := id hl
  refine ⟨_, (pss_one (ps_if (pt_cmpR op_eq (pv 2) pe_str (nomark _)) (pss_one (ps_expr (pe_meth0 (pv 1) T.cl m1 G1 (hr.mono (by omega)) b1 .nil pass0)))
    (pss_one (ps_if (pt_cmpR op_eq (pv 2) pe_str (nomark _)) (pss_one (ps_expr (pe_meth0 (pv 1) T.cl m3 G3 (hr.mono (by omega)) b3 .nil (L2N.passes_call (L2N.takes_of rfl rfl rfl rfl) (fun _ _ _ _ h => h)))))
    (pss_one (ps_if (pt_cmpR op_eq (pv 2) pe_str (nomark _)) (pss_one (ps_expr (pe_meth0 (pv 1) T.cl m4 G4 (hr.mono (by omega)) b4 .nil (L2N.passes_call (L2N.takes_of rfl rfl rfl rfl) (fun _ _ _ _ h => h)))))
    (pss_one (ps_if (pt_cmpR op_eq (pv 2) pe_str (nomark _)) (pss_one (ps_expr (pe_meth0 (pv 1) T.cl m5 G5 hr b5 .nil (L2N.passes_call (L2N.takes_of rfl rfl rfl rfl) (fun _ _ _ _ h => h)))))
    (pss_one (ps_if (pt_cmpR op_eq (pv 2) pe_str (nomark _)) (pss_one (ps_expr (pe_meth (pv 1) T.cl m2 G2 (hr.mono (by omega)) b2 .nil pass0 (pa_cons (pe_glob (v := .ref aE) rfl mE rfl) pa_nil))))
    (pss_one (ps_if (pt_cmpR op_eq (pv 2) pe_str (nomark _)) (pss_one (ps_expr (pe_meth (pv 1) T.cl m2 G2 (hr.mono (by omega)) b2 .nil pass0 (pa_cons (pe_glob (v := .ref aN) rfl mN rfl) pa_nil))))
    (pss_one (ps_if (pt_val (pe_call G6 (hr.mono (by omega)) rfl m6 k6 b6 .nil pass0 (pa_cons (pv 0) (pa_cons (pv 2) pa_nil)))) (pss_one (ps_expr (pe_meth (pv 1) T.cl m2 G2 (hr.mono (by omega)) b2 .nil pass0 (pa_cons (pe_tup (pa_cons pe_str (pa_cons (pv 2) pa_nil))) pa_nil))))
      (pss_one (L2N.ps_raise rfl (L2N.takes_of rfl rfl rfl rfl) (L2N.pmk_own PySem.F.excBase_ValueError X.q X.g X.k (raises_own X.s X.t) rfl))))))))))))))))), ?_⟩
  have tst : ∀ {x : Str} {t1 u1 : TS} {D : Ends}, (tkS t = x → t1 D [some (.str L), some (.ref a.o), some (.str (tkS t))] H) → (tkS t ≠ x → u1 D [some (.str L), some (.ref a.o), some (.str (tkS t))] H) →
      tIfS (tTest (tOp rEq (tVar 2) (tC (.str x)))) t1 u1 D [some (.str L), some (.ref a.o), some (.str (tkS t))] H := fun {x t1 u1 D} y n => by
    refine ⟨_, rfl, rfl, _, rfl, ?_⟩
    by_cases e : tkS t = x
    · exact iffT (decide_eq_true (congrArg V.str e)) (y e)
    · exact iffF (str_ne e) (n e)
  have nol : ∀ {m : Str}, m ≠ "branches" → m ≠ "halves" → m ≠ "row" → m ≠ "nots" → (lf a.b a.h a.r (l.n : Int)).lookup m = none := fun a b c d => lf_no _ _ _ _ a b c d
  have az : ∀ c, t = .sgn c → 97 ≤ c ∧ c ≤ 122 := fun c e => by
    rw [e] at ho
    unfold goodS at hL
    simp only [Bool.and_eq_true] at hL
    exact of_decide_eq_true (List.all_eq_true.mp hL.1.2 c ho)
  have inj : ∀ {x : Tok}, tkS t = tkS x → (∀ c, x ≠ .sgn c) → t = x := fun {x} e nx => by
    have e := txt_inj e
    cases t <;> cases x <;> first
      | rfl
      | exact absurd e (by decide)
      | exact absurd rfl (nx _)
      | (simp [Tok.cs] at e; done)
      | (rename_i c _; have h1 := az c rfl; simp [Tok.cs] at e; rw [e] at h1; exact absurd h1 (by decide))
  refine tst (x := "!") (fun e => ?_) (fun e1 => ?_)
  · have e := inj (x := .bang) e (by simp)
    subst e
    exact ⟨_, rfl, a.o, dx, _, rfl, h1, nol (by decide +kernel) (by decide +kernel) (by decide +kernel) (by decide +kernel), a, l, rfl, hl, hs, fun H' hl' u => qg _ rfl a H' rfl hl' u⟩
  refine tst (x := "*") (fun e => ?_) (fun e2 => ?_)
  · have e := inj (x := .star) e (by simp)
    subst e
    exact ⟨_, rfl, a.o, dx, _, rfl, h1, nol (by decide +kernel) (by decide +kernel) (by decide +kernel) (by decide +kernel), a, l, rfl, hl, hs, fun rd H' hl' u => qg _ (if_pos rd) a H' rfl hl' u, fun rd => qb (if_neg (by rw [rd]; decide))⟩
  refine tst (x := "&") (fun e => ?_) (fun e3 => ?_)
  · have e := inj (x := .amp) e (by simp)
    subst e
    exact ⟨_, rfl, a.o, dx, _, rfl, h1, nol (by decide +kernel) (by decide +kernel) (by decide +kernel) (by decide +kernel), a, l, rfl, hl, hs, fun rd a' H' ea hl' u => qg _ (if_pos rd) a' H' ea hl' u, fun rd => qb (if_neg (by rw [rd]; decide))⟩
  refine tst (x := "|") (fun e => ?_) (fun e4 => ?_)
  · have e := inj (x := .bar) e (by simp)
    subst e
    exact ⟨_, rfl, a.o, dx, _, rfl, h1, nol (by decide +kernel) (by decide +kernel) (by decide +kernel) (by decide +kernel), a, l, rfl, hl, hs, fun rd a' H' ea hl' u => qg _ (if_pos rd) a' H' ea hl' u, fun rd => qb (if_neg (by rw [rd]; decide))⟩
  refine tst (x := "()") (fun e => ?_) (fun e5 => ?_)
  · have e := inj (x := .unit) e (by simp)
    subst e
    exact ⟨_, rfl, a.o, dx, _, rfl, h1, nol (by decide +kernel) (by decide +kernel) (by decide +kernel) (by decide +kernel), a, l, _, .empty, rfl, hl, hs, ⟨aE, rfl, hE H⟩, fun H' hl' u => qg _ rfl a H' rfl hl' u⟩
  refine tst (x := "[]") (fun e => ?_) (fun e6 => ?_)
  · have e := inj (x := .null) e (by simp)
    subst e
    exact ⟨_, rfl, a.o, dx, _, rfl, h1, nol (by decide +kernel) (by decide +kernel) (by decide +kernel) (by decide +kernel), a, l, _, .none, rfl, hl, hs, ⟨aN, rfl, hN H⟩, fun H' hl' u => qg _ rfl a H' rfl hl' u⟩
  obtain ⟨c, rfl⟩ : ∃ c, t = .sgn c := by
    cases t with
    | sgn c => exact ⟨c, rfl⟩
    | bang => exact absurd rfl e1
    | star => exact absurd rfl e2
    | amp => exact absurd rfl e3
    | bar => exact absurd rfl e4
    | unit => exact absurd rfl e5
    | null => exact absurd rfl e6
    | lp => exact absurd rfl n1
    | rp => exact absurd rfl n2
  have ho : c ∈ cds L := ho
  refine ⟨_, rfl, _, rfl, L, .str (tkS (.sgn c)), "str", rfl, Kn.ofStr _ _ _, (fun z e => by cases e; exact (show 1 ≤ 500 by decide)), _, rfl, iffT (decide_eq_true ho) ?_⟩
  refine ⟨_, rfl, a.o, dx, _, rfl, h1, nol (by decide +kernel) (by decide +kernel) (by decide +kernel) (by decide +kernel), _, rfl, by show 2 ≤ sizeLine; decide, fun q x => ?_⟩
  have u0 : Upd H (upd H q (.tup [.str "sign", .str (tkS (.sgn c))])) a.foot a.foot := Upd.new x
  have hl1 : LvAt K C (upd H q (.tup [.str "sign", .str (tkS (.sgn c))])) a l := hl.keep (hl.tk u0) (fun y hy o e => by rw [upd_ne (ne_of_none e x)]; exact e)
  exact ⟨a, l, .ref q, .sign c, rfl, hl1, hs, ⟨q, rfl, SqT.of upd_same⟩, fun H' hl' u => qg _ rfl a H' rfl hl' (u0.trans u)⟩
end
end Bo
set_option Elab.async false
set_option linter.all false
set_option maxRecDepth 100000
set_option maxHeartbeats 4000000
namespace Bo
open PySem PySem.Spec PyProof.Rows L2 GE
def Smk (m : Nat) (l : Lv) : Prop := l.bs.length ≤ m ∧ l.hs.length ≤ m ∧ l.row.length ≤ m ∧ l.n ≤ m ∧ ∀ q ∈ l.row, q.1 ≤ m
theorem smk_le {m n : Nat} {l : Lv} (h : Smk m l) (e : m ≤ n) : Smk n l := ⟨Nat.le_trans h.1 e, Nat.le_trans h.2.1 e, Nat.le_trans h.2.2.1 e, Nat.le_trans h.2.2.2.1 e, fun q hq => Nat.le_trans (h.2.2.2.2 q hq) e⟩
theorem smk_atom {m : Nat} {l : Lv} (h : Smk m l) (p : Pat) : Smk (m + 1) (l.takeAtom p) := by
  obtain ⟨h1, h2, h3, h4, h5⟩ := h
  refine ⟨Nat.le_succ_of_le h1, Nat.le_succ_of_le h2, ?_, Nat.zero_le _, fun q hq => ?_⟩
  · show (l.row ++ [(l.n, p)]).length ≤ m + 1
    rw [List.length_append]; show l.row.length + 1 ≤ m + 1; omega
  · rcases List.mem_append.mp hq with hq | hq
    · exact Nat.le_succ_of_le (h5 q hq)
    · rw [List.mem_singleton.mp hq]; exact Nat.le_succ_of_le h4
theorem smk_new (m : Nat) : Smk m .new := ⟨Nat.zero_le _, Nat.zero_le _, Nat.zero_le _, Nat.zero_le _, fun q hq => by cases hq⟩
theorem smk_step {m : Nat} {t : Tok} {s s' : List Lv} {l l' : Lv} (h : ∀ x ∈ l :: s, Smk m x) (e : stepT t (s, l) = some (s', l')) : ∀ x ∈ l' :: s', Smk (m + 1) x := by
  have hl := h l List.mem_cons_self
  have up : ∀ x ∈ s, Smk (m + 1) x := fun x hx => smk_le (h x (List.mem_cons_of_mem _ hx)) (Nat.le_succ m)
  have one : ∀ l2, Smk (m + 1) l2 → some (s, l2) = some (s', l') → ∀ x ∈ l' :: s', Smk (m + 1) x := fun l2 h2 e => by
    cases e
    intro x hx
    rcases List.mem_cons.mp hx with rfl | hx
    · exact h2
    · exact up x hx
  obtain ⟨h1, h2, h3, h4, h5⟩ := id hl
  cases t with
  | bang => exact one l.takeNot ⟨Nat.le_succ_of_le h1, Nat.le_succ_of_le h2, Nat.le_succ_of_le h3, Nat.succ_le_succ h4, fun q hq => Nat.le_succ_of_le (h5 q hq)⟩ e
  | unit => exact one _ (smk_atom hl _) e
  | null => exact one _ (smk_atom hl _) e
  | sgn c => exact one _ (smk_atom hl _) e
  | star =>
    simp only [stepT] at e
    split at e
    · rename_i rd
      obtain ⟨r0, k, p, hrow, hn⟩ := ready_cut rd
      refine one _ ?_ e
      have hst : l.starred = { l with row := r0 ++ [(k, .many p)] } := by
        unfold Lv.starred
        rw [hrow]
        simp
      rw [hst]
      rw [hrow] at h3 h5
      rw [List.length_append] at h3
      refine ⟨Nat.le_succ_of_le h1, Nat.le_succ_of_le h2, ?_, Nat.le_succ_of_le h4, fun q hq => ?_⟩
      · show (r0 ++ [(k, Pat.many p)]).length ≤ m + 1
        rw [List.length_append]; exact Nat.le_succ_of_le h3
      · rcases List.mem_append.mp hq with hq | hq
        · exact Nat.le_succ_of_le (h5 q (List.mem_append_left _ hq))
        · rw [List.mem_singleton.mp hq]; exact Nat.le_succ_of_le (h5 (k, p) (List.mem_append_right _ (List.mem_singleton.mpr rfl)))
    · cases e
  | amp =>
    simp only [stepT] at e
    split at e
    · refine one l.halved ⟨Nat.le_succ_of_le h1, ?_, Nat.zero_le _, Nat.le_succ_of_le h4, fun q hq => by cases hq⟩ e
      show (l.hs ++ [_]).length ≤ m + 1
      rw [List.length_append]; show l.hs.length + 1 ≤ m + 1; omega
    · cases e
  | bar =>
    simp only [stepT] at e
    split at e
    · refine one l.branched ⟨?_, Nat.zero_le _, Nat.zero_le _, Nat.le_succ_of_le h4, fun q hq => by cases hq⟩ e
      show (l.bs ++ [_]).length ≤ m + 1
      rw [List.length_append]; show l.bs.length + 1 ≤ m + 1; omega
    · cases e
  | lp =>
    cases e
    intro x hx
    rcases List.mem_cons.mp hx with rfl | hx
    · exact smk_new _
    · exact smk_le (h x hx) (Nat.le_succ m)
  | rp =>
    cases s with
    | nil => cases e
    | cons o s1 =>
      simp only [stepT] at e
      split at e
      · cases e
        intro x hx
        rcases List.mem_cons.mp hx with rfl | hx
        · exact smk_atom (h o (by simp)) _
        · exact smk_le (h x (by simp [hx])) (Nat.le_succ m)
      · cases e
theorem smk_sm {m : Nat} {l : Lv} (h : Smk m l) (e : m ≤ 1000) : Sm l := smk_le h e
/-- the innermost level is taken off the list, and then only it is written -/
theorem StI.drop {K : PySem.W.Frag} {C r : Addr} {ws : List V} {H0 H H2 : Hp} {ls : Addr} {st : List Lv} {as : List La} {a : La} {l : Lv} {S' : List Addr} (h : StI K C r ws H0 H ls (st ++ [l]) (as ++ [a])) (hl : LvAt K C H a l) (hs : LvsAt K C H as st) (u : Upd (upd H ls (.lst (as.map fun a => .ref a.o))) H2 a.foot S') :
    StI K C r ws H0 H2 ls st as := by
  obtain ⟨h1, h2, h3, h4, h5, h6, h7, h8, h9, h10⟩ := h
  rw [flat_snoc] at h3 h4 h6 h9
  have hd := List.nodup_append.mp h3
  have no : ∀ x ∈ as.flatMap La.foot, x ∉ a.foot := fun x hx hx2 => hd.2.2 x hx x hx2 rfl
  have lsn : ls ∉ a.foot := fun hx => h4 (List.mem_append_right _ hx)
  have lsn2 : ls ∉ as.flatMap La.foot := fun hx => h4 (List.mem_append_left _ hx)
  have u1 : Upd H (upd H ls (.lst (as.map fun a => .ref a.o))) [ls] [ls] := Upd.wr (List.mem_singleton.mpr rfl) ⟨_, h1⟩
  have t1 : Tk K H (upd H ls (.lst (as.map fun a => .ref a.o))) := u1.tk (fun x hx => by rw [List.mem_singleton.mp hx]; exact .inl ⟨_, h1⟩)
  have k1 : ∀ x, x ≠ ls → ∀ o, H x = some o → upd H ls (.lst (as.map fun a => .ref a.o)) x = some o := fun x n o e => by rw [upd_ne n]; exact e
  have hl1 : LvAt K C (upd H ls (.lst (as.map fun a => .ref a.o))) a l := hl.keep t1 (fun x hx o e => k1 x (fun e2 => lsn (e2 ▸ hx)) o e)
  have e1 : Ext H0 (upd H ls (.lst (as.map fun a => .ref a.o))) := h5.wr h7
  obtain ⟨e2, _⟩ := u.ext e1 (fun x hx => h6 x (List.mem_append_right _ hx))
  refine ⟨u.fr ls _ upd_same lsn, lvs_keep (t1.trans (hl1.tk u)) hs (fun x hx o e => u.fr x o (k1 x (fun e2 => lsn2 (e2 ▸ hx)) o e) (no x hx)), hd.1, lsn2, e2, fun x hx => h6 x (List.mem_append_left _ hx), h7, u.fr r _ (k1 r h10 _ h8) (fun hx => h9 (List.mem_append_right _ hx)), fun hx => h9 (List.mem_append_left _ hx), h10⟩
/-- a new level -/
theorem StI.push {K : PySem.W.Frag} {C r : Addr} {ws : List V} {H0 H H2 : Hp} {ls : Addr} {st : List Lv} {as : List La} {a : La} {l : Lv} (h : StI K C r ws H0 H ls st as) (k : ∀ b o, H b = some o → H2 b = some o) (hn : ∀ x ∈ a.foot, H x = none) (ha : LvAt K C H2 a l) (et : Ext H H2) :
    StI K C r ws H0 (upd H2 ls (.lst ((as.map fun a => .ref a.o) ++ [.ref a.o]))) ls (st ++ [l]) (as ++ [a]) := by
  obtain ⟨h1, h2, h3, h4, h5, h6, h7, h8, h9, h10⟩ := h
  have there := lvs_there h2
  have fr2 : ∀ x ∈ as.flatMap La.foot, x ∉ a.foot := fun x hx hx2 => by
    obtain ⟨o, q⟩ := there x hx
    rw [hn x hx2] at q; cases q
  have lsa : ls ∉ a.foot := fun hx => by rw [hn ls hx] at h1; cases h1
  have h12 := k _ _ h1
  have u1 : Upd H2 (upd H2 ls (.lst ((as.map fun a => .ref a.o) ++ [.ref a.o]))) [ls] [ls] := Upd.wr (List.mem_singleton.mpr rfl) ⟨_, h12⟩
  have t1 : Tk K H2 (upd H2 ls (.lst ((as.map fun a => .ref a.o) ++ [.ref a.o]))) := u1.tk (fun x hx => by rw [List.mem_singleton.mp hx]; exact .inl ⟨_, h12⟩)
  have k1 : ∀ x, x ≠ ls → ∀ o, H2 x = some o → upd H2 ls (.lst ((as.map fun a => .ref a.o) ++ [.ref a.o])) x = some o := fun x n o e => by rw [upd_ne n]; exact e
  refine ⟨?_, snoc_lvs (lvs_keep (et.sqT.trans t1) h2 fun x hx o e => k1 x (fun e2 => h4 (e2 ▸ hx)) o (k x o e)) (ha.keep t1 fun x hx o e => k1 x (fun e2 => lsa (e2 ▸ hx)) o e), ?_, ?_, (h5.trans et).wr h7, ?_, h7, k1 r h10 _ (k _ _ h8), ?_, h10⟩
  · rw [upd_same, List.map_append]; rfl
  · rw [flat_snoc]
    exact List.nodup_append.mpr ⟨h3, ha.foot_nd, fun x hx y hy e => fr2 x hx (e ▸ hy)⟩
  · rw [flat_snoc]
    intro hx
    rcases List.mem_append.mp hx with hx | hx
    · exact h4 hx
    · exact lsa hx
  · rw [flat_snoc]
    intro x hx
    rcases List.mem_append.mp hx with hx | hx
    · exact h6 x hx
    · exact h5.free (hn x hx)
  · rw [flat_snoc]
    intro hx
    rcases List.mem_append.mp hx with hx | hx
    · exact h9 hx
    · rw [hn r hx] at h8; cases h8
/-- what making a level leaves -/
theorem made {K : PySem.W.Frag} {C x dx : Addr} {H H2 : Hp} {a : La} (nx : H x = none) (nd : H dx = none) (ea : a.o = x) (u : Upd (upd (upd H dx (.own x)) x (.ins C dx [])) H2 [x] a.foot) : (∀ b o, H b = some o → H2 b = some o) ∧ (∀ y ∈ a.foot, H y = none) ∧ Ext H H2 := by
  have k : ∀ b o, H b = some o → H2 b = some o := fun b o e => u.fr b o (by rw [upd_ne (ne_of_none e nx), upd_ne (ne_of_none e nd)]; exact e) (by rw [List.mem_singleton]; exact ne_of_none e nx)
  refine ⟨k, fun y hy => ?_, ⟨fun b o e _ => k b o e, fun b ⟨ps, z, t⟩ => ⟨ps, k b _ z, t⟩, fun b o e => ⟨o, k b o e⟩⟩⟩
  rcases u.fs y hy with h | h
  · rw [List.mem_singleton.mp h]; exact nx
  · cases e : H y with
    | none => rfl
    | some o =>
      have := k y o e
      rw [upd_ne (ne_of_none e nx), upd_ne (ne_of_none e nd), e] at h
      cases h
def spCl (K : PySem.W.Frag) (C CX : Addr) : Sp := fun vs H Q E => ∃ (r : Addr) (ws : List V) (H0 : Hp) (ls : Addr) (as : List La) (s : List Lv) (l : Lv), vs = [.ref ls] ∧ StI K C r ws H0 H ls (s.reverse ++ [l]) as ∧ (∀ x ∈ l :: s, Sm x) ∧ s.length ≤ 1000 ∧
  (∀ s' l', stepT .rp (s, l) = some (s', l') → ∀ as' H', StI K C r ws H0 H' ls (s'.reverse ++ [l']) as' → Q .non H') ∧ (stepT .rp (s, l) = none → ∀ H', Ext H0 H' → E (.ref CX) none H')
section
variable {P : Program} {w : World} {K : PySem.W.Frag} {mg : Str → Option Value} {base : Heap} {C CX : Addr}
theorem scCl : FnScope ["levels", "inner"] ["levels"] (defScope sCloseLevel) := ⟨rfl, rfl, rfl, by decide +kernel, rfl, by decide +kernel, by decide +kernel⟩
theorem cl_ok {f g2 g4 : Addr} {fd d2 d4 : FuncData} (F : FnP K "close_level" sCloseLevel f fd) (T : LTx K C) (X : EX K mg "NoText" CX)
    (G2 : FnOk P w K mg base CX0 1 g2 d2 ["self", "atom"] (spTA K C)) (b2 : Binds K d2 ["self", "atom"] []) (m2 : Meth K C "take_atom" g2)
    (G4 : FnOk P w K mg base (L2N.CX P w) 4 g4 d4 ["self"] (spTo K C CX)) (b4 : Binds K d4 ["self"] []) (m4 : Meth K C "told" g4) (ml : mg "len" = none) :
    FnOk P w K mg base (L2N.CX P w) 5 f fd ["levels"] (spCl K C CX) := by
  refine okX F scCl (fun vs H Q E h => ?_) (fun cdv A outer s H vs Q E hr h => ?_)
  · obtain ⟨r, ws, H0, ls, as, s, l, rfl, _⟩ := h
    rfl
  obtain ⟨r, ws, H0, ls, as, s, l, rfl, hI, hsm, hsl, qg, qb⟩ := h
  refine ⟨_, (pss_cons (ps_if (pt_cmpR op_eq (pe_callB call_len rfl ml PySem.boot_len (pa_cons (pv 0) pa_nil)) pe_int (nomark _)) (pss_one (L2N.ps_raise rfl (L2N.takes_of rfl rfl rfl rfl) (L2N.pmk_own PySem.F.excBase_ValueError X.q X.g X.k (raises_own X.s X.t) rfl))) pss_nil) (pss_cons (ps_set (i := 1) scCl.nd rfl (Or.inl rfl) (pe_bm0 PySem.F.plainAttrs_list PySem.F.slot_list_pop PySem.F.type_list_pop mt_pop (pv 0))) (pss_one (ps_expr (pe_meth (pe_ix ix_list (pv 0) (pe_un un_neg pe_int) (fun _ _ => rfl)) T.cl m2 G2 (hr.mono (by omega)) b2 .nil pass0 (pa_cons (pe_meth0 (pv 1) T.cl m4 G4 hr b4 .nil (L2N.passes_call (L2N.takes_of rfl rfl rfl rfl) (fun _ _ _ _ h => h))) pa_nil)))))), ?_⟩
  obtain ⟨as0, a, rfl, hs0, hla⟩ := lvs_snoc hI.at_
  have hl0 := hI.l
  have hlen0 := lvs_len hs0
  rw [List.length_reverse] at hlen0
  refine t_seq ⟨_, rfl, .ref ls, _, rfl, .inl ⟨_, SqL.of hl0, rfl⟩, rfl, _, rfl, ?_⟩
  rw [dec_int, List.length_map, List.length_append]
  cases s with
  | nil =>
    refine iffT ?_ (qb rfl H hI.e)
    rw [hlen0]; rfl
  | cons o s1 =>
    refine iffF ?_ ?_
    · rw [hlen0, beq_eq_false_iff_ne]; show ¬ (((s1.length + 1 + 1 : Nat) : Int) = 1); omega
    dsimp only [tNext]
    rw [List.map_append] at hl0
    refine t_set (r_pop rfl hl0 ?_)
    have hs0' : LvsAt K C H as0 (s1.reverse ++ [o]) := by rw [← List.reverse_cons]; exact hs0
    obtain ⟨as1, b, rfl, hs1, hlb⟩ := lvs_snoc hs0'
    have nd := hI.nd
    have nl := hI.nl
    rw [flat_snoc] at nd nl
    have hd := List.nodup_append.mp nd
    have lsa : ls ∉ a.foot := fun hx => nl (List.mem_append_right _ hx)
    have lsb : ls ∉ b.foot := fun hx => nl (List.mem_append_left _ (by rw [flat_snoc]; exact List.mem_append_right _ hx))
    have u1 : Upd H (upd H ls (.lst ((as1 ++ [b]).map fun a => .ref a.o))) [ls] [ls] := Upd.wr (List.mem_singleton.mpr rfl) ⟨_, hI.l⟩
    have t1 : Tk K H (upd H ls (.lst ((as1 ++ [b]).map fun a => .ref a.o))) := u1.tk (fun x hx => by rw [List.mem_singleton.mp hx]; exact .inl ⟨_, hI.l⟩)
    have k1 : ∀ x, x ≠ ls → ∀ o, H x = some o → upd H ls (.lst ((as1 ++ [b]).map fun a => .ref a.o)) x = some o := fun x n o e => by rw [upd_ne n]; exact e
    have hla1 : LvAt K C (upd H ls (.lst ((as1 ++ [b]).map fun a => .ref a.o))) a l := hla.keep t1 (fun x hx o e => k1 x (fun e2 => lsa (e2 ▸ hx)) o e)
    have hlb1 : LvAt K C (upd H ls (.lst ((as1 ++ [b]).map fun a => .ref a.o))) b o := hlb.keep t1 (fun x hx o e => k1 x (fun e2 => lsb (e2 ▸ hx)) o e)
    obtain ⟨⟨dxa, ha1⟩, _⟩ := id hla1
    obtain ⟨⟨dxb, hb1⟩, _⟩ := id hlb1
    have hI' : StI K C r ws H0 H ls ((s1.reverse ++ [o]) ++ [l]) ((as1 ++ [b]) ++ [a]) := by rw [← List.reverse_cons]; exact hI
    refine ⟨_, rfl, _, rfl, ls, _, _, .ref b.o, rfl, rfl, SqL.of upd_same, by rw [List.map_append]; exact atI_last _ _, b.o, dxb, _, rfl, hb1, lf_no _ _ _ _ (by decide +kernel) (by decide +kernel) (by decide +kernel) (by decide +kernel),
      _, rfl, a.o, dxa, _, rfl, ha1, lf_no _ _ _ _ (by decide +kernel) (by decide +kernel) (by decide +kernel) (by decide +kernel), a, l, rfl, hla1, hsm l List.mem_cons_self, fun rd v H2 S' u hp => ?_, fun rd => ?_⟩
    · have hI2 := hI'.drop hla hs0' u
      have nab : ∀ x ∈ b.foot, x ∉ a.foot := fun x hx hx2 => hd.2.2 x (by rw [flat_snoc]; exact List.mem_append_right _ hx) x hx2 rfl
      have hlb2 : LvAt K C H2 b o := hlb1.keep (hla1.tk u) (fun x hx o e => u.fr x o e (nab x hx))
      obtain ⟨as2, b2', e2, hs2, hlb2'⟩ := lvs_snoc hI2.at_
      refine ⟨b, o, v, l.said, rfl, hlb2, hsm o (by simp), hp, fun H3 hl3 u3 => ?_⟩
      have e3 := List.append_inj' e2 rfl
      obtain ⟨rfl, e4⟩ := e3
      refine qg s1 (o.takeAtom l.said) ?_ (as1 ++ [b]) H3 (hI2.top hlb2 hs2 hl3 rfl u3)
      show (if l.ready = true then some (s1, o.takeAtom l.said) else none) = _
      rw [if_pos rd]
    · refine qb ?_ _ (hI.e.wr hI.nls)
      show (if l.ready = true then some (s1, o.takeAtom l.said) else none) = none
      rw [if_neg (by rw [rd]; decide)]
end
end Bo
set_option Elab.async false
set_option linter.all false
set_option maxRecDepth 100000
set_option maxHeartbeats 4000000
namespace Bo
open PySem PySem.Spec PyProof.Rows L2 GE
theorem runT_snoc {ts : List Tok} {i : Nat} {t : Tok} {st : List Lv × Lv} {s : List Lv} {l : Lv} (h : ts[i]? = some t) (e : runT (ts.take i) st = some (s, l)) : runT (ts.take (i + 1)) st = stepT t (s, l) := by
  rw [List.take_succ, h, runT_app, e]
  show (stepT t (s, l)).bind (runT []) = _
  cases stepT t (s, l) <;> rfl
theorem runT_none {ts : List Tok} {i : Nat} {st : List Lv × Lv} (e : runT (ts.take i) st = none) : runT ts st = none := by
  rw [← List.take_append_drop i ts, runT_app, e]; rfl
theorem step_len {t : Tok} {s s' : List Lv} {l l' : Lv} (h : stepT t (s, l) = some (s', l')) : s'.length ≤ s.length + 1 := by
  cases t <;> simp only [stepT] at h
  case rp =>
    cases s with
    | nil => cases h
    | cons o s1 =>
      simp only at h
      split at h
      · cases h; simp; omega
      · cases h
  case lp => cases h; simp
  all_goals first
    | (cases h; exact Nat.le_succ _)
    | (split at h
       · cases h; exact Nat.le_succ _
       · cases h)
/-- the words are read to a pattern -/
def Reads1 (ts : List Tok) (p : Pat) : Prop := ∃ l, runT ts ([], .new) = some ([], l) ∧ l.ready = true ∧ l.said = p
def spWr (K : PySem.W.Frag) (CX : Addr) : Sp := fun vs H Q E => ∃ (L : Str) (ts : List Tok), vs = [.str L, .str (txt (ts.flatMap Tok.cs))] ∧ goodS L = true ∧ Gd false ts = true ∧ (∀ x ∈ ts, okT L x) ∧ lenT ts ≤ 400 ∧
  (∀ p, Reads1 ts p → ∀ v H', Ext H H' → PatQ K H' p v → Q v H') ∧ ((∀ p, ¬ Reads1 ts p) → ∀ H', Ext H H' → E (.ref CX) none H')
theorem len_lenT : ∀ ts : List Tok, ts.length ≤ lenT ts
  | [] => Nat.le_refl _
  | x :: xs => by
    have := (cs_len x).1
    have ih := len_lenT xs
    have h9 : lenT (x :: xs) = x.cs.length + lenT xs := by show lenT ([x] ++ xs) = _; rw [lenT_app]; show ([x].flatMap Tok.cs).length + _ = _; simp
    rw [List.length_cons]; omega
section
variable {P : Program} {w : World} {K : PySem.W.Frag} {mg : Str → Option Value} {base : Heap} {C CX : Addr}
theorem scWr : FnScope ["letters", "text", "levels", "word"] ["letters", "text"] (defScope sWritten) := ⟨rfl, rfl, rfl, by decide +kernel, rfl, by decide +kernel, by decide +kernel⟩
theorem wr_ok {f g0 g1 g2 g3 g4 : Addr} {fd d0 d1 d2 d3 d4 : FuncData} (F : FnP K "written" sWritten f fd) (T : LTx K C) (X : EX K mg "NoText" CX) (M : Mk K C g0) (mC : mg "Level" = some (.ref C))
    (G0 : FnOk P w K mg base CX0 1 g0 d0 ["self"] (spInit K C)) (b0 : Binds K d0 ["self"] [])
    (G1 : FnOk P w K mg base CX0 1 g1 d1 ["text"] spWd) (b1 : Binds K d1 ["text"] []) (k1 : PySem.W.keepIn K (.ref g1) = true) (m1 : mg "words" = some (.ref g1))
    (G2 : FnOk P w K mg base (L2N.CX P w) 5 g2 d2 ["levels"] (spCl K C CX)) (b2 : Binds K d2 ["levels"] []) (k2 : PySem.W.keepIn K (.ref g2) = true) (m2 : mg "close_level" = some (.ref g2))
    (G3 : FnOk P w K mg base (L2N.CX P w) 4 g3 d3 ["letters", "level", "word"] (spTW K C CX)) (b3 : Binds K d3 ["letters", "level", "word"] []) (k3 : PySem.W.keepIn K (.ref g3) = true) (m3 : mg "take_word" = some (.ref g3))
    (G4 : FnOk P w K mg base (L2N.CX P w) 4 g4 d4 ["self"] (spTo K C CX)) (b4 : Binds K d4 ["self"] []) (m4 : Meth K C "told" g4) (ml : mg "len" = none) :
    FnOk P w K mg base (L2N.CX P w) 6 f fd ["letters", "text"] (spWr K CX) := by
  refine okX F scWr (fun vs H Q E h => ?_) (fun cdv A outer s H vs Q E hr h => ?_)
  · obtain ⟨L, ts, rfl, _⟩ := h
    rfl
  obtain ⟨L, ts, rfl, hL, hg, ho, hlen, qg, qb⟩ := h
  refine ⟨_, (pss_cons (ps_set (i := 2) scWr.nd rfl (Or.inl rfl) (pe_lst (pa_cons (pe_make0 M G0 (hr.mono (by omega)) rfl mC b0 .nil pass0) pa_nil))) (pss_cons (ps_for (passes_of rfl) rfl (pi_list (pe_call G1 (hr.mono (by omega)) rfl m1 k1 b1 .nil pass0 (pa_cons (pv 1) pa_nil))) (pg_name (i := 3) scWr.nd rfl (Or.inl rfl))
      (pss_one (ps_if (pt_cmpR op_eq (pv 3) pe_str (nomark _)) (pss_one (ps_expr (pe_bm PySem.F.plainAttrs_list PySem.F.slot_list_append PySem.F.type_list_append mt_append (pv 2) (pa_cons (pe_make0 M G0 (hr.mono (by omega)) rfl mC b0 .nil pass0) pa_nil))))
        (pss_one (ps_if (pt_cmpR op_eq (pv 3) pe_str (nomark _)) (pss_one (ps_expr (pe_call G2 hr rfl m2 k2 b2 .nil (L2N.passes_call (L2N.takes_of rfl rfl rfl rfl) (fun _ _ _ _ h => h)) (pa_cons (pv 2) pa_nil))))
          (pss_one (ps_expr (pe_call G3 (hr.mono (by omega)) rfl m3 k3 b3 .nil (L2N.passes_call (L2N.takes_of rfl rfl rfl rfl) (fun _ _ _ _ h => h)) (pa_cons (pv 0) (pa_cons (pe_ix ix_list (pv 2) (pe_un un_neg pe_int) (fun _ _ => rfl)) (pa_cons (pv 3) pa_nil))))))))))) (pss_cons (ps_if (pt_cmpR op_gt (pe_callB call_len rfl ml PySem.boot_len (pa_cons (pv 2) pa_nil)) pe_int (nomark _)) (pss_one (L2N.ps_raise rfl (L2N.takes_of rfl rfl rfl rfl) (L2N.pmk_own PySem.F.excBase_ValueError X.q X.g X.k (raises_own X.s X.t) rfl))) pss_nil) (pss_one (ps_ret (pe_meth0 (pe_ix ix_list (pv 2) pe_int (fun _ _ => rfl)) T.cl m4 G4 (hr.mono (by omega)) b4 .nil (L2N.passes_call (L2N.takes_of rfl rfl rfl rfl) (fun _ _ _ _ h => h)))))))), ?_⟩
  have az : ∀ c, c ∈ cds L → 97 ≤ c ∧ c ≤ 122 := fun c hc => by
    unfold goodS at hL
    simp only [Bool.and_eq_true] at hL
    exact of_decide_eq_true (List.all_eq_true.mp hL.1.2 c hc)
  have htl := len_lenT ts
  refine t_set ?_
  intro x dx nx ndx nex
  refine ⟨x, dx, rfl, upd_same, fun a0 H1 ea0 hla0 u0 => ⟨rfl, ?_⟩⟩
  obtain ⟨k0, n0, e0⟩ := made (K := K) nx ndx ea0 u0
  refine ⟨by show 1 ≤ sizeLine; decide, fun ls xls => ?_⟩
  have eL : Ext H1 (upd H1 ls (.lst [.ref x])) := Ext.new xls
  have ex0 : ∃ o, H1 x = some o := by
    obtain ⟨⟨dd, e⟩, _⟩ := hla0
    rw [ea0] at e
    exact ⟨_, e⟩
  refine t_seq ⟨_, rfl, L, ts, rfl, hL, hg, ho, hlen, fun r H2 nr e2 hr2 => ?_⟩
  have eH2 : Ext H H2 := (e0.trans eL).trans e2
  have lsn : ls ∉ a0.foot := fun hx => by
    rcases hla0.kinds ls hx with ⟨xs, q⟩ | ⟨_, _, _, q⟩ <;> (rw [xls] at q; cases q)
  have hla2 : LvAt K C H2 a0 .new := by
    have h1 := hla0.keep (H' := upd H1 ls (.lst [.ref x])) eL.sqT (fun y hy o e => by rw [upd_ne (ne_of_none e xls)]; exact e)
    exact h1.keep e2.sqT (fun y hy o e => e2.keep y o e (fun ps z => by
      rcases h1.kinds y hy with ⟨xs, q⟩ | ⟨_, _, _, q⟩ <;> (rw [e] at q; rw [z] at q; cases q)))
  have hI0 : StI K C r (ts.map fun t => .str (tkS t)) H H2 ls [.new] [a0] := by
    refine ⟨?_, ⟨hla2, trivial⟩, ?_, ?_, eH2, ?_, ?_, hr2, ?_, ?_⟩
    · rw [List.map_cons, List.map_nil, ea0]; exact e2.lst upd_same
    · rw [List.flatMap_cons, List.flatMap_nil, List.append_nil]; exact hla2.foot_nd
    · rw [List.flatMap_cons, List.flatMap_nil, List.append_nil]; exact lsn
    · rw [List.flatMap_cons, List.flatMap_nil, List.append_nil]; exact n0
    · cases q : H ls with
      | none => rfl
      | some o => rw [k0 ls o q] at xls; cases xls
    · rw [List.flatMap_cons, List.flatMap_nil, List.append_nil]
      intro hx
      have nr1 : H1 r = none := eL.free nr
      rcases hla0.kinds r hx with ⟨xs, q⟩ | ⟨_, _, _, q⟩ <;> (rw [nr1] at q; cases q)
    · intro q; rw [q, upd_same] at nr; cases nr
  refine ⟨r, rfl, ⟨_, SqL.of hr2⟩, ?_⟩
  refine for_list (K := K) (a := r) (xs := ts.map fun t => V.str (tkS t)) (fun i σ' H' => ∃ (s : List Lv) (l : Lv) (as : List La) (c3 : Option V), σ' = [some (.str L), some (.str (txt (ts.flatMap Tok.cs))), some (.ref ls), c3] ∧ runT (ts.take i) ([], .new) = some (s, l) ∧ StI K C r (ts.map fun t => .str (tkS t)) H H' ls (s.reverse ++ [l]) as ∧ (∀ y ∈ l :: s, Smk i y) ∧ s.length ≤ i) ?_ ?_ ?_ ?_
  · exact ⟨[], .new, [a0], none, rfl, rfl, hI0, fun y hy => by rw [List.mem_singleton.mp hy]; exact smk_new 0, Nat.zero_le _⟩
  · rintro i σ' H' _ ⟨s, l, as, c3, rfl, _, hI, _⟩
    exact SqL.of hI.kr
  · rintro i y σ' H' hy ⟨s, l, as, c3, rfl, hrun, hI, hsm, hsl⟩
    obtain ⟨t, ht, rfl⟩ : ∃ t, ts[i]? = some t ∧ y = V.str (tkS t) := by
      rw [List.getElem?_map] at hy
      cases h9 : ts[i]? with
      | none => rw [h9] at hy; cases hy
      | some t => rw [h9] at hy; exact ⟨t, rfl, (Option.some.inj hy).symm⟩
    have hi : i < ts.length := (List.getElem?_eq_some_iff.mp ht).1
    have hot := ho t (List.mem_of_getElem? ht)
    have hrun1 := runT_snoc ht hrun
    have next : ∀ s' l', stepT t (s, l) = some (s', l') → runT (ts.take (i + 1)) ([], .new) = some (s', l') ∧ (∀ y ∈ l' :: s', Smk (i + 1) y) ∧ s'.length ≤ i + 1 := fun s' l' e =>
      ⟨by rw [hrun1, e], smk_step hsm e, Nat.le_trans (step_len e) (by omega)⟩
    have dead : stepT t (s, l) = none → ∀ H', Ext H H' → E (.ref CX) none H' := fun e => qb fun p ⟨l', h1, _⟩ => by
      rw [runT_none (i := i + 1) (by rw [hrun1, e])] at h1; cases h1
    have hsm' : ∀ y ∈ l :: s, Sm y := fun y hy => smk_sm (hsm y hy) (by omega)
    have tst : ∀ {x : Str} {t1 u1 : TS} {D : Ends}, (tkS t = x → t1 D [some (.str L), some (.str (txt (ts.flatMap Tok.cs))), some (.ref ls), some (.str (tkS t))] H') → (tkS t ≠ x → u1 D [some (.str L), some (.str (txt (ts.flatMap Tok.cs))), some (.ref ls), some (.str (tkS t))] H') →
        tIfS (tTest (tOp rEq (tVar 3) (tC (.str x)))) t1 u1 D [some (.str L), some (.str (txt (ts.flatMap Tok.cs))), some (.ref ls), some (.str (tkS t))] H' := fun {x t1 u1 D} y n => by
      refine ⟨_, rfl, rfl, _, rfl, ?_⟩
      by_cases e : tkS t = x
      · exact iffT (decide_eq_true (congrArg V.str e)) (y e)
      · exact iffF (str_ne e) (n e)
    have inj : ∀ {x : Tok}, tkS t = tkS x → (∀ c, x ≠ .sgn c) → t = x := fun {x} e nx => by
      have e := txt_inj e
      cases t <;> cases x <;> first
        | rfl
        | exact absurd e (by decide)
        | exact absurd rfl (nx _)
        | (simp [Tok.cs] at e; done)
        | (rename_i c _; have h1 := az c hot; simp [Tok.cs] at e; rw [e] at h1; exact absurd h1 (by decide))
    refine tst (x := "(") (fun e => ?_) (fun n1 => ?_)
    · have e := inj (x := .lp) e (by simp)
      subst e
      refine ⟨_, rfl, .inl ⟨rfl, _, SqL.of hI.l⟩, ?_⟩
      intro x3 dx3 nx3 ndx3 nex3
      refine ⟨x3, dx3, rfl, upd_same, fun a3 H3 ea3 hla3 u3 => ⟨rfl, ?_⟩⟩
      obtain ⟨k3', n3, e3⟩ := made (K := K) nx3 ndx3 ea3 u3
      obtain ⟨g1', g2', g3'⟩ := next (l :: s) .new rfl
      have hl := lvs_len hI.at_
      rw [List.length_append, List.length_reverse] at hl
      refine ⟨ls, _, _, rfl, rfl, k3' _ _ hI.l, Nat.lt_of_le_of_lt (show _ ≤ 1000 by rw [List.length_map, hl]; show s.length + 1 ≤ 1000; omega) (by decide), ?_⟩
      have hp := hI.push k3' n3 hla3 e3
      rw [ea3] at hp
      exact ⟨l :: s, .new, as ++ [a3], _, rfl, g1', by rw [List.reverse_cons]; exact hp, g2', g3'⟩
    refine tst (x := ")") (fun e => ?_) (fun n2 => ?_)
    · have e := inj (x := .rp) e (by simp)
      subst e
      refine ⟨_, rfl, r, _, H, ls, as, s, l, rfl, hI, hsm', by omega, fun s' l' es as' H3 hI3 => ?_, fun en H3 e3 => dead en H3 e3⟩
      obtain ⟨g1', g2', g3'⟩ := next s' l' es
      exact ⟨s', l', as', _, rfl, g1', hI3, g2', g3'⟩
    have hn1 : t ≠ .lp := fun e => n1 (by rw [e]; rfl)
    have hn2 : t ≠ .rp := fun e => n2 (by rw [e]; rfl)
    obtain ⟨as0, a, rfl, hs0, hla⟩ := lvs_snoc hI.at_
    have hll := hI.l
    rw [List.map_append] at hll
    have hso := step_op hn1 hn2 s l
    refine ⟨_, rfl, _, rfl, _, rfl, ls, _, _, .ref a.o, rfl, rfl, SqL.of hll, atI_last _ _, _, rfl, L, a, l, t, rfl, hL, hot, hn1, hn2, hla, hsm' l List.mem_cons_self, fun l' el a' H3 ea h3 u3 => ?_, fun en => dead (by rw [hso, en]; rfl) H' hI.e⟩
    obtain ⟨g1', g2', g3'⟩ := next s l' (by rw [hso, el]; rfl)
    exact ⟨s, l', as0 ++ [a'], _, rfl, g1', hI.top hla hs0 h3 ea u3, g2', g3'⟩
  · rintro σ' H' ⟨s, l, as, c3, rfl, hrun, hI, hsm, hsl⟩
    rw [List.length_map, List.take_length] at hrun
    rw [List.length_map] at hsl hsm
    dsimp only
    have hl := lvs_len hI.at_
    rw [List.length_append, List.length_reverse] at hl
    refine t_seq ⟨_, rfl, .ref ls, _, rfl, .inl ⟨_, SqL.of hI.l, rfl⟩, _, _, rfl, rfl, _, rfl, ?_⟩
    rw [List.length_map, hl]
    cases s with
    | cons o s1 =>
      refine iffT (decide_eq_true (by show (1 : Int) < (((o :: s1).length + 1 : Nat) : Int); rw [List.length_cons]; omega)) (qb (fun p ⟨l', h1, _⟩ => ?_) H' hI.e)
      rw [hrun] at h1; cases h1
    | nil =>
      refine iffF (decide_eq_false (by show ¬ (1 : Int) < ((0 + 1 : Nat) : Int); decide)) ?_
      dsimp only [tNext]
      obtain ⟨as0, a, rfl, hs0, hla⟩ := lvs_snoc hI.at_
      have : as0 = [] := List.length_eq_zero_iff.mp (lvs_len hs0)
      subst this
      obtain ⟨⟨dxa, ha1⟩, _⟩ := id hla
      refine ⟨_, rfl, ls, _, 0, .ref a.o, rfl, rfl, SqL.of hI.l, atI_nat (j := 0) rfl, a.o, dxa, _, rfl, ha1, lf_no _ _ _ _ (by decide +kernel) (by decide +kernel) (by decide +kernel) (by decide +kernel), a, l, rfl, hla, smk_sm (hsm l List.mem_cons_self) (by omega), fun rd v H3 S' u hp => ?_, fun rd => ?_⟩
      · obtain ⟨e3, _⟩ := u.ext hI.e (fun y hy => hI.n y (by rw [flat_snoc]; exact List.mem_append_right _ hy))
        exact qg l.said ⟨l, hrun, rd, rfl⟩ v H3 e3 hp
      · refine qb (fun p ⟨l', h1, h2, _⟩ => ?_) H' hI.e
        rw [hrun] at h1
        cases h1
        rw [rd] at h2; cases h2
def spRd (K : PySem.W.Frag) (T : Addr) : Sp := fun vs H Q _ => ∃ (L : Str) (ts : List Tok) (p : Pat), vs = [.str L, .str (txt (ts.flatMap Tok.cs))] ∧ goodS L = true ∧ GxR.TabG H T ∧ Gd false ts = true ∧ (∀ x ∈ ts, okT L x) ∧ lenT ts ≤ 400 ∧
  Reads1 ts p ∧ p.size ≤ 60 ∧ ∀ v H', Ext H H' → PatQ K H' p v → Q v H'
theorem scRd : FnScope ["letters", "text", "pattern"] ["letters", "text"] (defScope sRead) := ⟨rfl, rfl, rfl, by decide +kernel, rfl, by decide +kernel, by decide +kernel⟩
theorem rd_ok {f g1 g2 g3 : Addr} {fd d1 d2 d3 : FuncData} {CL Tb : Addr} {tk1 tk2 : PySem.Tok} (F : FnP K "read" sRead f fd)
    (G1 : FnOk P w K mg base (L2N.CX P w) 3 g1 d1 ["letters"] (spNL K CL Tb)) (b1 : Binds K d1 ["letters"] []) (k1 : PySem.W.keepIn K (.ref g1) = true) (m1 : mg "need_letters" = some (.ref g1))
    (G2 : FnOk P w K mg base (L2N.CX P w) 6 g2 d2 ["letters", "text"] (spWr K CX)) (b2 : Binds K d2 ["letters", "text"] []) (k2 : PySem.W.keepIn K (.ref g2) = true) (m2 : mg "written" = some (.ref g2))
    (G3 : FnOk P w K mg base CX0 2 g3 d3 ["pattern"] (spNo K)) (b3 : Binds K d3 ["pattern"] []) (k3 : PySem.W.keepIn K (.ref g3) = true) (m3 : mg "nodes" = some (.ref g3))
    (mi : mg "isinstance" = none) (ms : mg "str" = none) (ml : mg "len" = none) (mW : mg "MOST_WRITTEN" = some (.int 400 tk1)) (mN : mg "MOST_NODES" = some (.int 60 tk2)) :
    FnOk P w K mg base (L2N.CX P w) 7 f fd ["letters", "text"] (spRd K Tb) := by
  refine okX F scRd (fun vs H Q E h => ?_) (fun cdv A outer s H vs Q E hr h => ?_)
  · obtain ⟨L, ts, p, rfl, _⟩ := h
    rfl
  obtain ⟨L, ts, p, rfl, hL, hT, hg, ho, hlen, hrd, hsz, q⟩ := h
  refine ⟨_, (pss_cons (ps_expr (pe_call G1 (hr.mono (by omega)) rfl m1 k1 b1 .nil (L2N.passes_call (L2N.takes_of rfl rfl rfl rfl) (fun _ _ _ _ h => h)) (pa_cons (pv 0) pa_nil))) (pss_cons (ps_if (pt_not (pt_val (pe_callB call_isi rfl mi (by decide +kernel) (pa_cons (pv 1) (pa_cons (pe_bltn (v := .ty "str") (u := .type "str") rfl ms (by decide +kernel) rfl) pa_nil))))) pss_never pss_nil) (pss_cons (ps_if (pt_cmpR op_gt (pe_callB call_len rfl ml PySem.boot_len (pa_cons (pv 1) pa_nil)) (pe_glob (v := .int 400) rfl mW ⟨_, rfl⟩) (nomark _)) pss_never pss_nil) (pss_cons (ps_set (i := 2) scRd.nd rfl (Or.inl rfl) (pe_call G2 hr rfl m2 k2 b2 .nil (L2N.passes_call (L2N.takes_of rfl rfl rfl rfl) (fun _ _ _ _ h => h)) (pa_cons (pv 0) (pa_cons (pv 1) pa_nil)))) (pss_cons (ps_if (pt_cmpR op_gt (pe_call G3 (hr.mono (by omega)) rfl m3 k3 b3 .nil pass0 (pa_cons (pv 2) pa_nil)) (pe_glob (v := .int 60) rfl mN ⟨_, rfl⟩) (nomark _)) pss_never pss_nil) (pss_one (ps_ret (pv 2)))))))), ?_⟩
  have hl4 : L.cps.size ≤ 4 := by
    have := hL
    unfold goodS at this
    simp only [Bool.and_eq_true, decide_eq_true_eq] at this
    exact this.1.1.2
  refine t_seq ⟨_, rfl, .str L, "str", rfl, Kn.ofStr _ _ _, (fun z e => by cases e; omega), hT, fun _ H1 e1 => ?_, fun bad => (by rw [show goodV (.str L) = goodS L from rfl, hL] at bad; cases bad)⟩
  dsimp only
  refine t_seq ⟨_, rfl, _, .ty "str", .type "str", .type "str", _, rfl, .ty _, .base (.str _), kn_str (by decide), _, rfl, iffF (by decide) ?_⟩
  dsimp only [tNext]
  have hz : (txt (ts.flatMap Tok.cs)).length = lenT ts := List.size_toArray
  refine t_seq ⟨_, rfl, .str _, _, rfl, ⟨Nat.le_trans (by rw [hz]; exact hlen) (by decide), rfl⟩, _, _, rfl, rfl, _, rfl, iffF (decide_eq_false (by rw [hz]; omega)) ?_⟩
  dsimp only [tNext]
  refine t_set ⟨_, rfl, _, rfl, L, ts, rfl, hL, hg, ho, hlen, fun p' hp' v H2 e2 hv => ?_, fun no => absurd hrd (no p)⟩
  have ep : p' = p := by
    obtain ⟨l, a1, a2, a3⟩ := hrd
    obtain ⟨l', c1, c2, c3⟩ := hp'
    rw [a1] at c1
    cases c1
    rw [← a3, ← c3]
  subst ep
  refine t_seq ⟨_, rfl, v, p', rfl, hv, by omega, fun H3 e3 => ⟨_, _, rfl, rfl, _, rfl, iffF (decide_eq_false (by omega)) ?_⟩⟩
  dsimp only [tNext]
  exact ⟨_, rfl, q v H3 ((e1.trans e2).trans e3) (PatQ.ext e3.sqT _ _ hv)⟩
end
end Bo
set_option Elab.async false
set_option linter.all false
set_option maxRecDepth 100000
set_option maxHeartbeats 4000000
namespace Bo
open PySem PySem.Spec PyProof.Rows L2 GE
theorem txt_app (a b : List Nat) : txt a ++ txt b = txt (a ++ b) := by
  show Str.mk (a.toArray ++ b.toArray) = Str.mk (a ++ b).toArray
  rw [List.append_toArray]
theorem joinL_eq (m : List Nat) : ∀ (a : List Nat) (r : List (List Nat)), TL.joinL m (a :: r) = a ++ r.flatMap (fun x => m ++ x)
  | a, [] => by simp [TL.joinL]
  | a, b :: r => by
    show a ++ (m ++ TL.joinL m (b :: r)) = _
    rw [joinL_eq m b r, List.flatMap_cons]
    simp
theorem join_txts (m : List Nat) (a : List Nat) (r : List (List Nat)) : Txt.join (txt m) ((a :: r).map txt) = txt (a ++ r.flatMap (fun x => m ++ x)) := by
  show Builtin.Str.glued _ _ = _
  rw [StrLaws.glued_eq_join]
  have e : TL.tl (Str.join (txt m) ((a :: r).map txt)) = a ++ r.flatMap (fun x => m ++ x) := by
    rw [TL.tl_join, List.map_map]
    show TL.joinL m ((a :: r).map (TL.tl ∘ txt)) = _
    rw [show (TL.tl ∘ txt) = id from rfl, List.map_id]
    exact joinL_eq m a r
  rw [← txt_cds (Str.join _ _)]
  exact congrArg txt e
def psh (ks : List Str) (p : Pat) : List Nat := (inB (brk ks p) (tw p)).flatMap Tok.cs
theorem twM_cs (m : List Tok) (ks : List Str) : ∀ ps : List Pat, (twM m ks ps).flatMap Tok.cs = (ps.map (psh ks)).flatMap (fun x => m.flatMap Tok.cs ++ x)
  | [] => rfl
  | p :: ps => by
    show (m ++ (inB (brk ks p) (tw p) ++ twM m ks ps)).flatMap Tok.cs = _
    rw [List.flatMap_append, List.flatMap_append, twM_cs m ks ps, List.map_cons, List.flatMap_cons, List.append_assoc]; rfl
theorem twL_cs (m : List Tok) (ks : List Str) (p : Pat) (ps : List Pat) : (twL m ks (p :: ps)).flatMap Tok.cs = psh ks p ++ (ps.map (psh ks)).flatMap (fun x => m.flatMap Tok.cs ++ x) := by
  show (inB (brk ks p) (tw p) ++ twM m ks ps).flatMap Tok.cs = _
  rw [List.flatMap_append, twM_cs]; rfl
def markOf (k : Str) : List Tok := if k = "row" then [] else if k = "and" then [.amp] else [.bar]
theorem psh_len (ks : List Str) (p : Pat) : (psh ks p).length ≤ 5 * p.size := by
  have h := tw_len p
  have g := lenT_inB (brk ks p) (tw p)
  show lenT (inB (brk ks p) (tw p)) ≤ _
  omega
theorem sum_psh (ks : List Str) : ∀ ps : List Pat, ((ps.map (fun p => txt (psh ks p))).map (·.length)).sum ≤ 5 * sizeL ps
  | [] => Nat.le_refl _
  | p :: ps => by
    rw [List.map_cons, List.map_cons, List.sum_cons, sizeL]
    have h1 := sum_psh ks ps
    have h2 := psh_len ks p
    have h3 : (txt (psh ks p)).length = (psh ks p).length := List.size_toArray
    omega
theorem dep_mem' {p : Pat} : ∀ {ps : List Pat}, p ∈ ps → p.dep ≤ depL ps := dep_mem
theorem size_mem {p : Pat} : ∀ {ps : List Pat}, p ∈ ps → p.size ≤ sizeL ps
  | q :: ps, h => by
    rcases List.mem_cons.mp h with e | h
    · rw [e, sizeL]; omega
    · have := size_mem h; rw [sizeL]; omega
theorem okL_mem {L : Str} {p : Pat} : ∀ {ps : List Pat}, okL L ps → p ∈ ps → p.ok L
  | q :: ps, h, hm => by
    rcases List.mem_cons.mp hm with e | hm
    · rw [e]; exact h.1
    · exact okL_mem h.2 hm
theorem SqT.inj {K : PySem.W.Frag} {H : Hp} {a : Addr} {xs ys : List V} (h : SqT K H a xs) (g : SqT K H a ys) : True := trivial
theorem seqQ {K : PySem.W.Frag} {H : Hp} {p : Pat} {a : Addr} (hp : PatQ K H p (.ref a)) (hk : p.kind ∈ (["row", "and", "or"] : List Str)) (ho : ∃ L, p.ok L) :
    ∃ ps b1 us, SqT K H a [.str p.kind, .ref b1] ∧ SqT K H b1 us ∧ PatsQ K H ps us ∧ tw p = twL (markOf p.kind) (setOf p.kind) ps ∧ p.size = sizeL ps + 1 ∧ p.dep = depL ps + 1 ∧ (∃ L, okL L ps) ∧ ps ≠ [] := by
  obtain ⟨L, ho⟩ := ho
  have ne : ∀ {ps : List Pat}, 2 ≤ ps.length → ps ≠ [] := fun h e => by rw [e] at h; exact absurd h (by decide)
  cases p with
  | row ps => obtain ⟨a', b1, us, e, h1, h2, h3⟩ := hp; cases e; exact ⟨ps, b1, us, h1, h2, h3, rfl, rfl, rfl, ⟨L, ho.2⟩, ne ho.1⟩
  | or ps => obtain ⟨a', b1, us, e, h1, h2, h3⟩ := hp; cases e; exact ⟨ps, b1, us, h1, h2, h3, rfl, rfl, rfl, ⟨L, ho.2⟩, ne ho.1⟩
  | and ps => obtain ⟨a', b1, us, e, h1, h2, h3⟩ := hp; cases e; exact ⟨ps, b1, us, h1, h2, h3, rfl, rfl, rfl, ⟨L, ho.2⟩, ne ho.1⟩
  | none => exact absurd hk (by decide)
  | empty => exact absurd hk (by decide)
  | sign c => exact absurd hk (by simp [Pat.kind]; decide)
  | many q => exact absurd hk (by simp [Pat.kind]; decide)
  | not q => exact absurd hk (by simp [Pat.kind]; decide)
/-- the tables of the top -/
structure Tbs (K : PySem.W.Frag) (w : World) (aM aB : Addr) : Prop where
  m : ∃ es n, KDict K w aM es n
  b : ∃ es n, KDict K w aB es n
  mm : ∀ k ∈ (["row", "and", "or"] : List Str), ∃ t, PySem.W.nsIn K aM k = some (some (.str (txt ((markOf k).flatMap Tok.cs)) t))
  br : ∀ k ∈ (["row", "and", "or", "many", "not"] : List Str), ∃ a, PySem.W.nsIn K aB k = some (some (.ref a)) ∧ ∀ H, SqT K H a ((setOf k).map V.str)
def spSh (K : PySem.W.Frag) (d : Nat) : Sp := fun vs H Q _ => ∃ (v : V) (p : Pat), vs = [v] ∧ PatQ K H p v ∧ p.dep ≤ d ∧ p.size ≤ 60 ∧ (∃ L, p.ok L) ∧ ∀ H', Ext H H' → Q (.str (txt (shn p))) H'
def spPS (K : PySem.W.Frag) (d : Nat) : Sp := fun vs H Q _ => ∃ (k : Str) (v : V) (p : Pat), vs = [.str k, v] ∧ k ∈ (["row", "and", "or", "many", "not"] : List Str) ∧ PatQ K H p v ∧ p.dep ≤ d ∧ p.size ≤ 60 ∧ (∃ L, p.ok L) ∧ ∀ H', Ext H H' → Q (.str (txt (psh (setOf k) p))) H'
section
variable {P : Program} {w : World} {K : PySem.W.Frag} {mg : Str → Option Value} {base : Heap} {aM aB : Addr}
theorem scSh : FnScope ["pattern", "kind", "mark", "part"] ["pattern"] (defScope sShown) := ⟨rfl, rfl, rfl, by decide +kernel, rfl, by decide +kernel, by decide +kernel⟩
theorem scPS : FnScope ["kind", "part", "text"] ["kind", "part"] (defScope sPartShown) := ⟨rfl, rfl, rfl, by decide +kernel, rfl, by decide +kernel, by decide +kernel⟩
theorem sh_none {f : Addr} {fd : FuncData} {k : Nat} : FnOk P w K mg base CX0 k f fd ["pattern"] (spSh K 0) := by
  have no : ∀ vs H Q E, ¬ spSh K 0 vs H Q E := fun vs H Q E h => by
    obtain ⟨v, p, _, _, hd, _⟩ := h
    have := dep_pos p
    omega
  exact ⟨fun vs H Q E h => absurd h (no vs H Q E), fun A outer s H args us vs Q E _ _ _ _ h => absurd h (no vs H Q E)⟩
theorem ps_ok {f g : Addr} {fd gd : FuncData} {k d : Nat} (F : FnP K "part_shown" sPartShown f fd) (B : Tbs K w aM aB) (mB : mg "BRACKETED" = some (.ref aB)) (G : FnOk P w K mg base CX0 k g gd ["pattern"] (spSh K d)) (b : Binds K gd ["pattern"] []) (kG : PySem.W.keepIn K (.ref g) = true) (mG : mg "shown" = some (.ref g)) :
    FnOk P w K mg base CX0 (k + 1) f fd ["kind", "part"] (spPS K d) := by
  obtain ⟨es, n, DB⟩ := B.b
  refine okD F scPS (fun vs H Q E h => ?_) (fun cdv A outer s H vs Q E hr h => ?_)
  · obtain ⟨k, v, p, rfl, _⟩ := h
    rfl
  obtain ⟨kd, v, p, rfl, hk, hp, hd, hs, hso, q⟩ := h
  refine ⟨_, (pss_cons (ps_set (i := 2) scPS.nd rfl (Or.inl rfl) (pe_call G hr rfl mG kG b .nil pass0 (pa_cons (pv 1) pa_nil))) (pss_cons (ps_if (pt_cmpR op_in_seq (pe_ix ix_tup (pv 1) pe_int (fun _ _ => rfl)) (pe_ix ix_kdict (pe_glob (v := .ref aB) rfl mB rfl) (pv 0) (fun _ _ => rfl)) (by rfl)) (pss_one (ps_ret (pe_op op_add_str (pe_op op_add_str pe_str (pv 2)) pe_str))) pss_nil) (pss_one (ps_ret (pv 2))))), ?_⟩
  obtain ⟨a, hns, hsq⟩ := B.br kd hk
  obtain ⟨av, xs, rfl, hav⟩ := hp.hd
  refine t_set ⟨_, rfl, _, p, rfl, hp, hd, hs, hso, fun H1 e1 => ?_⟩
  refine t_seq (r_ixQ 0 rfl (e1.sqT _ _ hav) rfl ?_)
  refine ⟨_, rfl, aB, kd, .ref a, rfl, rfl, ⟨es, n, .ref a, DB.at_, DB.lit, hns, rfl⟩, a, _, rfl, .inr (hsq H1), rfl, ?_, ?_⟩
  · rw [List.all_map, List.all_eq_true]; intro z _; rfl
  rw [inV_str]
  have hl := tw_len p
  have hz : (txt (shn p)).length = lenT (tw p) := List.size_toArray
  refine ⟨_, rfl, ?_⟩
  by_cases hb : p.kind ∈ setOf kd
  · refine iffT (decide_eq_true hb) ?_
    have e : psh (setOf kd) p = [40] ++ shn p ++ [41] := by
      show (inB (brk (setOf kd) p) (tw p)).flatMap Tok.cs = _
      rw [show brk (setOf kd) p = true from decide_eq_true hb]
      show (Tok.lp :: (tw p ++ [.rp])).flatMap Tok.cs = _
      rw [List.flatMap_cons, List.flatMap_append]; rfl
    have h1 : Str.ofString "(" ++ txt (shn p) = txt ([40] ++ shn p) := txt_app [40] (shn p)
    have h2 : txt ([40] ++ shn p) ++ Str.ofString ")" = txt ([40] ++ shn p ++ [41]) := txt_app _ [41]
    refine ⟨_, rfl, _, _, rfl, rfl, Nat.le_trans (show 1 + (txt (shn p)).length ≤ 500 by omega) (by decide), _, _, rfl, rfl, ?_, ?_⟩
    · rw [h1]
      have : (txt ([40] ++ shn p)).length = 1 + (shn p).length := by show ([40] ++ shn p).toArray.size = _; rw [List.size_toArray, List.length_append]; rfl
      have h9 : (shn p).length = lenT (tw p) := rfl
      exact Nat.le_trans (show (txt ([40] ++ shn p)).length + 1 ≤ 500 by omega) (by decide)
    · have := q H1 e1
      rw [e, ← h2, ← h1] at this
      exact this
  · refine iffF (decide_eq_false hb) ?_
    have e : psh (setOf kd) p = shn p := by
      show (inB (brk (setOf kd) p) (tw p)).flatMap Tok.cs = _
      rw [show brk (setOf kd) p = false from decide_eq_false hb]; rfl
    have := q H1 e1
    rw [e] at this
    exact ⟨_, rfl, this⟩
theorem sh_ok {f g : Addr} {fd gd : FuncData} {k d : Nat} (F : FnP K "shown" sShown f fd) (B : Tbs K w aM aB) (mM : mg "MARKS" = some (.ref aM)) (G : FnOk P w K mg base CX0 k g gd ["kind", "part"] (spPS K d)) (b : Binds K gd ["kind", "part"] []) (kG : PySem.W.keepIn K (.ref g) = true) (mG : mg "part_shown" = some (.ref g)) :
    FnOk P w K mg base CX0 (k + 1) f fd ["pattern"] (spSh K (d + 1)) := by
  obtain ⟨es, n, DM⟩ := B.m
  refine okD F scSh (fun vs H Q E h => ?_) (fun cdv A outer s H vs Q E hr h => ?_)
  · obtain ⟨v, p, rfl, _⟩ := h
    rfl
  obtain ⟨v, p, rfl, hp, hd, hs, hso, q⟩ := h
  refine ⟨_, (pss_cons (ps_set (i := 1) scSh.nd rfl (Or.inr rfl) (pe_ix ix_tup (pv 0) pe_int (fun _ _ => rfl))) (pss_cons (ps_if (pt_cmpR op_eq (pv 1) pe_str (nomark _)) (pss_one (ps_ret pe_str)) pss_nil) (pss_cons (ps_if (pt_cmpR op_eq (pv 1) pe_str (nomark _)) (pss_one (ps_ret pe_str)) pss_nil) (pss_cons (ps_if (pt_cmpR op_eq (pv 1) pe_str (nomark _)) (pss_one (ps_ret (pe_ix ix_tup (pv 0) pe_int (fun _ _ => rfl)))) pss_nil) (pss_cons (ps_if (pt_cmpR op_eq (pv 1) pe_str (nomark _)) (pss_one (ps_ret (pe_op op_add_str (pe_call G hr rfl mG kG b .nil pass0 (pa_cons (pv 1) (pa_cons (pe_ix ix_tup (pv 0) pe_int (fun _ _ => rfl)) pa_nil))) pe_str))) pss_nil) (pss_cons (ps_if (pt_cmpR op_eq (pv 1) pe_str (nomark _)) (pss_one (ps_ret (pe_op op_add_str pe_str (pe_call G hr rfl mG kG b .nil pass0 (pa_cons (pv 1) (pa_cons (pe_ix ix_tup (pv 0) pe_int (fun _ _ => rfl)) pa_nil)))))) pss_nil) (pss_cons (ps_set (i := 2) scSh.nd rfl (Or.inl rfl) (pe_ix ix_kdict (pe_glob (v := .ref aM) rfl mM rfl) (pv 1) (fun _ _ => rfl))) (pss_one (ps_ret (pe_join (pv 2) (pe_lc (own := [("part", 3)]) (g := gName 3) (tt := tYes) rfl scSh.nd (pi_tup (pe_ix ix_tup (pv 0) pe_int (fun _ _ => rfl)))
      (blkOk_by (N := ["pattern", "kind", "mark", "part"]) (sc := defScope sShown) (by decide +kernel)) (fun _ _ _ _ _ => pg_name (i := 3) scSh.nd rfl (Or.inl rfl) (Or.inr rfl)) (fun _ _ _ _ _ => pts_nil)
      (fun _ _ _ _ _ => pe_call G hr rfl mG kG b .nil pass0 (pa_cons (pv 1) (pa_cons (pv 3) pa_nil)))))))))))))), ?_⟩
  obtain ⟨a, xs, rfl, ha⟩ := hp.hd
  refine t_set (r_ixQ 0 rfl ha rfl ?_)
  have tst : ∀ {x : Str} {t1 u1 : TS} {D : Ends}, (p.kind = x → t1 D [some (.ref a), some (.str p.kind), none, none] H) → (p.kind ≠ x → u1 D [some (.ref a), some (.str p.kind), none, none] H) →
      tIfS (tTest (tOp rEq (tVar 1) (tC (.str x)))) t1 u1 D [some (.ref a), some (.str p.kind), none, none] H := fun {x t1 u1 D} y n => by
    refine ⟨_, rfl, rfl, _, rfl, ?_⟩
    by_cases e : p.kind = x
    · exact iffT (decide_eq_true (congrArg V.str e)) (y e)
    · exact iffF (str_ne e) (n e)
  have e0 := Ext.refl H
  have q0 := q H e0
  have len1 : ∀ {q' : Pat} {ks : List Str}, q'.size ≤ 60 → (txt (psh ks q')).length + 1 ≤ 500 := fun {q' ks} h => by
    have h2 := psh_len ks q'
    have h3 : (txt (psh ks q')).length = (psh ks q').length := List.size_toArray
    omega
  have ha0 : ∀ {j : Nat} {y : V} {R : VK}, (V.str p.kind :: xs)[j]? = some y → R y H → tOp (rIxT K) (tVar 0) (tC (.int (j : Int))) [some (.ref a), some (.str p.kind), none, none] H R := fun hj r => r_ixQ _ rfl ha hj r
  by_cases hk : p.kind ∈ (["row", "and", "or"] : List Str)
  · obtain ⟨ps, b1, us, ha, hb1, hps, htw, hsz, hdd, hok, hne⟩ := seqQ hp hk hso
    have nk : ∀ x : Str, x ∉ (["row", "and", "or"] : List Str) → p.kind ≠ x := fun x n e => n (e ▸ hk)
    refine t_seq (tst (x := "none") (fun e => absurd e (nk _ (by decide))) (fun _ => t_seq (tst (x := "empty") (fun e => absurd e (nk _ (by decide))) (fun _ => t_seq (tst (x := "sign") (fun e => absurd e (nk _ (by decide))) (fun _ => t_seq (tst (x := "many") (fun e => absurd e (nk _ (by decide))) (fun _ => t_seq (tst (x := "not") (fun e => absurd e (nk _ (by decide))) (fun _ => ?_))))))))))
    obtain ⟨tk, hmk⟩ := B.mm p.kind hk
    dsimp only [tNext]
    refine t_set ⟨_, rfl, aM, p.kind, .str (txt ((markOf p.kind).flatMap Tok.cs)), rfl, rfl, ⟨es, n, _, DM.at_, DM.lit, hmk, ⟨tk, rfl⟩⟩, ?_⟩
    refine ⟨_, rfl, ⟨_, rfl⟩, ?_⟩
    refine r_ixQ 1 rfl ha rfl ?_
    refine ⟨b1, rfl, ⟨us, hb1⟩, fun D hD => ?_⟩
    refine lc_tup (Built H D fun i => .str ((ps.map fun x => txt (psh (setOf p.kind) x)).getD i (txt []))) (Built.zero hD) (fun i H' _ bu => bu.1.sqT _ _ hb1) ?_ ?_
    · intro i x H' hx bu
      obtain ⟨r, hr9, hrx⟩ := hps.get hx
      have hm := List.mem_of_getElem? hr9
      have hrs := size_mem hm
      refine ⟨rfl, ?_⟩
      refine ⟨_, rfl, _, rfl, p.kind, x, r, rfl, ?_, PatQ.ext bu.1.sqT _ _ hrx, (by have := dep_mem hm; omega), by omega, ?_, fun H2 e2 => ?_⟩
      · revert hk; generalize p.kind = kk; intro hk; simp only [List.mem_cons, List.not_mem_nil, or_false] at hk ⊢; rcases hk with h | h | h <;> simp [h]
      · obtain ⟨L, h⟩ := hok; exact ⟨L, okL_mem h hm⟩
      · have hlt : i < ps.length := (List.getElem?_eq_some_iff.mp hr9).1
        have := len_le_sizeL ps
        refine bu.next hD e2 ?_ (Nat.lt_of_lt_of_le (show i < 500 by omega) (by decide))
        rw [List.getD_eq_getElem?_getD, List.getElem?_map, hr9]; rfl
    · intro H' bu
      have hul := hps.len
      have e3 : (List.range us.length).map (fun i => V.str ((ps.map fun x => txt (psh (setOf p.kind) x)).getD i (txt []))) = (ps.map fun x => txt (psh (setOf p.kind) x)).map V.str := by
        rw [hul]
        refine List.ext_getElem? fun i => ?_
        rw [List.getElem?_map, List.getElem?_map]
        by_cases hi : i < ps.length
        · rw [List.getElem?_range hi, List.getElem?_eq_getElem (by simpa using hi)]
          simp [List.getD, hi]
        · rw [List.getElem?_eq_none (by simpa using hi), List.getElem?_eq_none (by simpa using hi)]
          rfl
      have hbu := bu.2
      rw [e3] at hbu
      refine ⟨_, D, _, rfl, rfl, .inl (SqL.of hbu), ?_, ?_⟩
      · have h1 := sum_psh (setOf p.kind) ps
        have h2 := len_le_sizeL ps
        have h3 : (txt ((markOf p.kind).flatMap Tok.cs)).length ≤ 1 := by
          show ((markOf p.kind).flatMap Tok.cs).toArray.size ≤ 1
          rw [List.size_toArray]
          unfold markOf
          split
          · decide
          · split <;> decide
        rw [List.length_map]
        have h4 := Nat.mul_le_mul_left ps.length h3
        omega
      · cases ps with
        | nil => exact absurd rfl hne
        | cons p1 ps =>
          have e4 : Txt.join (txt ((markOf p.kind).flatMap Tok.cs)) ((p1 :: ps).map fun x => txt (psh (setOf p.kind) x)) = txt (shn p) := by
            have h1 := join_txts ((markOf p.kind).flatMap Tok.cs) (psh (setOf p.kind) p1) (ps.map (psh (setOf p.kind)))
            rw [List.map_cons, List.map_map] at h1
            rw [List.map_cons]
            refine h1.trans (congrArg txt ?_)
            show _ = (tw p).flatMap Tok.cs
            rw [htw, twL_cs]
          rw [e4]
          exact q H' bu.1
  cases p with
  | none => exact t_seq (tst (x := "none") (fun _ => q0) (fun n => absurd rfl n))
  | empty => exact t_seq (tst (x := "none") (fun e => absurd e (by decide +kernel)) (fun _ => t_seq (tst (x := "empty") (fun _ => q0) (fun n => absurd rfl n))))
  | sign c =>
    obtain ⟨a', e9, h9⟩ := hp
    cases e9
    refine t_seq (tst (x := "none") (fun e => absurd (show Str.ofString "sign" = Str.ofString "none" from e) (by decide)) (fun _ => t_seq (tst (x := "empty") (fun e => absurd (show Str.ofString "sign" = Str.ofString "empty" from e) (by decide)) (fun _ => t_seq (tst (x := "sign") (fun _ => ?_) (fun n => absurd rfl n))))))
    exact r_ixQ 1 rfl h9 rfl q0
  | many p1 =>
    obtain ⟨a', u, e9, h9, hu⟩ := hp
    cases e9
    refine t_seq (tst (x := "none") (fun e => absurd (show Str.ofString "many" = Str.ofString "none" from e) (by decide)) (fun _ => t_seq (tst (x := "empty") (fun e => absurd (show Str.ofString "many" = Str.ofString "empty" from e) (by decide)) (fun _ => t_seq (tst (x := "sign") (fun e => absurd (show Str.ofString "many" = Str.ofString "sign" from e) (by decide)) (fun _ => t_seq (tst (x := "many") (fun _ => ?_) (fun n => absurd rfl n))))))))
    have hs1 : p1.size ≤ 60 := by have : p1.size + 1 ≤ 60 := hs; omega
    refine ⟨_, rfl, r_ixQ 1 rfl h9 rfl ⟨"many", u, p1, rfl, by decide, hu, (by have : p1.dep + 1 ≤ d + 1 := hd; omega), hs1, hso, fun H1 e1 => ⟨_, _, rfl, rfl, Nat.le_trans (len1 hs1) (by decide), ?_⟩⟩⟩
    have e : txt (psh (setOf "many") p1) ++ Str.ofString "*" = txt (shn (.many p1)) := by
      rw [show Str.ofString "*" = txt [42] from rfl, txt_app]
      refine congrArg txt ?_
      show _ = (inB (brk ["row", "and", "or", "not"] p1) (tw p1) ++ [Tok.star]).flatMap Tok.cs
      rw [List.flatMap_append]; rfl
    have := q H1 e1
    rw [← e] at this
    exact this
  | not p1 =>
    obtain ⟨a', u, e9, h9, hu⟩ := hp
    cases e9
    refine t_seq (tst (x := "none") (fun e => absurd (show Str.ofString "not" = Str.ofString "none" from e) (by decide)) (fun _ => t_seq (tst (x := "empty") (fun e => absurd (show Str.ofString "not" = Str.ofString "empty" from e) (by decide)) (fun _ => t_seq (tst (x := "sign") (fun e => absurd (show Str.ofString "not" = Str.ofString "sign" from e) (by decide)) (fun _ => t_seq (tst (x := "many") (fun e => absurd (show Str.ofString "not" = Str.ofString "many" from e) (by decide)) (fun _ => t_seq (tst (x := "not") (fun _ => ?_) (fun n => absurd rfl n))))))))))
    have hs1 : p1.size ≤ 60 := by have : p1.size + 1 ≤ 60 := hs; omega
    refine ⟨_, rfl, r_ixQ 1 rfl h9 rfl ⟨"not", u, p1, rfl, by decide, hu, (by have : p1.dep + 1 ≤ d + 1 := hd; omega), hs1, hso, fun H1 e1 => ⟨_, _, rfl, rfl, Nat.le_trans (by rw [Nat.add_comm]; exact len1 hs1) (by decide), ?_⟩⟩⟩
    have e : Str.ofString "!" ++ txt (psh (setOf "not") p1) = txt (shn (.not p1)) := by
      rw [show Str.ofString "!" = txt [33] from rfl, txt_app]
      rfl
    have := q H1 e1
    rw [← e] at this
    exact this
  | row ps => exact absurd (show Str.ofString "row" ∈ (["row", "and", "or"] : List Str) by decide) hk
  | or ps => exact absurd (show Str.ofString "or" ∈ (["row", "and", "or"] : List Str) by decide) hk
  | and ps => exact absurd (show Str.ofString "and" ∈ (["row", "and", "or"] : List Str) by decide) hk
end
end Bo
set_option Elab.async false
set_option linter.all false
set_option maxRecDepth 100000
set_option maxHeartbeats 4000000
namespace Bo
open PySem PySem.Spec PyProof.Rows L2 GE
/-! a pattern as data -/
mutual
def pd : Pat → PyData
  | .none => .tuple [.str "none"]
  | .empty => .tuple [.str "empty"]
  | .sign c => .tuple [.str "sign", .str ⟨#[c]⟩]
  | .row ps => .tuple [.str "row", .tuple (pdL ps)]
  | .or ps => .tuple [.str "or", .tuple (pdL ps)]
  | .and ps => .tuple [.str "and", .tuple (pdL ps)]
  | .many p => .tuple [.str "many", pd p]
  | .not p => .tuple [.str "not", pd p]
def pdL : List Pat → List PyData
  | [] => []
  | p :: ps => pd p :: pdL ps
end
mutual
theorem pd_dp {K : PySem.W.Frag} {H : Hp} : ∀ (p : Pat) (v : V), PatQ K H p v → Dp K H v (pd p)
  | .none, v, ⟨a, e, h⟩ => e ▸ .tup h (.cons (.str _) .nil)
  | .empty, v, ⟨a, e, h⟩ => e ▸ .tup h (.cons (.str _) .nil)
  | .sign c, v, ⟨a, e, h⟩ => e ▸ .tup h (.cons (.str _) (.cons (.str _) .nil))
  | .row ps, v, ⟨a, b, vs, e, h, hb, hp⟩ => e ▸ .tup h (.cons (.str _) (.cons (.tup hb (pdL_dp ps vs hp)) .nil))
  | .or ps, v, ⟨a, b, vs, e, h, hb, hp⟩ => e ▸ .tup h (.cons (.str _) (.cons (.tup hb (pdL_dp ps vs hp)) .nil))
  | .and ps, v, ⟨a, b, vs, e, h, hb, hp⟩ => e ▸ .tup h (.cons (.str _) (.cons (.tup hb (pdL_dp ps vs hp)) .nil))
  | .many p, v, ⟨a, u, e, h, hp⟩ => e ▸ .tup h (.cons (.str _) (.cons (pd_dp p u hp) .nil))
  | .not p, v, ⟨a, u, e, h, hp⟩ => e ▸ .tup h (.cons (.str _) (.cons (pd_dp p u hp) .nil))
theorem pdL_dp {K : PySem.W.Frag} {H : Hp} : ∀ (ps : List Pat) (vs : List V), PatsQ K H ps vs → DpAll K H vs (pdL ps)
  | [], vs, e => (show vs = [] from e) ▸ .nil
  | p :: ps, vs, ⟨v, r, e, h, hp⟩ => e ▸ .cons (pd_dp p v h) (pdL_dp ps r hp)
end
mutual
theorem pd_depth : ∀ p : Pat, (pd p).depth ≤ 2 * p.dep
  | .none => by decide
  | .empty => by decide
  | .sign c => by show 0 + 1 ≤ 2 * 1; decide
  | .row ps => by
    have h := pdL_depth ps
    show max 0 (max (PyData.depthAll (pdL ps) + 1) 0) + 1 ≤ 2 * (depL ps + 1)
    omega
  | .or ps => by
    have h := pdL_depth ps
    show max 0 (max (PyData.depthAll (pdL ps) + 1) 0) + 1 ≤ 2 * (depL ps + 1)
    omega
  | .and ps => by
    have h := pdL_depth ps
    show max 0 (max (PyData.depthAll (pdL ps) + 1) 0) + 1 ≤ 2 * (depL ps + 1)
    omega
  | .many p => by
    have h := pd_depth p
    show max 0 (max (pd p).depth 0) + 1 ≤ 2 * (p.dep + 1)
    omega
  | .not p => by
    have h := pd_depth p
    show max 0 (max (pd p).depth 0) + 1 ≤ 2 * (p.dep + 1)
    omega
theorem pdL_depth : ∀ ps : List Pat, PyData.depthAll (pdL ps) ≤ 2 * depL ps
  | [] => Nat.le_refl _
  | p :: ps => by
    have h1 := pd_depth p
    have h2 := pdL_depth ps
    show max (pd p).depth (PyData.depthAll (pdL ps)) ≤ 2 * max p.dep (depL ps)
    omega
end
theorem sgn_ok : ∀ c, c < 128 → PyData.strOk ⟨#[c]⟩ = true := by decide +kernel
mutual
theorem pd_lay {L : Str} (hL : goodS L = true) : ∀ p : Pat, p.ok L → (pd p).canLay0 = true
  | .none, _ => by decide +kernel
  | .empty, _ => by decide +kernel
  | .sign c, h => by
    have az : c < 128 := by
      unfold goodS at hL
      simp only [Bool.and_eq_true] at hL
      have := (of_decide_eq_true (List.all_eq_true.mp hL.1.2 c h)).2
      omega
    show (PyData.strOk "sign" && (PyData.strOk ⟨#[c]⟩ && true)) = true
    rw [sgn_ok c az]; decide +kernel
  | .row ps, h => by
    show (PyData.strOk "row" && (PyData.canLayAll0 (pdL ps) && true)) = true
    rw [pdL_lay hL ps h.2]; decide +kernel
  | .or ps, h => by
    show (PyData.strOk "or" && (PyData.canLayAll0 (pdL ps) && true)) = true
    rw [pdL_lay hL ps h.2]; decide +kernel
  | .and ps, h => by
    show (PyData.strOk "and" && (PyData.canLayAll0 (pdL ps) && true)) = true
    rw [pdL_lay hL ps h.2]; decide +kernel
  | .many p, h => by
    show (PyData.strOk "many" && ((pd p).canLay0 && true)) = true
    rw [pd_lay hL p h]; decide +kernel
  | .not p, h => by
    show (PyData.strOk "not" && ((pd p).canLay0 && true)) = true
    rw [pd_lay hL p h]; decide +kernel
theorem pdL_lay {L : Str} (hL : goodS L = true) : ∀ ps : List Pat, okL L ps → PyData.canLayAll0 (pdL ps) = true
  | [], _ => rfl
  | p :: ps, h => by
    show ((pd p).canLay0 && PyData.canLayAll0 (pdL ps)) = true
    rw [pd_lay hL p h.1, pdL_lay hL ps h.2]; rfl
end
/-- the same pattern twice -/
def rNeP (K : PySem.W.Frag) : R2 := fun x y H Q => ∃ (L : Str) (p : Pat), goodS L = true ∧ p.ok L ∧ p.dep ≤ 60 ∧ PatQ K H p x ∧ PatQ K H p y ∧ Q (.bl false) H
theorem op_neP {X : Cx} (hu : X.A.units + 200 < cLine) : OpR X (compareOp .NotEq) (rNeP X.K) := by
  intro pins s σ H x y v u Q I rx ry h
  obtain ⟨L, p, hL, ho, hd, hx, hy, q⟩ := h
  obtain ⟨as, r1⟩ := Dp.reads I (pd p) x v (pd_dp p x hx) rx
  obtain ⟨bs, r2⟩ := Dp.reads I (pd p) y u (pd_dp p y hy) ry
  have lay := pd_lay hL p ho
  have dd := pd_depth p
  refine SeqAt.compareNe_reads r1 r2 lay lay (by rw [Nat.min_self]; omega) ?_
  rw [SeqAt.eqv_refl (pd p) lay]
  exact ⟨.bl false, H, I, rfl, q⟩
/-! the law's own -/
theorem join_txt (l : List Nat) : Txt.join (Str.ofString "") (l.map sgn) = txt l := by
  cases l with
  | nil => rfl
  | cons a r =>
    have h := join_txts [] [a] (r.map fun c => [c])
    have e : (a :: r).map sgn = ([a] :: r.map fun c => [c]).map txt := by rw [List.map_cons, List.map_cons, List.map_map]; rfl
    rw [e]
    refine h.trans (congrArg txt ?_)
    show [a] ++ (r.map fun c => [c]).flatMap (fun x => [] ++ x) = a :: r
    rw [List.flatMap_map]
    show a :: r.flatMap (fun c => [c]) = a :: r
    rw [List.flatMap_singleton']
/-- the letters that a cell draws -/
def mkL (r s n : Nat) : Str := txt ((List.range n).map fun k => 97 + (r + k * s) % 26)
theorem mkL_good : ∀ r, r < 26 → ∀ s, s < 12 → ∀ n, n < 4 → goodS (mkL r (s + 1) (n + 1)) = true := by decide +kernel
def lets (z : Int) : Str := mkL ((z / 4) % 26).toNat (1 + (z / 104) % 12).toNat (1 + z % 4).toNat
theorem lets_good (z : Int) : goodS (lets z) = true := by
  have h1 : ((z / 4) % 26).toNat < 26 := by omega
  have h2 : (1 + (z / 104) % 12).toNat = ((z / 104) % 12).toNat + 1 := by omega
  have h3 : (1 + z % 4).toNat = (z % 4).toNat + 1 := by omega
  rw [lets, h2, h3]
  exact mkL_good _ h1 _ (by omega) _ (by omega)
def spCA (K : PySem.W.Frag) : Sp := fun vs H Q _ => ∃ (a : Addr) (ns : List Int) (k : Nat), vs = [.ref a, nV k] ∧ SqL K H a (ns.map V.int) ∧ Q (.int (ns.getD k 0)) H
def spLt : Sp := fun vs H Q _ => ∃ z : Int, vs = [.int z] ∧ ∀ H', Ext H H' → Q (.str (lets z)) H'
def alphabet : Str := "abcdefghijklmnopqrstuvwxyz"
theorem alpha_get : ∀ i, i < 26 → (cds alphabet)[i]? = some (97 + i) := by decide +kernel
section
variable {P : Program} {w : World} {K : PySem.W.Frag} {mg : Str → Option Value} {base : Heap}
theorem scCA : FnScope ["_law_script", "_law_k"] ["_law_script", "_law_k"] (defScope sLawCellAt) := ⟨rfl, rfl, rfl, by decide +kernel, rfl, by decide +kernel, by decide +kernel⟩
theorem scLt : FnScope ["_law_cell", "_law_some", "_law_k"] ["_law_cell"] (defScope sLawLetters) := ⟨rfl, rfl, rfl, by decide +kernel, rfl, by decide +kernel, by decide +kernel⟩
theorem ca_ok {f : Addr} {fd : FuncData} (F : FnP K "_law_cell_at" sLawCellAt f fd) (ml : mg "len" = none) : FnOk P w K mg base CX0 1 f fd ["_law_script", "_law_k"] (spCA K) := by
  refine okD F scCA (fun vs H Q E h => ?_) (fun cdv A outer s H vs Q E hr h => ?_)
  · obtain ⟨a, ns, k, rfl, _⟩ := h
    rfl
  obtain ⟨a, ns, k, rfl, hS, q⟩ := h
  refine ⟨_, pss_cons (ps_if (pt_cmpR op_lt (pv 1) (pe_callB call_len rfl ml PySem.boot_len (pa_cons (pv 0) pa_nil)) (nomark _)) (pss_one (ps_ret (pe_ix ix_list (pv 0) (pv 1) (fun _ _ => rfl)))) pss_nil)
    (pss_one (ps_ret pe_int)), ?_⟩
  refine t_seq ⟨_, rfl, _, rfl, .ref a, _, rfl, .inl ⟨_, hS, rfl⟩, _, _, rfl, rfl, _, rfl, ?_⟩
  rw [List.length_map]
  by_cases h : k < ns.length
  · refine iffT (decide_eq_true (by omega)) ⟨_, rfl, _, rfl, a, _, _, _, rfl, rfl, hS, atI_nat (v := .int (ns.getD k 0)) ?_, q⟩
    rw [List.getElem?_map, List.getElem?_eq_getElem h]
    simp [List.getD, List.getElem?_eq_getElem h]
  · refine iffF (decide_eq_false (by omega)) ?_
    have e : ns.getD k 0 = 0 := by rw [List.getD_eq_getElem?_getD, List.getElem?_eq_none (by omega)]; rfl
    rw [e] at q
    exact q
theorem lt_ok {f : Addr} {fd : FuncData} (F : FnP K "_law_letters" sLawLetters f fd) (mr : mg "range" = none) : FnOk P w K mg base CX0 1 f fd ["_law_cell"] spLt := by
  refine okD F scLt (fun vs H Q E h => ?_) (fun cdv A outer s H vs Q E hr h => ?_)
  · obtain ⟨z, rfl, _⟩ := h
    rfl
  obtain ⟨z, rfl, q⟩ := h
  refine ⟨_, pss_cons (ps_set (i := 1) scLt.nd rfl (Or.inr rfl) pe_str)
    (pss_one (ps_ret (pe_join pe_str (pe_lc (own := [("_law_k", 2)]) (g := gName 2) (tt := tYes) rfl scLt.nd (pi_range1 rfl mr (pa_cons (pe_op op_add pe_int (pe_op op_mod (pv 0) pe_int)) pa_nil))
      (blkOk_by (N := ["_law_cell", "_law_some", "_law_k"]) (sc := defScope sLawLetters) (by decide +kernel))
      (fun _ _ _ _ _ => pg_name (i := 2) scLt.nd rfl (Or.inl rfl) (Or.inr rfl)) (fun _ _ _ _ _ => pts_nil)
      (fun _ _ _ _ _ => pe_ix ix_str (pv 1) (pe_op op_mod (pe_op op_add (pe_op op_fdiv (pv 0) pe_int) (pe_op op_mul (pv 2) (pe_op op_add pe_int (pe_op op_mod (pe_op op_fdiv (pv 0) pe_int) pe_int)))) pe_int) (fun _ _ => rfl)))))), ?_⟩
  refine t_setC ⟨⟨_, rfl⟩, ?_⟩
  refine ⟨_, rfl, _, _, rfl, rfl, show (0 : Int) < 4 by decide, _, _, rfl, rfl, _, rfl, by omega, by omega, fun D hD => ?_⟩
  have hn : (1 + z % 4).toNat ≤ 4 := by omega
  refine lc_range (Built H D fun k => .str (sgn (97 + (((z / 4) % 26).toNat + k * (1 + (z / 104) % 12).toNat) % 26))) (Built.zero hD) ?_ ?_
  · intro k H' hk b
    refine ⟨rfl, ?_⟩
    refine ⟨_, rfl, _, rfl, _, _, rfl, rfl, show (0 : Int) < 4 ∧ (4 : Int) < 1073741824 by decide, _, rfl, _, rfl, _, _, rfl, rfl, show (0 : Int) < 104 ∧ (104 : Int) < 1073741824 by decide, _, _, rfl, rfl, show (0 : Int) < 12 by decide, _, _, rfl, rfl, _, _, rfl, rfl, ?_⟩
    have k4 : k < 4 := by omega
    have eS : 1 + z / 104 % 12 = (((1 + z / 104 % 12).toNat : Nat) : Int) := by omega
    have e : (z / 4 + (0 + (k : Int)) * (1 + z / 104 % 12)) % 26 = (((((z / 4) % 26).toNat + k * (1 + (z / 104) % 12).toNat) % 26 : Nat) : Int) := by
      rw [eS, Int.zero_add, ← Int.natCast_mul]
      rw [show (((1 + z / 104 % 12).toNat : Nat) : Int).toNat = (1 + z / 104 % 12).toNat from Int.toNat_natCast _]
      generalize k * (1 + z / 104 % 12).toNat = m'
      omega
    refine ⟨.inl ⟨by omega, by omega⟩, _, _, rfl, rfl, _, _, rfl, rfl, show (0 : Int) < 26 by decide, alphabet, _, 97 + (((z / 4) % 26).toNat + k * (1 + (z / 104) % 12).toNat) % 26, rfl, congrArg V.int e, by decide, atI_nat (alpha_get _ (by omega)), ?_⟩
    exact b.next hD (Ext.refl _) rfl (Nat.lt_trans k4 (by decide))
  · intro H' b
    refine ⟨_, _, (List.range (1 + z % 4).toNat).map (fun k => sgn (97 + (((z / 4) % 26).toNat + k * (1 + (z / 104) % 12).toNat) % 26)), rfl, rfl, .inl ?_, ?_, ?_⟩
    · rw [List.map_map]; exact SqL.of b.2
    · have : ((List.range (1 + z % 4).toNat).map (fun k => sgn (97 + (((z / 4) % 26).toNat + k * (1 + (z / 104) % 12).toNat) % 26))).map (·.length) = List.replicate (1 + z % 4).toNat 1 := by
        rw [List.map_map]
        exact List.eq_replicate_iff.mpr ⟨by simp, fun b hb => by obtain ⟨k, _, rfl⟩ := List.mem_map.mp hb; rfl⟩
      rw [this, List.sum_replicate_nat]
      rw [show (Str.ofString "").length = 0 by decide]
      simp
      omega
    · have e : (List.range (1 + z % 4).toNat).map (fun k => sgn (97 + (((z / 4) % 26).toNat + k * (1 + (z / 104) % 12).toNat) % 26)) = ((List.range (1 + z % 4).toNat).map (fun k => 97 + (((z / 4) % 26).toNat + k * (1 + (z / 104) % 12).toNat) % 26)).map sgn := by
        rw [List.map_map]; rfl
      rw [e, join_txt]
      exact q _ b.1
end
def spLS (K : PySem.W.Frag) (d : Nat) : Sp := fun vs H Q _ => ∃ (v : V) (p : Pat), vs = [v] ∧ PatQ K H p v ∧ p.dep ≤ d ∧ p.size ≤ 500 ∧ ∀ H', Ext H H' → Q (nV p.size) H'
theorem sizeL_sum : ∀ ps : List Pat, sizeL ps = (ps.map Pat.size).sum
  | [] => rfl
  | p :: ps => by rw [sizeL, List.map_cons, List.sum_cons, sizeL_sum ps]
theorem sum_nV : ∀ ns : List Nat, (ns.map (fun (n : Nat) => (n : Int))).sum = ((ns.sum : Nat) : Int)
  | [] => rfl
  | n :: ns => by rw [List.map_cons, List.sum_cons, List.sum_cons, sum_nV ns]; omega
theorem dep_parts (p : Pat) : p.dep = depL p.parts + 1 := by cases p <;> simp [Pat.dep, Pat.parts, depL]
section
variable {P : Program} {w : World} {K : PySem.W.Frag} {mg : Str → Option Value} {base : Heap}
theorem scLS : FnScope ["_law_pattern", "_law_part"] ["_law_pattern"] (defScope sLawSize) := ⟨rfl, rfl, rfl, by decide +kernel, rfl, by decide +kernel, by decide +kernel⟩
theorem ls_none {f : Addr} {fd : FuncData} {k : Nat} : FnOk P w K mg base CX0 k f fd ["_law_pattern"] (spLS K 0) := by
  have no : ∀ vs H Q E, ¬ spLS K 0 vs H Q E := fun vs H Q E h => by
    obtain ⟨v, p, _, _, hd, _⟩ := h
    have := dep_pos p
    omega
  exact ⟨fun vs H Q E h => absurd h (no vs H Q E), fun A outer s H args us vs Q E _ _ _ _ h => absurd h (no vs H Q E)⟩
theorem ls_step {f : Addr} {fd : FuncData} {k d : Nat} (F : FnP K "_law_size" sLawSize f fd) (G : FnOk P w K mg base CX0 k f fd ["_law_pattern"] (spLS K d)) (b : Binds K fd ["_law_pattern"] [])
    (mG : mg "_law_size" = some (.ref f)) (ms : mg "sum" = none) : FnOk P w K mg base CX0 (k + 1) f fd ["_law_pattern"] (spLS K (d + 1)) := by
  refine okD F scLS (fun vs H Q E h => ?_) (fun cdv A outer s H vs Q E hr h => ?_)
  · obtain ⟨v, p, rfl, _⟩ := h
    rfl
  obtain ⟨v, p, rfl, hp, hd, hs, q⟩ := h
  refine ⟨_, pss_cons (ps_if (pt_cmpR op_in_seq (pe_ix ix_tup (pv 0) pe_int (fun _ _ => rfl)) (pe_tup (pa_cons pe_str (pa_cons pe_str (pa_cons pe_str pa_nil)))) (by rfl))
      (pss_one (ps_ret (pe_op op_add pe_int (pe_callB (cr_sum rfl) rfl ms boot_sum (pa_cons (pe_lc (own := [("_law_part", 1)]) (g := gName 1) (tt := tYes) rfl scLS.nd (pi_tup (pe_ix ix_tup (pv 0) pe_int (fun _ _ => rfl)))
        (blkOk_by (N := ["_law_pattern", "_law_part"]) (sc := defScope sLawSize) (by decide +kernel))
        (fun _ _ _ _ _ => pg_name (i := 1) scLS.nd rfl (Or.inl rfl) (Or.inr rfl)) (fun _ _ _ _ _ => pts_nil)
        (fun _ _ _ _ _ => pe_call G hr rfl mG F.kp b .nil pass0 (pa_cons (pv 1) pa_nil))) pa_nil))))) pss_nil)
    (pss_cons (ps_if (pt_cmpR op_in_seq (pe_ix ix_tup (pv 0) pe_int (fun _ _ => rfl)) (pe_tup (pa_cons pe_str (pa_cons pe_str pa_nil))) (by rfl))
      (pss_one (ps_ret (pe_op op_add pe_int (pe_call G hr rfl mG F.kp b .nil pass0 (pa_cons (pe_ix ix_tup (pv 0) pe_int (fun _ _ => rfl)) pa_nil))))) pss_nil)
    (pss_one (ps_ret pe_int))), ?_⟩
  obtain ⟨us, hpa, hps⟩ := pat_partsQ hp
  have hsz := size_parts p
  have hdd := dep_parts p
  have fin : ∀ {H' : Hp} {ps : List Pat}, p.parts = ps → Ext H H' → Q (.int (1 + ((sizeL ps : Nat) : Int))) H' := fun {H' ps} e e2 => by
    have := q _ e2
    rw [hsz, e] at this
    have e5 : (1 : Int) + ((sizeL ps : Nat) : Int) = ((sizeL ps + 1 : Nat) : Int) := by omega
    rw [e5]
    exact this
  rcases hpa with ⟨a, b1, k, rfl, n1, ha, hb1⟩ | ⟨a, k, u, rfl, n2, ha, rfl⟩ | ⟨a, k, xs, rfl, ha, n1, n2, rfl⟩
  · refine t_seq (if_inTQ ["row", "or", "and"] rfl ha n1 fun p1 np => ?_)
    refine r_ixQ 1 rfl (tk_new np _ _ ha) rfl ⟨b1, rfl, ⟨us, tk_new np _ _ hb1⟩, fun D hD => ?_⟩
    have hD0 : H D = none := (Ext.new np).free hD
    refine lc_tup (Built H D fun i => nV ((p.parts.map Pat.size).getD i 0)) ⟨(Ext.new np).wr hD0, upd_same⟩ (fun i H' _ b => b.1.sqT _ _ hb1) ?_ ?_
    · intro i x H' hx bu
      refine ⟨rfl, ?_⟩
      obtain ⟨r, hr, hrx⟩ := hps.get hx
      have hm := List.mem_of_getElem? hr
      have h1 := dep_mem hm
      have h2 := size_mem hm
      refine ⟨_, rfl, x, r, rfl, PatQ.ext bu.1.sqT _ _ hrx, by omega, by omega, fun H2 e2 => ?_⟩
      have hlt : i < p.parts.length := (List.getElem?_eq_some_iff.mp hr).1
      have := len_le_sizeL p.parts
      refine bu.next hD0 e2 ?_ (Nat.lt_trans (show i < 501 by omega) (by decide))
      rw [List.getD_eq_getElem?_getD, List.getElem?_map, hr]
      rfl
    · intro H' bu
      have e3 : (List.range us.length).map (fun i => nV ((p.parts.map Pat.size).getD i 0)) = ((p.parts.map Pat.size).map (fun (n : Nat) => (n : Int))).map V.int := by
        rw [hps.len, List.map_map]
        refine List.ext_getElem? fun i => ?_
        rw [List.getElem?_map, List.getElem?_map]
        by_cases hi : i < p.parts.length
        · rw [List.getElem?_range hi, List.getElem?_eq_getElem (by simpa using hi)]
          simp [List.getD, hi]
        · rw [List.getElem?_eq_none (by simpa using hi), List.getElem?_eq_none (by simpa using hi)]
          rfl
      have hbu := bu.2
      rw [e3] at hbu
      refine ⟨D, _, rfl, SqL.of hbu, _, _, rfl, rfl, ?_⟩
      rw [sum_nV, ← sizeL_sum]
      exact fin rfl bu.1
  · have n1 : k ∉ (["row", "or", "and"] : List Str) := by
      simp only [List.mem_cons, List.not_mem_nil, or_false] at n2
      rcases n2 with rfl | rfl <;> decide
    refine t_seq (if_inFQ ["row", "or", "and"] rfl ha n1 fun p1 np => t_seq (if_inTQ ["many", "not"] rfl (tk_new np _ _ ha) n2 fun p2 np2 => ?_))
    have e2 := (Ext.new (o := .tup ((["row", "or", "and"] : List Str).map V.str)) np).trans (Ext.new (o := .tup ((["many", "not"] : List Str).map V.str)) np2)
    obtain ⟨p', hpp⟩ : ∃ p', p.parts = [p'] := List.length_eq_one_iff.mp (by rw [← hps.len]; rfl)
    rw [hpp] at hps hsz hdd
    obtain ⟨u', r', e9, hu, _⟩ := hps
    have : u = u' := (List.cons.inj e9).1
    subst this
    rw [sizeL_one] at hsz
    have hd1 : depL [p'] = p'.dep := by simp [depL]
    refine r_ixQ 1 rfl (e2.sqT _ _ ha) rfl ⟨u, p', rfl, PatQ.ext e2.sqT _ _ hu, by omega, by omega, fun H3 e3 => ⟨_, _, rfl, rfl, ?_⟩⟩
    have := fin (H' := H3) hpp (e2.trans e3)
    rw [sizeL_one] at this
    exact this
  · refine t_seq (if_inFQ ["row", "or", "and"] rfl ha n1 fun p1 np => t_seq (if_inFQ ["many", "not"] rfl (tk_new np _ _ ha) n2 fun p2 np2 => ?_))
    have e0 : p.parts = [] := List.length_eq_zero_iff.mp (by rw [← hps.len]; rfl)
    have := fin (H' := upd (upd H p1 (.tup ((["row", "or", "and"] : List Str).map V.str))) p2 (.tup ((["many", "not"] : List Str).map V.str))) e0 ((Ext.new np).trans (Ext.new np2))
    exact this
end
end Bo
set_option Elab.async false
set_option linter.all false
set_option maxRecDepth 100000
set_option maxHeartbeats 4000000
namespace Bo
open PySem PySem.Spec PyProof.Rows L2 GE
/-! a pattern and its text side by side -/
def EntAt (K : PySem.W.Frag) (H : Hp) (p : Pat) (e : V) : Prop := ∃ a v, e = .ref a ∧ SqT K H a [v, .str (txt (shn p))] ∧ PatQ K H p v
def EntsAt (K : PySem.W.Frag) (H : Hp) : List Pat → List V → Prop
  | [] => fun vs => vs = []
  | p :: ps => fun vs => ∃ v r, vs = v :: r ∧ EntAt K H p v ∧ EntsAt K H ps r
theorem EntAt.ext {K : PySem.W.Frag} {H H' : Hp} {p : Pat} {e : V} (t : Tk K H H') (h : EntAt K H p e) : EntAt K H' p e := let ⟨a, v, e1, h1, h2⟩ := h; ⟨a, v, e1, t _ _ h1, PatQ.ext t _ _ h2⟩
theorem EntsAt.ext {K : PySem.W.Frag} {H H' : Hp} (t : Tk K H H') : ∀ {ps : List Pat} {vs : List V}, EntsAt K H ps vs → EntsAt K H' ps vs
  | [], vs, h => h
  | p :: ps, vs, ⟨v, r, e, a, b⟩ => ⟨v, r, e, a.ext t, EntsAt.ext t b⟩
theorem EntsAt.len {K : PySem.W.Frag} {H : Hp} : ∀ {ps : List Pat} {vs : List V}, EntsAt K H ps vs → vs.length = ps.length
  | [], vs, h => by rw [show vs = [] from h]; rfl
  | p :: ps, vs, ⟨v, r, e, _, h⟩ => by rw [e, List.length_cons, List.length_cons, h.len]
theorem EntsAt.append {K : PySem.W.Frag} {H : Hp} : ∀ {ps qs : List Pat} {vs us : List V}, EntsAt K H ps vs → EntsAt K H qs us → EntsAt K H (ps ++ qs) (vs ++ us)
  | [], qs, vs, us, h, g => by rw [show vs = [] from h]; exact g
  | p :: ps, qs, vs, us, ⟨v, r, e, a, b⟩, g => by rw [e]; exact ⟨v, r ++ us, rfl, a, b.append g⟩
theorem EntsAt.one {K : PySem.W.Frag} {H : Hp} {p : Pat} {v : V} (h : EntAt K H p v) : EntsAt K H [p] [v] := ⟨v, [], rfl, h, rfl⟩
theorem EntsAt.get {K : PySem.W.Frag} {H : Hp} : ∀ {ps : List Pat} {vs : List V} {i : Nat} {v : V}, EntsAt K H ps vs → vs[i]? = some v → ∃ p, ps[i]? = some p ∧ EntAt K H p v
  | [], vs, i, v, h, e => by rw [show vs = [] from h] at e; cases e
  | p :: ps, vs, 0, v, ⟨u, r, h, a, b⟩, e => by
    rw [h] at e
    cases (Option.some.inj e : u = v)
    exact ⟨p, rfl, a⟩
  | p :: ps, vs, i + 1, v, ⟨u, r, h, a, b⟩, e => by
    rw [h] at e
    exact EntsAt.get (ps := ps) b e
theorem EntsAt.take {K : PySem.W.Frag} {H : Hp} : ∀ {ps : List Pat} {vs : List V} (k : Nat), EntsAt K H ps vs → EntsAt K H (ps.take k) (vs.take k)
  | [], vs, k, h => by rw [show vs = [] from h]; simp; rfl
  | p :: ps, vs, 0, h => rfl
  | p :: ps, vs, k + 1, ⟨v, r, e, a, b⟩ => by rw [e]; exact ⟨v, r.take k, rfl, a, b.take k⟩
theorem EntsAt.drop {K : PySem.W.Frag} {H : Hp} : ∀ {ps : List Pat} {vs : List V} (k : Nat), EntsAt K H ps vs → EntsAt K H (ps.drop k) (vs.drop k)
  | [], vs, k, h => by rw [show vs = [] from h]; simp; rfl
  | p :: ps, vs, 0, h => h
  | p :: ps, vs, k + 1, ⟨v, r, e, a, b⟩ => by rw [e]; exact b.drop k
theorem EntsAt.last {K : PySem.W.Frag} {H : Hp} : ∀ {ps : List Pat} {vs : List V}, EntsAt K H ps vs → vs ≠ [] → ∃ ps0 p vs0 v, ps = ps0 ++ [p] ∧ vs = vs0 ++ [v] ∧ EntsAt K H ps0 vs0 ∧ EntAt K H p v
  | [], vs, h, n => absurd h n
  | [p], vs, ⟨v, r, e, a, b⟩, _ => ⟨[], p, [], v, rfl, by rw [e, show r = [] from b]; rfl, rfl, a⟩
  | p :: q :: ps, vs, ⟨v, r, e, a, b⟩, _ => by
    have hr : r ≠ [] := fun e0 => by have := EntsAt.len b; rw [e0] at this; cases this
    obtain ⟨ps0, p', vs0, v', h1, h2, h3, h4⟩ := EntsAt.last b hr
    exact ⟨p :: ps0, p', v :: vs0, v', by rw [h1]; rfl, by rw [e, h2]; rfl, ⟨v, vs0, rfl, a, h3⟩, h4⟩
theorem psh_in {ks : List Str} {p : Pat} (h : p.kind ∈ ks) : psh ks p = [40] ++ shn p ++ [41] := by
  show (inB (brk ks p) (tw p)).flatMap Tok.cs = _
  rw [show brk ks p = true from decide_eq_true h]
  show (Tok.lp :: (tw p ++ [.rp])).flatMap Tok.cs = _
  rw [List.flatMap_cons, List.flatMap_append]; rfl
theorem psh_out {ks : List Str} {p : Pat} (h : p.kind ∉ ks) : psh ks p = shn p := by
  show (inB (brk ks p) (tw p)).flatMap Tok.cs = _
  rw [show brk ks p = false from decide_eq_false h]; rfl
theorem psh_congr {ks ls : List Str} (h : ∀ x, x ∈ ks ↔ x ∈ ls) (p : Pat) : psh ks p = psh ls p := by
  by_cases e : p.kind ∈ ks
  · rw [psh_in e, psh_in ((h _).mp e)]
  · rw [psh_out e, psh_out (fun g => e ((h _).mpr g))]
theorem shn_len (p : Pat) : (txt (shn p)).length ≤ 5 * p.size := by
  have h := tw_len p
  have hz : (txt (shn p)).length = lenT (tw p) := List.size_toArray
  omega
/-- ( and ) about a text -/
theorem in_brackets (p : Pat) {ks : List Str} (h : p.kind ∈ ks) : Str.ofString "(" ++ txt (shn p) ++ Str.ofString ")" = txt (psh ks p) := by
  rw [psh_in h]
  have h1 : Str.ofString "(" ++ txt (shn p) = txt ([40] ++ shn p) := txt_app [40] (shn p)
  have h2 : txt ([40] ++ shn p) ++ Str.ofString ")" = txt ([40] ++ shn p ++ [41]) := txt_app _ [41]
  rw [h1, h2]
theorem add_len (a b : Str) : (a ++ b).length = a.length + b.length := Array.size_append
def spAr (K : PySem.W.Frag) : Sp := fun vs H Q _ => ∃ (e : V) (p : Pat) (b : Addr) (ks : List Str), vs = [e, .ref b] ∧ EntAt K H p e ∧ H b = some (.lst (ks.map V.str)) ∧ p.size ≤ 60 ∧ Q (.str (txt (psh ks p))) H
def spJo (K : PySem.W.Frag) : Sp := fun vs H Q _ => ∃ (k : Str) (a : Addr) (es : List V) (ps : List Pat), vs = [.str k, .ref a] ∧ k ∈ (["row", "or", "and"] : List Str) ∧ H a = some (.lst es) ∧ EntsAt K H ps es ∧ ps ≠ [] ∧ sizeL ps ≤ 60 ∧ ∀ r H', Ext H H' → EntAt K H' (mkOf k ps) (.ref r) → Q (.ref r) H'
theorem mk_tw {k : Str} (m : k ∈ (["row", "or", "and"] : List Str)) (ps : List Pat) : tw (mkOf k ps) = twL (markOf k) (setOf k) ps := by
  simp only [List.mem_cons, List.not_mem_nil, or_false] at m
  rcases m with rfl | rfl | rfl <;> rfl
theorem mk_shn {k : Str} (m : k ∈ (["row", "or", "and"] : List Str)) {ps : List Pat} (n : ps ≠ []) : Txt.join (txt ((markOf k).flatMap Tok.cs)) (ps.map fun x => txt (psh (setOf k) x)) = txt (shn (mkOf k ps)) := by
  cases ps with
  | nil => exact absurd rfl n
  | cons p1 ps =>
    have h1 := join_txts ((markOf k).flatMap Tok.cs) (psh (setOf k) p1) (ps.map (psh (setOf k)))
    rw [List.map_cons, List.map_map] at h1
    rw [List.map_cons]
    refine h1.trans (congrArg txt ?_)
    show _ = (tw (mkOf k (p1 :: ps))).flatMap Tok.cs
    rw [mk_tw m, twL_cs]
section
variable {P : Program} {w : World} {K : PySem.W.Frag} {mg : Str → Option Value} {base : Heap}
theorem scAr : FnScope ["_law_entry", "_law_words"] ["_law_entry", "_law_words"] (defScope sLawAround) := ⟨rfl, rfl, rfl, by decide +kernel, rfl, by decide +kernel, by decide +kernel⟩
theorem ar_ok {f : Addr} {fd : FuncData} (F : FnP K "_law_around" sLawAround f fd) : FnOk P w K mg base CX0 1 f fd ["_law_entry", "_law_words"] (spAr K) := by
  refine okD F scAr (fun vs H Q E h => ?_) (fun cdv A outer s H vs Q E hr h => ?_)
  · obtain ⟨e, p, b, ks, rfl, _⟩ := h
    rfl
  obtain ⟨e, p, b, ks, rfl, ⟨a, v, rfl, ha, hp⟩, hb, hs, q⟩ := h
  refine ⟨_, (pss_cons (ps_if (pt_cmpR op_in_seq (pe_ix ix_tup (pe_ix ix_tup (pv 0) pe_int (fun _ _ => rfl)) pe_int (fun _ _ => rfl)) (pv 1) (by rfl)) (pss_one (ps_ret (pe_op op_add_str (pe_op op_add_str pe_str (pe_ix ix_tup (pv 0) pe_int (fun _ _ => rfl))) pe_str))) pss_nil) (pss_one (ps_ret (pe_ix ix_tup (pv 0) pe_int (fun _ _ => rfl))))), ?_⟩
  obtain ⟨av, xs, rfl, hav⟩ := hp.hd
  have hl := shn_len p
  refine t_seq (r_ixQ 0 rfl ha rfl ⟨av, _, 0, _, rfl, rfl, hav, atI_nat (j := 0) rfl, _, rfl, b, _, rfl, .inl (SqL.of hb), rfl, ?_, ?_⟩)
  · rw [List.all_map, List.all_eq_true]; intro z _; rfl
  rw [inV_str]
  refine ⟨_, rfl, ?_⟩
  by_cases hk : p.kind ∈ ks
  · refine iffT (decide_eq_true hk) (r_ixQ 1 rfl ha rfl ⟨_, _, rfl, rfl, Nat.le_trans (show 1 + (txt (shn p)).length ≤ 500 by omega) (by decide), _, _, rfl, rfl, ?_, ?_⟩)
    · rw [add_len]; exact Nat.le_trans (show (1 + (txt (shn p)).length) + 1 ≤ 500 by omega) (by decide)
    · rw [← in_brackets p hk] at q; exact q
  · refine iffF (decide_eq_false hk) (r_ixQ 1 rfl ha rfl ?_)
    rw [psh_out hk] at q; exact q
theorem scJo : FnScope ["_law_word", "_law_entries", "_law_words", "_law_texts", "_law_entry"] ["_law_word", "_law_entries"] (defScope sLawJoined) := ⟨rfl, rfl, rfl, by decide +kernel, rfl, by decide +kernel, by decide +kernel⟩
theorem jo_ok {f g : Addr} {fd gd : FuncData} (F : FnP K "_law_joined" sLawJoined f fd) (G : FnOk P w K mg base CX0 1 g gd ["_law_entry", "_law_words"] (spAr K)) (bG : Binds K gd ["_law_entry", "_law_words"] []) (kG : PySem.W.keepIn K (.ref g) = true) (mG : mg "_law_around" = some (.ref g)) (mt : mg "tuple" = none) :
    FnOk P w K mg base CX0 2 f fd ["_law_word", "_law_entries"] (spJo K) := by
  refine okD F scJo (fun vs H Q E h => ?_) (fun cdv A outer s H vs Q E hr h => ?_)
  · obtain ⟨k, a, es, ps, rfl, _⟩ := h
    rfl
  obtain ⟨k, a, es, ps, rfl, hk, ha, hes, hne, hs, q⟩ := h
  have hu := Nat.lt_of_le_of_lt (Nat.add_le_add_left (show 1 ≤ 64 by decide) _) hr.units
  refine ⟨_, (pss_cons (ps_set (i := 2) scJo.nd rfl (Or.inr rfl) (pe_dget hu (pe_disp (pps_cons pe_str (pe_lst (pa_cons pe_str (pa_cons pe_str (pa_cons pe_str pa_nil)))) (pps_cons pe_str (pe_lst (pa_cons pe_str pa_nil)) (pps_cons pe_str (pe_lst (pa_cons pe_str (pa_cons pe_str pa_nil))) pps_nil))) (by rfl) (by rfl) (fun z => by cases z) (by decide)) (pv 0) (fun _ _ => rfl))) (pss_cons (ps_setLc (i := 3) (own := [("_law_entry", 4)]) (g := gName 4) rfl scJo.nd rfl rfl (sw_true rfl rfl rfl (by decide +kernel)) (pi_list (pv 1))
      (blkOk_by (N := ["_law_word", "_law_entries", "_law_words", "_law_texts", "_law_entry"]) (sc := defScope sLawJoined) (by decide +kernel))
      (fun _ _ _ _ _ => pg_name (i := 4) scJo.nd rfl (Or.inl rfl) (Or.inr rfl)) (fun _ _ _ _ _ => pts_nil) (fun _ _ _ _ _ => pe_call G hr rfl mG kG bG .nil pass0 (pa_cons (pv 4) (pa_cons (pv 2) pa_nil)))) (pss_one (ps_ret (pe_tup (pa_cons (pe_tup (pa_cons (pv 0) (pa_cons (pe_tupleOf rfl mt (pe_lc (own := [("_law_entry", 4)]) (g := gName 4) (tt := tYes) (te := tOp (rIxT K) (tVar 4) (tC (.int 0))) rfl scJo.nd (pi_list (pv 1))
      (blkOk_by (N := ["_law_word", "_law_entries", "_law_words", "_law_texts", "_law_entry"]) (sc := defScope sLawJoined) (by decide +kernel)) (fun _ _ _ _ _ => pg_name (i := 4) scJo.nd rfl (Or.inl rfl) (Or.inr rfl)) (fun _ _ _ _ _ => pts_nil)
      (fun _ _ _ _ _ => pe_ix ix_tup (pv 4) pe_int (fun _ _ => rfl)))) pa_nil))) (pa_cons (pe_join (pe_dget hu (pe_disp (pps_cons pe_str pe_str (pps_cons pe_str pe_str (pps_cons pe_str pe_str pps_nil))) (by rfl) (by rfl) (fun z => by cases z) (by decide)) (pv 0) (fun _ _ => rfl)) (pv 3)) pa_nil))))))), ?_⟩
  have z2 : 2 ≤ sizeLine := by decide
  have hlen := hes.len
  have hle := len_le_sizeL ps
  refine t_set ?_
  intro p0 x0
  refine ⟨by show 3 ≤ sizeLine; decide, fun l1 x1 => ⟨by show 1 ≤ sizeLine; decide, fun l2 x2 => ⟨z2, fun l3 x3 => ?_⟩⟩⟩
  have e1 := Ext.new (o := .lst [V.str "row", .str "or", .str "and"]) x1
  have e2 := Ext.new (o := .lst [V.str "or"]) x2
  have e3 := Ext.new (o := .lst [V.str "or", .str "and"]) x3
  have e123 := e1.trans (e2.trans e3)
  have hp0 : upd (upd (upd (upd H p0 (.dK [])) l1 (.lst [V.str "row", .str "or", .str "and"])) l2 (.lst [V.str "or"])) l3 (.lst [V.str "or", .str "and"]) p0 = some (.dK []) := e123.keep _ _ upd_same (fun ps z => by cases z)
  refine ⟨hp0, [(.inr "row", .ref l1), (.inr "or", .ref l2), (.inr "and", .ref l3)], rfl, (by show 3 ≤ 15; decide), _, rfl, ?_⟩
  have e4 : Ext H (upd (upd (upd (upd (upd H p0 (.dK [])) l1 (.lst [V.str "row", .str "or", .str "and"])) l2 (.lst [V.str "or"])) l3 (.lst [V.str "or", .str "and"])) p0 (.dK (mergeK [] [(.inr "row", .ref l1), (.inr "or", .ref l2), (.inr "and", .ref l3)]))) := ((Ext.new x0).trans e123).wr x0
  have n1 : l1 ≠ p0 := fun e => by rw [e, upd_same] at x1; cases x1
  have n2 : l2 ≠ p0 := fun e => by rw [e, upd_ne n1.symm, upd_same] at x2; cases x2
  have n3 : l3 ≠ p0 := fun e => by rw [e, upd_ne n2.symm, upd_ne n1.symm, upd_same] at x3; cases x3
  obtain ⟨lk, ks, hv, hlk, hks⟩ : ∃ lk ks, valV (mergeK [] [((.inr "row" : Key), V.ref l1), (.inr "or", .ref l2), (.inr "and", .ref l3)]) (.inr k) = some (.ref lk) ∧ (upd (upd (upd (upd (upd H p0 (.dK [])) l1 (.lst [V.str "row", .str "or", .str "and"])) l2 (.lst [V.str "or"])) l3 (.lst [V.str "or", .str "and"])) p0 (.dK (mergeK [] [(.inr "row", .ref l1), (.inr "or", .ref l2), (.inr "and", .ref l3)]))) lk = some (.lst ((ks : List Str).map V.str)) ∧ ∀ x, x ∈ ks ↔ x ∈ setOf k := by
    have m := hk
    simp only [List.mem_cons, List.not_mem_nil, or_false] at m
    rcases m with rfl | rfl | rfl
    · exact ⟨l1, ["row", "or", "and"], rfl, by rw [upd_ne n1]; exact (e2.trans e3).lst upd_same, fun x => by show x ∈ (["row", "or", "and"] : List Str) ↔ x ∈ (["row", "and", "or"] : List Str); simp only [List.mem_cons, List.not_mem_nil, or_false]; constructor <;> (rintro (h | h | h) <;> simp [h])⟩
    · exact ⟨l2, ["or"], rfl, by rw [upd_ne n2]; exact e3.lst upd_same, fun x => Iff.rfl⟩
    · exact ⟨l3, ["or", "and"], rfl, by rw [upd_ne n3]; exact upd_same, fun x => by show x ∈ (["or", "and"] : List Str) ↔ x ∈ (["and", "or"] : List Str); simp only [List.mem_cons, List.not_mem_nil, or_false]; constructor <;> (rintro (h | h) <;> simp [h])⟩
  refine ⟨p0, .ref lk, rfl, by rw [← hv]; exact DGet.k (k := .inr k) upd_same, ?_⟩
  generalize upd (upd (upd (upd (upd H p0 (.dK [])) l1 (.lst [V.str "row", .str "or", .str "and"])) l2 (.lst [V.str "or"])) l3 (.lst [V.str "or", .str "and"])) p0 (.dK (mergeK [] [(.inr "row", .ref l1), (.inr "or", .ref l2), (.inr "and", .ref l3)])) = H4 at e4 hlk ⊢
  have ha4 := e4.lst ha
  have hes4 := hes.ext (e4.sqT (K := K))
  refine t_set ⟨_, rfl, a, rfl, ⟨_, SqL.of ha4⟩, fun D hD => ?_⟩
  refine lc_list (K := K) (a := a) (xs := es) (Built H4 D fun i => .str ((ps.map fun x => txt (psh ks x)).getD i (txt []))) (Built.zero hD) (fun i H' _ bu => SqL.of (bu.1.lst ha4)) ?_ ?_
  · intro i x H' hx bu
    refine ⟨rfl, ?_⟩
    obtain ⟨r, hr9, hrx⟩ := hes4.get hx
    have hm := List.mem_of_getElem? hr9
    have hrs := size_mem hm
    refine ⟨_, rfl, _, rfl, x, r, lk, ks, rfl, hrx.ext bu.1.sqT, bu.1.lst hlk, by omega, ?_⟩
    have hlt : i < ps.length := (List.getElem?_eq_some_iff.mp hr9).1
    refine bu.next hD (Ext.refl _) ?_ (Nat.lt_of_lt_of_le (show i < 500 by omega) (by decide))
    rw [List.getD_eq_getElem?_getD, List.getElem?_map, hr9]; rfl
  intro H5 bu
  have e3' : (List.range es.length).map (fun i => V.str ((ps.map fun x => txt (psh ks x)).getD i (txt []))) = (ps.map fun x => txt (psh (setOf k) x)).map V.str := by
    rw [hlen, List.map_map]
    refine List.ext_getElem? fun i => ?_
    rw [List.getElem?_map, List.getElem?_map]
    by_cases hi : i < ps.length
    · rw [List.getElem?_range hi, List.getElem?_eq_getElem hi]
      simp [List.getD, hi, psh_congr hks]
    · rw [List.getElem?_eq_none (by simpa using hi), List.getElem?_eq_none (by simpa using hi)]
      rfl
  have hD5 := bu.2
  rw [e3'] at hD5
  have e5 := e4.trans bu.1
  have ha5 := e5.lst ha
  have hes5 := hes.ext (e5.sqT (K := K))
  refine ⟨_, rfl, _, rfl, a, rfl, ⟨_, SqL.of ha5⟩, fun D2 hD2 => ?_⟩
  refine lc_list (K := K) (a := a) (xs := es) (fun i H' => Ext H5 H' ∧ ∃ ws, H' D2 = some (.lst ws) ∧ PatsQ K H' (ps.take i) ws ∧ i ≤ es.length) ⟨(Ext.refl _).wr hD2, [], upd_same, rfl, Nat.zero_le _⟩ (fun i H' _ b => SqL.of (b.1.lst ha5)) ?_ ?_
  · rintro i x H' hx ⟨e, ws, hw, pw, hi⟩
    obtain ⟨r, hr9, a9, v9, rfl, ha9, hp9⟩ := hes5.get hx
    have hlt : i < es.length := (List.getElem?_eq_some_iff.mp hx).1
    have hwl := pw.len
    rw [List.length_take] at hwl
    refine ⟨rfl, r_ixQ 0 rfl (e.sqT _ _ ha9) rfl ⟨ws, hw, Nat.lt_of_le_of_lt (show ws.length ≤ 500 by omega) (by decide), e.wr hD2, ws ++ [v9], upd_same, ?_, hlt⟩⟩
    have e8 : Ext H5 (upd H' D2 (.lst (ws ++ [v9]))) := e.wr hD2
    have u8 : Upd H' (upd H' D2 (.lst (ws ++ [v9]))) [D2] [D2] := Upd.wr (List.mem_singleton.mpr rfl) ⟨_, hw⟩
    have t8 : Tk K H' (upd H' D2 (.lst (ws ++ [v9]))) := u8.tk (fun x hx => by rw [List.mem_singleton.mp hx]; exact .inl ⟨_, hw⟩)
    rw [List.take_succ, hr9]
    exact (PatsQ.ext t8 _ _ pw).append (PatsQ.one (PatQ.ext e8.sqT _ _ hp9))
  rintro H6 ⟨e6, ws, hw, pw, _⟩
  rw [hlen, List.take_length] at pw
  refine .inl ⟨D2, ws, rfl, SqL.of hw, fun p7 x7 => ⟨z2, fun p8 x8 => ?_⟩⟩
  have e7 := Ext.new (o := .tup ws) x7
  have e8 := Ext.new (o := .tup [V.str k, .ref p7]) x8
  intro p9 x9
  refine ⟨upd_same, [(.inr "row", .str ""), (.inr "or", .str "|"), (.inr "and", .str "&")], rfl, by decide, _, rfl, ?_⟩
  have e9 : Ext (upd (upd H6 p7 (.tup ws)) p8 (.tup [.str k, .ref p7])) (upd (upd (upd (upd H6 p7 (.tup ws)) p8 (.tup [.str k, .ref p7])) p9 (.dK [])) p9 (.dK (mergeK [] [(.inr "row", .str ""), (.inr "or", .str "|"), (.inr "and", .str "&")]))) := (Ext.new x9).wr x9
  have hv9 : valV (mergeK [] [((.inr "row" : Key), V.str ""), (.inr "or", .str "|"), (.inr "and", .str "&")]) (.inr k) = some (.str (txt ((markOf k).flatMap Tok.cs))) := by
    have m := hk
    simp only [List.mem_cons, List.not_mem_nil, or_false] at m
    rcases m with rfl | rfl | rfl <;> rfl
  refine ⟨p9, .str _, rfl, by rw [← hv9]; exact DGet.k (k := .inr k) upd_same, ⟨_, rfl⟩, _, rfl, _, D, _, rfl, rfl, .inl (SqL.of ((e6.trans (e7.trans (e8.trans e9))).lst hD5)), ?_, z2, fun p10 x10 => ?_⟩
  · have h1 := sum_psh (setOf k) ps
    have h3 : (txt ((markOf k).flatMap Tok.cs)).length ≤ 1 := by
      show ((markOf k).flatMap Tok.cs).toArray.size ≤ 1
      rw [List.size_toArray]
      unfold markOf
      split
      · decide
      · split <;> decide
    rw [List.length_map]
    have h4 := Nat.mul_le_mul_left ps.length h3
    omega
  · have e10 := Ext.new (o := .tup [V.ref p8, .str (Txt.join (txt ((markOf k).flatMap Tok.cs)) (ps.map fun x => txt (psh (setOf k) x)))]) x10
    have et := e7.trans (e8.trans (e9.trans e10))
    refine q p10 _ (e5.trans (e6.trans et)) ⟨p10, .ref p8, rfl, ?_, mk_at hk (SqT.of ((e9.trans e10).tup upd_same)) (SqT.of ((e8.trans (e9.trans e10)).tup upd_same)) (PatsQ.ext et.sqT _ _ pw)⟩
    rw [← mk_shn hk hne]
    exact SqT.of upd_same
end
end Bo
set_option Elab.async false
set_option linter.all false
set_option maxRecDepth 100000
/-! a list beside the empty list -/
namespace GE
open PySem PySem.Spec PyProof.Rows L2
variable {X : Cx}
def rEqNil (K : PySem.W.Frag) : R2 := fun x y H Q => ∃ a b xs, x = .ref a ∧ y = .ref b ∧ SqL K H a xs ∧ SqL K H b [] ∧ Q (.bl xs.isEmpty) H
def rNeNil (K : PySem.W.Frag) : R2 := fun x y H Q => ∃ a b xs, x = .ref a ∧ y = .ref b ∧ SqL K H a xs ∧ SqL K H b [] ∧ Q (.bl (!xs.isEmpty)) H
theorem op_eqNil (hu : X.A.units + 64 < cLine) : OpR X (compareOp .Eq) (rEqNil X.K) := by
  intro pins s σ H x y v u Q I rx ry h
  obtain ⟨a, b, xs, rfl, rfl, hs, hb, q⟩ := h
  cases (show v = Value.ref a from rx)
  cases (show u = Value.ref b from ry)
  obtain ⟨us, r1, p1, _⟩ := I.list hs
  obtain ⟨ws, r2, p2, _⟩ := I.list hb
  have e2 : ws = [] := by cases r2; rfl
  subst e2
  cases xs with
  | nil =>
    have e1 : us = [] := by cases r1; rfl
    subst e1
    refine SeqAt.RcAt.lists (e := fun _ => true) p1.isList p2.isList rfl (by omega) (fun j h1 h2 => absurd h1 (by simp)) _ _ _ _ ?_
    exact ⟨.bl true, H, I, rfl, q⟩
  | cons x xs =>
    refine SeqAt.RcAt.lists_lengths p1.isList p2.isList ?_ (by omega) _ _ _ _ ⟨.bl false, H, I, rfl, q⟩
    have := r1.length
    simp only [List.size_toArray, ← this]
    simp
theorem op_neNil (hu : X.A.units + 64 < cLine) : OpR X (compareOp .NotEq) (rNeNil X.K) := by
  intro pins s σ H x y v u Q I rx ry h
  obtain ⟨a, b, xs, rfl, rfl, hs, hb, q⟩ := h
  cases (show v = Value.ref a from rx)
  cases (show u = Value.ref b from ry)
  obtain ⟨us, r1, p1, _⟩ := I.list hs
  obtain ⟨ws, r2, p2, _⟩ := I.list hb
  have e2 : ws = [] := by cases r2; rfl
  subst e2
  cases xs with
  | nil =>
    have e1 : us = [] := by cases r1; rfl
    subst e1
    refine SeqAt.RcNeAt.lists (e := fun _ => true) p1.isList p2.isList rfl (by omega) (fun j h1 h2 => absurd h1 (by simp)) _ _ _ _ ?_
    exact ⟨.bl false, H, I, rfl, q⟩
  | cons x xs =>
    refine SeqAt.RcNeAt.lists_lengths p1.isList p2.isList ?_ (by omega) _ _ _ _ ⟨.bl true, H, I, rfl, q⟩
    have := r1.length
    simp only [List.size_toArray, ← this]
    simp
end GE
set_option Elab.async false
set_option linter.all false
set_option maxRecDepth 100000
set_option maxHeartbeats 8000000
namespace Bo
open PySem PySem.Spec PyProof.Rows L2 GE
theorem cut_to {vs : List V} {k : Nat} (h : k ≤ vs.length) : cutV vs none (Option.some (k : Int)) = vs.take k := by
  unfold cutV
  rw [HT.sIx_none, HT.sIx_nat, Nat.min_eq_left h, List.drop_zero, Nat.sub_zero]
theorem cut_from {vs : List V} {k : Nat} (h : k ≤ vs.length) : cutV vs (Option.some (k : Int)) none = vs.drop k := by
  unfold cutV
  rw [HT.sIx_none, HT.sIx_nat, Nat.min_eq_left h]
  exact List.take_of_length_le (by rw [List.length_drop]; exact Nat.le_refl _)
theorem cut_last1 {vs : List V} {v : V} : cutV (vs ++ [v]) none (Option.some (-1)) = vs := by
  unfold cutV
  rw [HT.sIx_none, List.drop_zero]
  have e : HT.sIx (vs ++ [v]).length (vs ++ [v]).length (Option.some (-1)) = vs.length := by
    show (if (-1 : Int) < 0 then ((-1 : Int) + ((vs ++ [v]).length : Int)).toNat else min (-1 : Int).toNat (vs ++ [v]).length) = vs.length
    rw [if_pos (by decide), List.length_append, List.length_singleton]
    omega
  rw [e, Nat.sub_zero, List.take_left]
theorem good_len {L : Str} (h : goodS L = true) : 1 ≤ L.cps.size ∧ L.cps.size ≤ 4 := by
  unfold goodS at h
  simp only [Bool.and_eq_true, decide_eq_true_eq] at h
  exact ⟨h.1.1.1, h.1.1.2⟩
/-- if c: t, and what comes behind, where c is known -/
theorem seq_fall {c : TT} {t rest : TS} {D : Ends} {σ : L2.St} {H : Hp} {cond : Prop} (hc : ∀ Q : Bool → Hp → Prop, (cond → ∀ H1, Ext H H1 → Q true H1) → (¬ cond → ∀ H1, Ext H H1 → Q false H1) → c σ H Q)
    (ht : cond → ∀ H1, Ext H H1 → t { D with nx := rest D } σ H1) (hr : ¬ cond → ∀ H1, Ext H H1 → rest D σ H1) : tSeq (tIfS c t tNext) rest D σ H :=
  hc _ (fun k H1 e => iffT rfl (ht k H1 e)) (fun k H1 e => iffF rfl (hr k H1 e))
theorem call_min2m {X : Cx} (hc : X.calm = true) : CallR X (.builtin "min") (fun xs H Q => ∃ i j m, xs = [.int i, .int j] ∧ (if j < i then j else i) = m ∧ Q (.int m) H) := by
  intro pins s σ H xs us Q I r h
  obtain ⟨i, j, m, e, hm, q⟩ := h
  exact call_min2 hc pins s σ H xs us Q I r ⟨i, j, e, hm.symm ▸ q⟩
theorem EntsAt.cast {K : PySem.W.Frag} {H : Hp} {ps : List Pat} {vs us : List V} (e : vs = us) (h : EntsAt K H ps us) : EntsAt K H ps vs := e ▸ h
theorem mk_size (k : Str) (ps : List Pat) : (mkOf k ps).size = sizeL ps + 1 := by
  unfold mkOf
  split
  · rfl
  · split <;> rfl
theorem mk_ok {L k : Str} {ps : List Pat} (h2 : 2 ≤ ps.length) (h : okL L ps) : (mkOf k ps).ok L := by
  unfold mkOf
  split
  · exact ⟨h2, h⟩
  · split <;> exact ⟨h2, h⟩
theorem word3 {i : Int} (h : 0 ≤ i ∧ i < 3) : ∃ k : Str, atI [V.str "row", V.str "or", V.str "and"] i = some (.str k) ∧ k ∈ (["row", "or", "and"] : List Str) := by
  have : i = 0 ∨ i = 1 ∨ i = 2 := by omega
  rcases this with rfl | rfl | rfl
  · exact ⟨"row", rfl, by decide⟩
  · exact ⟨"or", rfl, by decide⟩
  · exact ⟨"and", rfl, by decide⟩
def spSt (K : PySem.W.Frag) : Sp := fun vs H Q _ => ∃ (L : Str) (a : Addr) (us : List V) (ps : List Pat) (z : Int), vs = [.str L, .ref a, .int z] ∧ goodS L = true ∧ H a = some (.lst us) ∧ EntsAt K H ps us ∧ okL L ps ∧ sizeL ps ≤ 49 ∧
  ∀ b ws qs H', Ext H H' → H' b = some (.lst ws) → EntsAt K H' qs ws → okL L qs → sizeL qs = sizeL ps + 1 → Q (.ref b) H'
section
variable {P : Program} {w : World} {K : PySem.W.Frag} {mg : Str → Option Value} {base : Heap}
theorem scSt : FnScope ["_law_letters_here", "_law_stack", "_law_cell", "_law_rest", "_law_kind", "_law_many", "_law_sign"] ["_law_letters_here", "_law_stack", "_law_cell"] (defScope sLawStep) := ⟨rfl, rfl, rfl, by decide +kernel, rfl, by decide +kernel, by decide +kernel⟩
theorem st_ok {f g1 g2 : Addr} {fd d1 d2 : FuncData} (F : FnP K "_law_step" sLawStep f fd) (G1 : FnOk P w K mg base CX0 2 g1 d1 ["_law_word", "_law_entries"] (spJo K)) (b1 : Binds K d1 ["_law_word", "_law_entries"] []) (k1 : PySem.W.keepIn K (.ref g1) = true) (m1 : mg "_law_joined" = some (.ref g1))
    (G2 : FnOk P w K mg base CX0 1 g2 d2 ["_law_entry", "_law_words"] (spAr K)) (b2 : Binds K d2 ["_law_entry", "_law_words"] []) (k2 : PySem.W.keepIn K (.ref g2) = true) (m2 : mg "_law_around" = some (.ref g2)) (ml : mg "len" = none) (mm : mg "min" = none) :
    FnOk P w K mg base CX0 3 f fd ["_law_letters_here", "_law_stack", "_law_cell"] (spSt K) := by
  refine okD F scSt (fun vs H Q E h => ?_) (fun cdv A outer s H vs Q E hr h => ?_)
  · obtain ⟨L, a, us, ps, z, rfl, _⟩ := h
    rfl
  obtain ⟨L, a, us, ps, z, rfl, hL, ha, hps, hok, hsz, q⟩ := h
  refine ⟨_, (pss_cons (ps_set (i := 3) scSt.nd rfl (Or.inl rfl) (pe_op op_fdiv (pv 2) pe_int)) (pss_cons (ps_set (i := 4) scSt.nd rfl (Or.inl rfl) (pe_op op_mod (pv 2) pe_int)) (pss_cons (ps_if (PW.pt (pw_and (pt_cmpR op_gt (pv 4) pe_int (nomark _)) (pw_and (pt_cmpR op_lt (pv 4) pe_int (nomark _)) (pw_and1 (pt_cmpR op_gt (pe_callB call_len rfl ml PySem.boot_len (pa_cons (pv 1) pa_nil)) pe_int (nomark _))))))
      (pss_cons (ps_set (i := 5) scSt.nd rfl (Or.inl rfl) (pe_callB (call_min2m rfl) rfl mm boot_min (pa_cons (pe_callB call_len rfl ml PySem.boot_len (pa_cons (pv 1) pa_nil)) (pa_cons (pe_op op_add pe_int (pe_op op_mod (pv 3) pe_int)) pa_nil)))) (pss_one (ps_ret (pe_op op_cat (pe_slice sl_list (pv 1) po_none (po_some (pe_op op_sub (pe_callB call_len rfl ml PySem.boot_len (pa_cons (pv 1) pa_nil)) (pv 5))))
        (pe_lst (pa_cons (pe_call G1 hr rfl m1 k1 b1 .nil pass0 (pa_cons (pe_ix ix_list (pe_lst (pa_cons pe_str (pa_cons pe_str (pa_cons pe_str pa_nil)))) (pe_op op_sub (pv 4) pe_int) (fun _ _ => rfl)) (pa_cons (pe_slice sl_list (pv 1) (po_some (pe_op op_sub (pe_callB call_len rfl ml PySem.boot_len (pa_cons (pv 1) pa_nil)) (pv 5))) po_none) pa_nil))) pa_nil)))))) pss_nil) (pss_cons (ps_if (PW.pt (pw_and (pt_cmpR op_eq (pv 4) pe_int (nomark _)) (pw_and1 (pt_cmpR (op_neNil hr.units) (pv 1) (pe_lst pa_nil) (by rfl)))))
      (pss_one (ps_ret (pe_op op_cat (pe_slice sl_list (pv 1) po_none (po_some (pe_un un_neg pe_int)))
        (pe_lst (pa_cons (pe_tup (pa_cons (pe_tup (pa_cons pe_str (pa_cons (pe_ix ix_tup (pe_ix ix_list (pv 1) (pe_un un_neg pe_int) (fun _ _ => rfl)) pe_int (fun _ _ => rfl)) pa_nil))) (pa_cons (pe_op op_add_str (pe_call G2 (hr.mono (by omega)) rfl m2 k2 b2 .nil pass0 (pa_cons (pe_ix ix_list (pv 1) (pe_un un_neg pe_int) (fun _ _ => rfl)) (pa_cons (pe_lst (pa_cons pe_str (pa_cons pe_str (pa_cons pe_str (pa_cons pe_str pa_nil))))) pa_nil))) pe_str) pa_nil))) pa_nil))))) pss_nil) (pss_cons (ps_if (PW.pt (pw_and (pt_cmpR op_gt (pv 4) pe_int (nomark _)) (pw_and1 (pt_cmpR (op_neNil hr.units) (pv 1) (pe_lst pa_nil) (by rfl)))))
      (pss_one (ps_ret (pe_op op_cat (pe_slice sl_list (pv 1) po_none (po_some (pe_un un_neg pe_int)))
        (pe_lst (pa_cons (pe_tup (pa_cons (pe_tup (pa_cons pe_str (pa_cons (pe_ix ix_tup (pe_ix ix_list (pv 1) (pe_un un_neg pe_int) (fun _ _ => rfl)) pe_int (fun _ _ => rfl)) pa_nil))) (pa_cons (pe_op op_add_str pe_str (pe_call G2 (hr.mono (by omega)) rfl m2 k2 b2 .nil pass0 (pa_cons (pe_ix ix_list (pv 1) (pe_un un_neg pe_int) (fun _ _ => rfl)) (pa_cons (pe_lst (pa_cons pe_str (pa_cons pe_str (pa_cons pe_str pa_nil)))) pa_nil)))) pa_nil))) pa_nil))))) pss_nil) (pss_cons (ps_if (pt_cmpR op_eq (pv 4) pe_int (nomark _))
      (pss_one (ps_ret (pe_op op_cat (pv 1) (pe_lst (pa_cons (pe_ix ix_list (pe_lst (pa_cons (pe_tup (pa_cons (pe_tup (pa_cons pe_str pa_nil)) (pa_cons pe_str pa_nil))) (pa_cons (pe_tup (pa_cons (pe_tup (pa_cons pe_str pa_nil)) (pa_cons pe_str pa_nil))) pa_nil))) (pe_op op_mod (pv 3) pe_int) (fun _ _ => rfl)) pa_nil))))) pss_nil) (pss_cons (ps_set (i := 6) scSt.nd rfl (Or.inl rfl) (pe_ix ix_str (pv 0) (pe_op op_mod (pv 3) (pe_callB call_len rfl ml PySem.boot_len (pa_cons (pv 0) pa_nil))) (fun _ _ => rfl))) (pss_one (ps_ret (pe_op op_cat (pv 1) (pe_lst (pa_cons (pe_tup (pa_cons (pe_tup (pa_cons pe_str (pa_cons (pv 6) pa_nil))) (pa_cons (pv 6) pa_nil))) pa_nil)))))))))))), ?_⟩
  have hlen := hps.len
  have hle := len_le_sizeL ps
  have z1 : 1 ≤ sizeLine := by decide
  have z2 : 2 ≤ sizeLine := by decide
  have z3 : 3 ≤ sizeLine := by decide
  have z4 : 4 ≤ sizeLine := by decide
  have sq : ∀ H', Ext H H' → SqL K H' a us := fun H' e => SqL.of (e.lst ha)
  have l9 : ∀ n : Nat, n ≤ 500 → n ≤ sizeLine := fun n h => Nat.le_trans h (by decide)
  have negOne : ∀ {σ : L2.St} {H' : Hp} {R : VK}, R (.int (-1)) H' → True := fun _ => trivial
  refine t_set ⟨_, rfl, _, _, rfl, rfl, show (0 : Int) < 11 ∧ (11 : Int) < 1073741824 by decide, ?_⟩
  refine t_set ⟨_, rfl, _, _, rfl, rfl, show (0 : Int) < 11 by decide, ?_⟩
  have hkd : 0 ≤ z % 11 ∧ z % 11 < 11 := by omega
  refine seq_fall (cond := 4 < z % 11 ∧ z % 11 < 8 ∧ 1 < us.length) (fun R qT qF => ?_) (fun ⟨k1', k2', k3⟩ H1 e1 => ?_) (fun n1 H1 e1 => seq_fall (cond := z % 11 = 8 ∧ us ≠ []) (fun R qT qF => ?_) (fun ⟨k1', k2'⟩ H2 e2 => ?_) (fun n2 H2 e2 => seq_fall (cond := 8 < z % 11 ∧ us ≠ []) (fun R qT qF => ?_) (fun ⟨k1', k2'⟩ H3 e3 => ?_) (fun n3 H3 e3 => seq_fall (cond := z % 11 = 4) (fun R qT qF => ?_) (fun k1' H4 e4 => ?_) (fun n4 H4 e4 => ?_))))
  · refine ⟨_, rfl, _, _, rfl, rfl, _, rfl, ?_⟩
    by_cases a1 : 4 < z % 11
    · refine iffT (decide_eq_true a1) ⟨_, rfl, _, _, rfl, rfl, _, rfl, ?_⟩
      by_cases a2 : z % 11 < 8
      · refine iffT (decide_eq_true a2) ⟨_, rfl, .ref a, _, rfl, .inl ⟨_, sq H (Ext.refl _), rfl⟩, _, _, rfl, rfl, _, rfl, ?_⟩
        by_cases a3 : 1 < us.length
        · rw [decide_eq_true (by omega)]; exact qT ⟨a1, a2, a3⟩ _ (Ext.refl _)
        · rw [decide_eq_false (by omega)]; exact qF (fun h => a3 h.2.2) _ (Ext.refl _)
      · exact iffF (decide_eq_false a2) (qF (fun h => a2 h.2.1) _ (Ext.refl _))
    · exact iffF (decide_eq_false a1) (qF (fun h => a1 h.1) _ (Ext.refl _))
  · obtain ⟨m, hm, m2', ml9⟩ : ∃ m : Nat, (if 2 + z / 11 % 3 < ((us.length : Nat) : Int) then 2 + z / 11 % 3 else ((us.length : Nat) : Int)) = (m : Int) ∧ 2 ≤ m ∧ m ≤ us.length := by
      refine ⟨(if 2 + z / 11 % 3 < ((us.length : Nat) : Int) then 2 + z / 11 % 3 else ((us.length : Nat) : Int)).toNat, ?_, ?_, ?_⟩ <;> split <;> omega
    refine t_set ⟨_, rfl, .ref a, _, rfl, .inl ⟨_, sq H1 e1, rfl⟩, _, rfl, _, _, rfl, rfl, show (0 : Int) < 3 by decide, _, _, rfl, rfl, _, _, _, rfl, hm, ?_⟩
    obtain ⟨k, hk, hkm⟩ := word3 (i := z % 11 - 5) (by omega)
    have em : ((us.length : Nat) : Int) - (m : Int) = ((us.length - m : Nat) : Int) := by omega
    refine ⟨_, rfl, _, rfl, .ref a, _, rfl, .inl ⟨_, sq H1 e1, rfl⟩, _, rfl, _, _, rfl, rfl, _, rfl, a, us, rfl, sq H1 e1, fun p1 x1 => ?_⟩
    have t1 := Ext.new (o := .lst (cutV us none (Option.some (((us.length : Nat) : Int) - (m : Int))))) x1
    have f1 := e1.trans t1
    refine ⟨z3, fun p2 x2 => ⟨_, rfl, _, _, rfl, rfl, p2, _, _, _, rfl, rfl, SqL.of upd_same, hk, ?_⟩⟩
    have t2 := Ext.new (o := .lst [V.str "row", V.str "or", V.str "and"]) x2
    have f2 := f1.trans t2
    refine ⟨_, rfl, _, rfl, .ref a, _, rfl, .inl ⟨_, sq _ f2, rfl⟩, _, rfl, _, _, rfl, rfl, _, rfl, a, us, rfl, sq _ f2, fun p3 x3 => ?_⟩
    have t3 := Ext.new (o := .lst (cutV us (Option.some (((us.length : Nat) : Int) - (m : Int))) none)) x3
    have f3 := f2.trans t3
    have c1 : cutV us none (Option.some (((us.length : Nat) : Int) - (m : Int))) = us.take (us.length - m) := by rw [em]; exact cut_to (by omega)
    have c2 : cutV us (Option.some (((us.length : Nat) : Int) - (m : Int))) none = us.drop (us.length - m) := by rw [em]; exact cut_from (by omega)
    have e9 := sizeL_append (ps.take (us.length - m)) (ps.drop (us.length - m))
    rw [List.take_append_drop] at e9
    have o9 := okL_append.mp (show okL L (ps.take (us.length - m) ++ ps.drop (us.length - m)) by rw [List.take_append_drop]; exact hok)
    have hdl : (ps.drop (us.length - m)).length = m := by rw [List.length_drop]; omega
    refine ⟨k, p3, us.drop (us.length - m), ps.drop (us.length - m), rfl, hkm, by rw [upd_same, c2], (hps.ext f3.sqT).drop _, (fun e0 => by rw [e0] at hdl; simp at hdl; omega), by omega, fun r H5 e5 hr5 => ⟨z1, fun p6 x6 => ?_⟩⟩
    have t6 := Ext.new (o := .lst [V.ref r]) x6
    refine ⟨p1, p6, _, _, rfl, rfl, (t2.trans (t3.trans (e5.trans t6))).lst upd_same, upd_same, ?_, fun p7 x7 => ?_⟩
    · rw [c1, List.length_take]; exact l9 _ (by rw [List.length_singleton]; omega)
    have t7 := Ext.new (o := .lst (cutV us none (Option.some (((us.length : Nat) : Int) - (m : Int))) ++ [.ref r])) x7
    have f7 := f3.trans (e5.trans (t6.trans t7))
    refine q p7 _ (ps.take (us.length - m) ++ [mkOf k (ps.drop (us.length - m))]) _ f7 upd_same ?_ ?_ ?_
    · exact EntsAt.cast (congrArg (· ++ [V.ref r]) c1) (((hps.ext f7.sqT).take _).append (EntsAt.one (hr5.ext (t6.trans t7).sqT)))
    · exact okL_append.mpr ⟨o9.1, mk_ok (by omega) o9.2, trivial⟩
    · rw [sizeL_append, sizeL_one, mk_size]; omega
  · refine ⟨_, rfl, rfl, _, rfl, ?_⟩
    rw [dec_int]
    by_cases a1 : z % 11 = 8
    · rw [show (z % 11 == 8) = true from beq_iff_eq.mpr a1]
      refine iffT rfl ⟨_, rfl, Nat.zero_le _, fun p x => ⟨a, p, us, rfl, rfl, sq _ (e1.trans (Ext.new x)), SqL.of upd_same, _, rfl, ?_⟩⟩
      cases us with
      | nil => exact qF (fun h => h.2 rfl) _ (Ext.new x)
      | cons y ys => exact qT ⟨a1, by simp⟩ _ (Ext.new x)
    · rw [show (z % 11 == 8) = false from beq_eq_false_iff_ne.mpr a1]
      exact iffF rfl (qF (fun h => a1 h.1) _ (Ext.refl _))
  · have f0 := e1.trans e2
    obtain ⟨ps0, p, vs0, v, rfl, rfl, hps0, hpv⟩ := hps.last k2'
    obtain ⟨ok0, okp, _⟩ := okL_append.mp hok
    rw [sizeL_append, sizeL_one] at hsz
    refine ⟨_, rfl, _, rfl, _, rfl, a, _, rfl, sq _ f0, fun p1 x1 => ?_⟩
    have t1 := Ext.new (o := .lst (cutV (vs0 ++ [v]) none (Option.some (-1)))) x1
    have f1 := f0.trans t1
    obtain ⟨av, pv_, rfl, hav, hpp⟩ := hpv.ext (f1.sqT (K := K))
    refine ⟨_, rfl, _, rfl, a, _, _, _, rfl, rfl, sq _ f1, atI_last _ _, av, _, 0, _, rfl, rfl, hav, atI_nat (j := 0) rfl, z2, fun p2 x2 => ?_⟩
    have t2 := Ext.new (o := .tup [V.str "many", pv_]) x2
    have f2 := f1.trans t2
    refine ⟨_, rfl, _, rfl, a, _, _, _, rfl, rfl, sq _ f2, atI_last _ _, z4, fun p3 x3 => ?_⟩
    have t3 := Ext.new (o := .lst [V.str "row", .str "or", .str "and", .str "not"]) x3
    have f3 := f2.trans t3
    refine ⟨_, p, p3, ["row", "or", "and", "not"], rfl, hpv.ext f3.sqT, upd_same, by omega, _, _, rfl, rfl, ?_, z2, fun p4 x4 => ⟨z1, fun p5 x5 => ?_⟩⟩
    · have h1 := psh_len ["row", "or", "and", "not"] p
      have h2 : (txt (psh ["row", "or", "and", "not"] p)).length = (psh ["row", "or", "and", "not"] p).length := List.size_toArray
      exact Nat.le_trans (show (txt (psh ["row", "or", "and", "not"] p)).length + 1 ≤ 500 by omega) (by decide)
    have t4 := Ext.new (o := .tup [V.ref p2, .str (txt (psh ["row", "or", "and", "not"] p) ++ Str.ofString "*")]) x4
    have t5 := Ext.new (o := .lst [V.ref p4]) x5
    refine ⟨p1, p5, _, _, rfl, rfl, (t2.trans (t3.trans (t4.trans t5))).lst upd_same, upd_same, ?_, fun p7 x7 => ?_⟩
    · rw [cut_last1]; rw [List.length_append] at hlen; exact l9 _ (by rw [List.length_singleton] at hlen ⊢; rw [List.length_append] at hlen; rw [sizeL_append] at hle; have := len_le_sizeL ps0; simp at hlen; have := hps0.len; omega)
    have t7 := Ext.new (o := .lst (cutV (vs0 ++ [V.ref av]) none (Option.some (-1)) ++ [V.ref p4])) x7
    have f7 := f3.trans (t4.trans (t5.trans t7))
    have e : txt (psh ["row", "or", "and", "not"] p) ++ Str.ofString "*" = txt (shn (.many p)) := by
      rw [psh_congr (ks := ["row", "or", "and", "not"]) (ls := K4) (fun x => by simp only [List.mem_cons, List.not_mem_nil, or_false]; constructor <;> (rintro (h | h | h | h) <;> simp [h])) p, show Str.ofString "*" = txt [42] from rfl, txt_app]
      refine congrArg txt ?_
      show _ = (inB (brk K4 p) (tw p) ++ [Tok.star]).flatMap Tok.cs
      rw [List.flatMap_append]; rfl
    refine q p7 _ (ps0 ++ [.many p]) _ f7 upd_same ?_ (okL_append.mpr ⟨ok0, okp, trivial⟩) ?_
    · refine EntsAt.cast (congrArg (· ++ [V.ref p4]) cut_last1) ((hps0.ext f7.sqT).append (EntsAt.one ⟨p4, .ref p2, rfl, ?_, p2, pv_, rfl, SqT.of ((t3.trans (t4.trans (t5.trans t7))).tup upd_same), PatQ.ext (t2.trans (t3.trans (t4.trans (t5.trans t7)))).sqT _ _ hpp⟩))
      rw [← e]
      exact SqT.of ((t5.trans t7).tup upd_same)
    · rw [sizeL_append, sizeL_one, sizeL_append, sizeL_one]; show _ + (p.size + 1) = _; omega
  · refine ⟨_, rfl, _, _, rfl, rfl, _, rfl, ?_⟩
    by_cases a1 : 8 < z % 11
    · refine iffT (decide_eq_true a1) ⟨_, rfl, Nat.zero_le _, fun p x => ⟨a, p, us, rfl, rfl, sq _ ((e1.trans e2).trans (Ext.new x)), SqL.of upd_same, _, rfl, ?_⟩⟩
      cases us with
      | nil => exact qF (fun h => h.2 rfl) _ (Ext.new x)
      | cons y ys => exact qT ⟨a1, by simp⟩ _ (Ext.new x)
    · exact iffF (decide_eq_false a1) (qF (fun h => a1 h.1) _ (Ext.refl _))
  · have f0 := (e1.trans e2).trans e3
    obtain ⟨ps0, p, vs0, v, rfl, rfl, hps0, hpv⟩ := hps.last k2'
    obtain ⟨ok0, okp, _⟩ := okL_append.mp hok
    rw [sizeL_append, sizeL_one] at hsz
    refine ⟨_, rfl, _, rfl, _, rfl, a, _, rfl, sq _ f0, fun p1 x1 => ?_⟩
    have t1 := Ext.new (o := .lst (cutV (vs0 ++ [v]) none (Option.some (-1)))) x1
    have f1 := f0.trans t1
    obtain ⟨av, pv_, rfl, hav, hpp⟩ := hpv.ext (f1.sqT (K := K))
    refine ⟨_, rfl, _, rfl, a, _, _, _, rfl, rfl, sq _ f1, atI_last _ _, av, _, 0, _, rfl, rfl, hav, atI_nat (j := 0) rfl, z2, fun p2 x2 => ?_⟩
    have t2 := Ext.new (o := .tup [V.str "not", pv_]) x2
    have f2 := f1.trans t2
    refine ⟨_, rfl, _, rfl, a, _, _, _, rfl, rfl, sq _ f2, atI_last _ _, z3, fun p3 x3 => ?_⟩
    have t3 := Ext.new (o := .lst [V.str "row", .str "or", .str "and"]) x3
    have f3 := f2.trans t3
    refine ⟨_, p, p3, ["row", "or", "and"], rfl, hpv.ext f3.sqT, upd_same, by omega, _, _, rfl, rfl, ?_, z2, fun p4 x4 => ⟨z1, fun p5 x5 => ?_⟩⟩
    · have h1 := psh_len ["row", "or", "and"] p
      have h2 : (txt (psh ["row", "or", "and"] p)).length = (psh ["row", "or", "and"] p).length := List.size_toArray
      exact Nat.le_trans (show 1 + (txt (psh ["row", "or", "and"] p)).length ≤ 500 by omega) (by decide)
    have t4 := Ext.new (o := .tup [V.ref p2, .str (Str.ofString "!" ++ txt (psh ["row", "or", "and"] p))]) x4
    have t5 := Ext.new (o := .lst [V.ref p4]) x5
    refine ⟨p1, p5, _, _, rfl, rfl, (t2.trans (t3.trans (t4.trans t5))).lst upd_same, upd_same, ?_, fun p7 x7 => ?_⟩
    · rw [cut_last1]; exact l9 _ (by rw [List.length_singleton]; have := len_le_sizeL ps0; have := hps0.len; omega)
    have t7 := Ext.new (o := .lst (cutV (vs0 ++ [V.ref av]) none (Option.some (-1)) ++ [V.ref p4])) x7
    have f7 := f3.trans (t4.trans (t5.trans t7))
    have e : Str.ofString "!" ++ txt (psh ["row", "or", "and"] p) = txt (shn (.not p)) := by
      rw [psh_congr (ks := ["row", "or", "and"]) (ls := K3) (fun x => by simp only [List.mem_cons, List.not_mem_nil, or_false]; constructor <;> (rintro (h | h | h) <;> simp [h])) p, show Str.ofString "!" = txt [33] from rfl, txt_app]
      rfl
    refine q p7 _ (ps0 ++ [.not p]) _ f7 upd_same ?_ (okL_append.mpr ⟨ok0, okp, trivial⟩) ?_
    · refine EntsAt.cast (congrArg (· ++ [V.ref p4]) cut_last1) ((hps0.ext f7.sqT).append (EntsAt.one ⟨p4, .ref p2, rfl, ?_, p2, pv_, rfl, SqT.of ((t3.trans (t4.trans (t5.trans t7))).tup upd_same), PatQ.ext (t2.trans (t3.trans (t4.trans (t5.trans t7)))).sqT _ _ hpp⟩))
      rw [← e]
      exact SqT.of ((t5.trans t7).tup upd_same)
    · rw [sizeL_append, sizeL_one, sizeL_append, sizeL_one]; show _ + (p.size + 1) = _; omega
  · refine ⟨_, rfl, rfl, _, rfl, ?_⟩
    rw [dec_int]
    by_cases a1 : z % 11 = 4
    · rw [show (z % 11 == 4) = true from beq_iff_eq.mpr a1]; exact qT a1 _ (Ext.refl _)
    · rw [show (z % 11 == 4) = false from beq_eq_false_iff_ne.mpr a1]; exact qF a1 _ (Ext.refl _)
  · have f0 := ((e1.trans e2).trans e3).trans e4
    refine ⟨_, rfl, z1, fun p1 x1 => ⟨z2, fun p2 x2 => ⟨z1, fun p3 x3 => ⟨z2, fun p4 x4 => ⟨z2, fun p5 x5 => ?_⟩⟩⟩⟩⟩
    have t1 := Ext.new (o := .tup [V.str "empty"]) x1
    have t2 := Ext.new (o := .tup [V.ref p1, .str "()"]) x2
    have t3 := Ext.new (o := .tup [V.str "none"]) x3
    have t4 := Ext.new (o := .tup [V.ref p3, .str "[]"]) x4
    have t5 := Ext.new (o := .lst [V.ref p2, .ref p4]) x5
    obtain ⟨y, r, hy, hr9, hs1, ho1⟩ : ∃ (y : V) (r : Pat), atI [V.ref p2, V.ref p4] (z / 11 % 2) = Option.some y ∧ EntAt K _ r y ∧ r.size = 1 ∧ r.ok L := by
      have : z / 11 % 2 = 0 ∨ z / 11 % 2 = 1 := by omega
      rcases this with h | h <;> rw [h]
      · exact ⟨.ref p2, .empty, rfl, ⟨p2, .ref p1, rfl, SqT.of ((t3.trans (t4.trans t5)).tup upd_same), p1, rfl, SqT.of ((t2.trans (t3.trans (t4.trans t5))).tup upd_same)⟩, rfl, trivial⟩
      · exact ⟨.ref p4, .none, rfl, ⟨p4, .ref p3, rfl, SqT.of (t5.tup upd_same), p3, rfl, SqT.of ((t4.trans t5).tup upd_same)⟩, rfl, trivial⟩
    refine ⟨_, rfl, _, _, rfl, rfl, show (0 : Int) < 2 by decide, p5, _, _, y, rfl, rfl, SqL.of upd_same, hy, z1, fun p6 x6 => ?_⟩
    have t6 := Ext.new (o := .lst [y]) x6
    have f6 := (((((f0.trans t1).trans t2).trans t3).trans t4).trans t5).trans t6
    refine ⟨a, p6, _, _, rfl, rfl, f6.lst ha, upd_same, l9 _ (by rw [List.length_singleton]; omega), fun p7 x7 => ?_⟩
    have t7 := Ext.new (o := .lst (us ++ [y])) x7
    refine q p7 _ (ps ++ [r]) _ (f6.trans t7) upd_same ((hps.ext (f6.trans t7).sqT).append (EntsAt.one (hr9.ext (t6.trans t7).sqT))) (okL_append.mpr ⟨hok, ho1, trivial⟩) ?_
    rw [sizeL_append, sizeL_one, hs1]
  · have f0 := ((e1.trans e2).trans e3).trans e4
    obtain ⟨hL1, hL4⟩ := good_len hL
    have hcl : (cds L).length = L.cps.size := Array.length_toList
    have hm : 0 ≤ z / 11 % ((L.length : Nat) : Int) ∧ z / 11 % ((L.length : Nat) : Int) < ((L.length : Nat) : Int) := by
      have h0 : (0 : Int) < ((L.length : Nat) : Int) := by show (0 : Int) < ((L.cps.size : Nat) : Int); omega
      exact ⟨Int.emod_nonneg _ (by omega), Int.emod_lt_of_pos _ h0⟩
    obtain ⟨j, hj⟩ : ∃ j : Nat, z / 11 % ((L.length : Nat) : Int) = (j : Int) := ⟨_, (Int.toNat_of_nonneg hm.1).symm⟩
    have hjl : j < (cds L).length := by
      have := hm.2
      rw [hj] at this
      rw [hcl]
      show j < L.length
      omega
    have hlL : L.length ≤ sizeLine := Nat.le_trans hL4 (by decide)
    refine t_set ⟨_, rfl, _, rfl, _, rfl, .str L, _, rfl, ⟨hlL, rfl⟩, _, _, rfl, rfl, ?_, L, _, (cds L)[j], rfl, rfl, hlL, ?_, ?_⟩
    · show (0 : Int) < ((L.length : Nat) : Int)
      show (0 : Int) < ((L.cps.size : Nat) : Int)
      omega
    · rw [hj]; exact atI_nat (List.getElem?_eq_getElem hjl)
    refine ⟨_, rfl, _, rfl, z2, fun p1 x1 => ⟨_, rfl, z2, fun p2 x2 => ⟨z1, fun p3 x3 => ?_⟩⟩⟩
    have t1 := Ext.new (o := .tup [V.str "sign", .str ⟨#[(cds L)[j]]⟩]) x1
    have t2 := Ext.new (o := .tup [V.ref p1, .str ⟨#[(cds L)[j]]⟩]) x2
    have t3 := Ext.new (o := .lst [V.ref p2]) x3
    have f3 := ((f0.trans t1).trans t2).trans t3
    refine ⟨a, p3, _, _, rfl, rfl, f3.lst ha, upd_same, l9 _ (by rw [List.length_singleton]; omega), fun p4 x4 => ?_⟩
    have t4 := Ext.new (o := .lst (us ++ [V.ref p2])) x4
    have hjm : (cds L)[j] ∈ cds L := List.getElem_mem hjl
    refine q p4 _ (ps ++ [.sign (cds L)[j]]) _ (f3.trans t4) upd_same ((hps.ext (f3.trans t4).sqT).append (EntsAt.one (p := Pat.sign (cds L)[j]) ⟨p2, .ref p1, rfl, SqT.of ((t3.trans t4).tup upd_same), p1, rfl, SqT.of ((t2.trans (t3.trans t4)).tup upd_same)⟩)) (okL_append.mpr ⟨hok, (show Pat.ok L (.sign (cds L)[j]) from hjm), trivial⟩) ?_
    rw [sizeL_append, sizeL_one]
    rfl
end
end Bo
set_option Elab.async false
set_option linter.all false
set_option maxRecDepth 100000
set_option maxHeartbeats 8000000
namespace Bo
open PySem PySem.Spec PyProof.Rows L2 GE
theorem passF {X : Cx} : Passes (L2N.CX X.prog X.w) X (fun _ _ _ => False) := fun _ _ _ _ _ _ _ ⟨_, _, _, _, _, _, _, _, _, _, _, _, h⟩ => h.elim
def spLw (K : PySem.W.Frag) (T : Addr) : Sp := fun vs H Q _ => ∃ (a : Addr) (ns : List Int), vs = [.ref a] ∧ ns.length ≤ 63 ∧ SqL K H a (ns.map V.int) ∧ GxR.TabG H T ∧ ∀ H', Q (.bl true) H'
theorem seq_fallP2 {c : TT} {t rest : TS} {D : Ends} {σ : L2.St} {H : Hp} {cond : Prop} (Pr : L2.St → Hp → Prop) (hc : ∀ Q : Bool → Hp → Prop, (cond → ∀ H1, Ext H H1 → Q true H1) → (¬ cond → ∀ H1, Ext H H1 → Q false H1) → c σ H Q)
    (h0 : ¬ cond → ∀ H1, Ext H H1 → Pr σ H1) (ht : cond → ∀ H1, Ext H H1 → ∀ nx : L2.St → Hp → Prop, (∀ σ' H', Pr σ' H' → nx σ' H') → t { D with nx := nx } σ H1) (hr : ∀ σ' H', Pr σ' H' → rest D σ' H') : tSeq (tIfS c t tNext) rest D σ H :=
  hc _ (fun k H1 e => iffT rfl (ht k H1 e _ hr)) (fun k H1 e => iffF rfl (hr _ _ (h0 k H1 e)))
theorem reads_tw {L : Str} {p : Pat} (h : p.ok L) : Reads1 (tw p) p := (rd5 p h).w []
section
variable {P : Program} {w : World} {K : PySem.W.Frag} {mg : Str → Option Value} {base : Heap}
theorem scLw : FnScope ["_law_script", "_law_letters_here", "_law_stack", "_law_cell", "_law_later", "_law_entry", "_law_turn", "_law_text"] ["_law_script"] (defScope sLaw) := ⟨rfl, rfl, rfl, by decide +kernel, rfl, by decide +kernel, by decide +kernel⟩
theorem law_ok {f gca glt gst gls gjo gsh grd : Addr} {fd dca dlt dst dls djo dsh drd : FuncData} {T : Addr} (F : FnP K "law" sLaw f fd)
    (Gca : FnOk P w K mg base CX0 1 gca dca ["_law_script", "_law_k"] (spCA K)) (bca : Binds K dca ["_law_script", "_law_k"] []) (kca : PySem.W.keepIn K (.ref gca) = true) (mca : mg "_law_cell_at" = Option.some (.ref gca))
    (Glt : FnOk P w K mg base CX0 1 glt dlt ["_law_cell"] spLt) (blt : Binds K dlt ["_law_cell"] []) (klt : PySem.W.keepIn K (.ref glt) = true) (mlt : mg "_law_letters" = Option.some (.ref glt))
    (Gst : FnOk P w K mg base CX0 3 gst dst ["_law_letters_here", "_law_stack", "_law_cell"] (spSt K)) (bst : Binds K dst ["_law_letters_here", "_law_stack", "_law_cell"] []) (kst : PySem.W.keepIn K (.ref gst) = true) (mst : mg "_law_step" = Option.some (.ref gst))
    (Gls : FnOk P w K mg base CX0 60 gls dls ["_law_pattern"] (spLS K 60)) (bls : Binds K dls ["_law_pattern"] []) (kls : PySem.W.keepIn K (.ref gls) = true) (mls : mg "_law_size" = Option.some (.ref gls))
    (Gjo : FnOk P w K mg base CX0 2 gjo djo ["_law_word", "_law_entries"] (spJo K)) (bjo : Binds K djo ["_law_word", "_law_entries"] []) (kjo : PySem.W.keepIn K (.ref gjo) = true) (mjo : mg "_law_joined" = Option.some (.ref gjo))
    (Gsh : FnOk P w K mg base CX0 100 gsh dsh ["pattern"] (spSh K 50)) (bsh : Binds K dsh ["pattern"] []) (ksh : PySem.W.keepIn K (.ref gsh) = true) (msh : mg "shown" = Option.some (.ref gsh))
    (Grd : FnOk P w K mg base (L2N.CX P w) 7 grd drd ["letters", "text"] (spRd K T)) (brd : Binds K drd ["letters", "text"] []) (krd : PySem.W.keepIn K (.ref grd) = true) (mrd : mg "read" = Option.some (.ref grd))
    (ml : mg "len" = none) (mi : mg "isinstance" = none) (ms : mg "str" = none) (msum : mg "sum" = none) (mr : mg "range" = none) : FnOk P w K mg base CX0 101 f fd ["_law_script"] (spLw K T) := by
  refine okD F scLw (fun vs H Q E h => ?_) (fun cdv A outer s H vs Q E hr h => ?_)
  · obtain ⟨a, ns, rfl, _⟩ := h
    rfl
  obtain ⟨a, ns, rfl, hns, hS, hT, q⟩ := h
  have r1 : Room 1 _ := hr.mono (show 1 ≤ 100 by decide)
  have r2 : Room 2 _ := hr.mono (show 2 ≤ 100 by decide)
  have r3 : Room 3 _ := hr.mono (show 3 ≤ 100 by decide)
  have r7 : Room 7 _ := hr.mono (show 7 ≤ 100 by decide)
  have r60 : Room 60 _ := hr.mono (show 60 ≤ 100 by decide)
  have hu := Nat.lt_of_le_of_lt (Nat.add_le_add_right (Nat.le_add_right _ (16 * 100)) 200) hr.un
  refine ⟨_, (pss_cons (ps_set (i := 1) scLw.nd rfl (Or.inl rfl) (pe_call Glt r1 rfl mlt klt blt .nil pass0 (pa_cons (pe_call Gca r1 rfl mca kca bca .nil pass0 (pa_cons (pv 0) (pa_cons pe_int pa_nil))) pa_nil))) (pss_cons (ps_set (i := 2) scLw.nd rfl (Or.inl rfl) (pe_lst (pa_cons (pe_tup (pa_cons (pe_tup (pa_cons pe_str pa_nil)) (pa_cons pe_str pa_nil))) pa_nil))) (pss_cons (ps_for PassesOwn.never rfl (pi_list (pe_slice sl_list (pv 0) (po_some pe_int) (po_some pe_int))) (pg_name (i := 3) scLw.nd rfl (Or.inl rfl))
      (pss_cons (ps_set (i := 4) scLw.nd rfl (Or.inl rfl) (pe_call Gst r3 rfl mst kst bst .nil pass0 (pa_cons (pv 1) (pa_cons (pv 2) (pa_cons (pv 3) pa_nil))))) (pss_one (ps_if (pt_cmpR op_lt (pe_callB (cr_sum rfl) rfl msum boot_sum (pa_cons (pe_lc (own := [("_law_entry", 5)]) (g := gName 5) (tt := tYes) (te := tCall (spLS K 60) [] E0 (tCons (tOp (rIxT K) (tVar 5) (tC (.int 0))) tNil)) rfl scLw.nd (pi_list (pv 4))
        (blkOk_by (N := ["_law_script", "_law_letters_here", "_law_stack", "_law_cell", "_law_later", "_law_entry", "_law_turn", "_law_text"]) (sc := defScope sLaw) (by decide +kernel))
        (fun _ _ _ _ _ => pg_name (i := 5) scLw.nd rfl (Or.inl rfl) (Or.inr rfl)) (fun _ _ _ _ _ => pts_nil)
        (fun _ _ _ _ _ => pe_call Gls r60 rfl mls kls bls .nil pass0 (pa_cons (pe_ix ix_tup (pv 5) pe_int (fun _ _ => rfl)) pa_nil))) pa_nil)) pe_int (nomark _)) (pss_one (ps_set (i := 2) scLw.nd rfl (Or.inl rfl) (pv 4))) pss_nil)))) (pss_cons (ps_set (i := 5) scLw.nd rfl (Or.inl rfl) (pe_ix ix_list (pv 2) (pe_un un_neg pe_int) (fun _ _ => rfl))) (pss_cons (ps_if (pt_cmpR op_gt (pe_callB call_len rfl ml PySem.boot_len (pa_cons (pv 2) pa_nil)) pe_int (nomark _)) (pss_one (ps_set (i := 5) scLw.nd rfl (Or.inl rfl) (pe_call Gjo r2 rfl mjo kjo bjo .nil pass0 (pa_cons (pe_ix ix_list (pe_lst (pa_cons pe_str (pa_cons pe_str (pa_cons pe_str pa_nil)))) (pe_op op_mod (pe_op op_fdiv (pe_call Gca r1 rfl mca kca bca .nil pass0 (pa_cons (pv 0) (pa_cons pe_int pa_nil))) pe_int) pe_int) (fun _ _ => rfl)) (pa_cons (pv 2) pa_nil))))) pss_nil) (pss_cons (ps_for PassesOwn.never rfl (pi_range1 rfl mr (pa_cons pe_int pa_nil)) (pg_name (i := 6) scLw.nd rfl (Or.inl rfl))
      (pss_cons (ps_set (i := 7) scLw.nd rfl (Or.inl rfl) (pe_call Gsh hr rfl msh ksh bsh .nil pass0 (pa_cons (pe_ix ix_tup (pv 5) pe_int (fun _ _ => rfl)) pa_nil))) (pss_one (ps_if (PW.pt (pw_or (pt_not (pt_val (pe_callB call_isi rfl mi (by decide +kernel) (pa_cons (pv 7) (pa_cons (pe_bltn (v := .ty "str") (u := .type "str") rfl ms (by decide +kernel) rfl) pa_nil)))))
        (pw_or (pt_cmpR op_ne (pv 7) (pe_ix ix_tup (pv 5) pe_int (fun _ _ => rfl)) (by rfl)) (pw_or1 (pt_cmpR (op_neP hu) (pe_call Grd r7 rfl mrd krd brd .nil passF (pa_cons (pv 1) (pa_cons (pv 7) pa_nil))) (pe_ix ix_tup (pv 5) pe_int (fun _ _ => rfl)) (by rfl)))))) (pss_one (ps_ret pe_bl)) pss_nil)))) (pss_one (ps_ret pe_bl)))))))), ?_⟩
  have sq : ∀ H', Ext H H' → SqL K H' a (ns.map V.int) := fun H' e => e.sqL hS
  have z1 : 1 ≤ sizeLine := by decide
  have z2 : 2 ≤ sizeLine := by decide
  have z3 : 3 ≤ sizeLine := by decide
  refine t_set ⟨_, rfl, a, ns, 0, rfl, hS, _, rfl, fun H1 e1 => ?_⟩
  have hL := lets_good (ns.getD 0 0)
  generalize lets (ns.getD 0 0) = L at hL ⊢
  have hcut : ∃ ms : List Int, cutV (ns.map V.int) (Option.some 1) (Option.some 41) = ms.map V.int ∧ ms.length ≤ 63 := by
    refine ⟨(ns.drop (HT.sIx (ns.map V.int).length 0 (Option.some 1))).take (HT.sIx (ns.map V.int).length (ns.map V.int).length (Option.some 41) - HT.sIx (ns.map V.int).length 0 (Option.some 1)), ?_, ?_⟩
    · unfold cutV; rw [← List.map_drop, ← List.map_take]
    · rw [List.length_take, List.length_drop]; omega
  obtain ⟨cs, hcs, hcl⟩ := hcut
  refine t_set ⟨z1, fun p1 x1 => ⟨z2, fun p2 x2 => ⟨z1, fun p3 x3 => ?_⟩⟩⟩
  have t1 := Ext.new (o := .tup [V.str "empty"]) x1
  have t2 := Ext.new (o := .tup [V.ref p1, .str "()"]) x2
  have t3 := Ext.new (o := .lst [V.ref p2]) x3
  have f3 := e1.trans (t1.trans (t2.trans t3))
  refine t_seq ⟨_, rfl, _, rfl, _, rfl, a, _, rfl, sq _ f3, fun p4 x4 => ⟨p4, rfl, ⟨_, SqL.of upd_same⟩, ?_⟩⟩
  have t4 := Ext.new (o := .lst (cutV (ns.map V.int) (Option.some 1) (Option.some 41))) x4
  have f4 := f3.trans t4
  rw [hcs] at *
  have h4 : upd (upd (upd (upd H1 p1 (.tup [V.str "empty"])) p2 (.tup [V.ref p1, .str "()"])) p3 (.lst [V.ref p2])) p4 (.lst (cs.map V.int)) p4 = some (.lst (cs.map V.int)) := upd_same
  have h3 := t4.lst (show upd (upd (upd H1 p1 (.tup [V.str "empty"])) p2 (.tup [V.ref p1, .str "()"])) p3 (.lst [V.ref p2]) p3 = some _ from upd_same)
  have he : EntAt K (upd (upd (upd (upd H1 p1 (.tup [V.str "empty"])) p2 (.tup [V.ref p1, .str "()"])) p3 (.lst [V.ref p2])) p4 (.lst (cs.map V.int))) .empty (.ref p2) := ⟨p2, .ref p1, rfl, SqT.of ((t3.trans t4).tup upd_same), p1, rfl, SqT.of ((t2.trans (t3.trans t4)).tup upd_same)⟩
  generalize upd (upd (upd (upd H1 p1 (.tup [V.str "empty"])) p2 (.tup [V.ref p1, .str "()"])) p3 (.lst [V.ref p2])) p4 (.lst (cs.map V.int)) = H4 at f4 h4 h3 he ⊢
  refine for_list (K := K) (a := p4) (xs := cs.map V.int) (fun i σ' H' => ∃ b ws qs c1 c2, σ' = [Option.some (.ref a), Option.some (.str L), Option.some (.ref b), c1, c2, none, none, none] ∧ Ext H4 H' ∧ H' b = Option.some (.lst ws) ∧ EntsAt K H' qs ws ∧ okL L qs ∧ sizeL qs ≤ 49 ∧ ws ≠ []) ?_ ?_ ?_ ?_
  · exact ⟨p3, _, [.empty], none, none, rfl, Ext.refl _, h3, EntsAt.one he, ⟨trivial, trivial⟩, by decide, by simp⟩
  · rintro i σ' H' hi ⟨b, ws, qs, c1, c2, rfl, e, _⟩
    exact SqL.of (e.lst h4)
  · rintro i x σ' H' hx ⟨b, ws, qs, c1, c2, rfl, e, hb, hq, hk, hz, hne⟩
    obtain ⟨z, rfl⟩ : ∃ z : Int, x = .int z := by
      rw [List.getElem?_map] at hx
      cases h9 : cs[i]? with
      | none => rw [h9] at hx; cases hx
      | some z => rw [h9] at hx; exact ⟨z, (Option.some.inj hx).symm⟩
    refine t_set ⟨_, rfl, _, rfl, _, rfl, L, b, ws, qs, z, rfl, hL, hb, hq, hk, hz, fun b2 ws2 qs2 H5 e5 hb2 hq2 hk2 hz2 => ?_⟩
    have e45 := e.trans e5
    refine ⟨_, rfl, b2, rfl, ⟨_, SqL.of hb2⟩, fun D hD => ?_⟩
    refine lc_list (K := K) (a := b2) (xs := ws2) (Built H5 D fun i => nV ((qs2.map Pat.size).getD i 0)) (Built.zero hD) (fun i H' _ bu => SqL.of (bu.1.lst hb2)) ?_ ?_
    · intro j y H6 hy bu
      refine ⟨rfl, ?_⟩
      obtain ⟨r, hr9, a9, v9, rfl, ha9, hp9⟩ := hq2.get hy
      have hm := List.mem_of_getElem? hr9
      have h1 := size_mem hm
      have h2 := dep_le_size r
      refine r_ixQ 0 rfl (bu.1.sqT _ _ ha9) rfl ⟨v9, r, rfl, PatQ.ext bu.1.sqT _ _ hp9, by omega, by omega, fun H7 e7 => ?_⟩
      have hlt : j < qs2.length := (List.getElem?_eq_some_iff.mp hr9).1
      have := len_le_sizeL qs2
      refine bu.next hD e7 ?_ (Nat.lt_of_lt_of_le (show j < 500 by omega) (by decide))
      rw [List.getD_eq_getElem?_getD, List.getElem?_map, hr9]
      rfl
    · intro H6 bu
      have e3 : (List.range ws2.length).map (fun i => nV ((qs2.map Pat.size).getD i 0)) = ((qs2.map Pat.size).map (fun (n : Nat) => (n : Int))).map V.int := by
        rw [hq2.len, List.map_map]
        refine List.ext_getElem? fun i => ?_
        rw [List.getElem?_map, List.getElem?_map]
        by_cases hi : i < qs2.length
        · rw [List.getElem?_range hi, List.getElem?_eq_getElem (by simpa using hi)]
          simp [List.getD, hi]
        · rw [List.getElem?_eq_none (by simpa using hi), List.getElem?_eq_none (by simpa using hi)]
          rfl
      have hbu := bu.2
      rw [e3] at hbu
      refine ⟨D, _, rfl, SqL.of hbu, _, _, rfl, rfl, _, rfl, ?_⟩
      rw [sum_nV, ← sizeL_sum]
      have e56 := bu.1
      by_cases hlt : sizeL qs2 < 50
      · refine iffT (decide_eq_true (by omega)) ⟨_, rfl, ?_⟩
        refine ⟨b2, ws2, qs2, _, _, rfl, e45.trans e56, e56.lst hb2, hq2.ext e56.sqT, hk2, by omega, fun e0 => ?_⟩
        have hl := hq2.len
        rw [e0] at hl
        have : qs2 = [] := List.length_eq_zero_iff.mp hl.symm
        rw [this] at hz2
        have : sizeL ([] : List Pat) = 0 := rfl
        omega
      · refine iffF (decide_eq_false (by omega)) ?_
        have e46 := e5.trans e56
        exact ⟨b, ws, qs, _, _, rfl, e45.trans e56, e46.lst hb, hq.ext e46.sqT, hk, hz, hne⟩
  · rintro σ' H5 ⟨b, ws, qs, c1, c2, rfl, e5, hb, hq, hk, hz, hne⟩
    dsimp only
    have f5 := f4.trans e5
    have hle := len_le_sizeL qs
    have hqn : qs ≠ [] := fun e0 => by
      have hl := hq.len
      rw [e0] at hl
      exact hne (List.length_eq_zero_iff.mp hl)
    obtain ⟨qs0, q1, ws0, v1, hqs, hws, hq0, hq1⟩ := hq.last hne
    have hlast : atI ws (-1) = some v1 := by rw [hws]; exact atI_last _ _
    have hq1ok : q1.ok L ∧ q1.size ≤ 49 := by
      rw [hqs] at hk hz
      obtain ⟨_, h1, _⟩ := okL_append.mp hk
      rw [sizeL_append, sizeL_one] at hz
      exact ⟨h1, by omega⟩
    refine t_set ⟨_, rfl, _, rfl, b, ws, _, v1, rfl, rfl, SqL.of hb, hlast, ?_⟩
    refine seq_fallP2 (cond := 1 < ws.length) (fun σ' H' => ∃ (p : Pat) (ev : V), σ' = [Option.some (.ref a), Option.some (.str L), Option.some (.ref b), c1, c2, some ev, none, none] ∧ Ext H5 H' ∧ EntAt K H' p ev ∧ p.ok L ∧ p.size ≤ 50) (fun Q' qT qF => ?_) (fun _ H6 e6 => ⟨q1, v1, rfl, e6, hq1.ext e6.sqT, hq1ok.1, by omega⟩) (fun hc H6 e6 nx hnx => ?_) ?_
    · refine ⟨_, rfl, .ref b, _, rfl, .inl ⟨_, SqL.of hb, rfl⟩, _, _, rfl, rfl, _, rfl, ?_⟩
      by_cases hc : 1 < ws.length
      · rw [decide_eq_true (by omega)]; exact qT hc _ (Ext.refl _)
      · rw [decide_eq_false (by omega)]; exact qF hc _ (Ext.refl _)
    · obtain ⟨k, hk9, hkm⟩ := word3 (i := ns.getD 0 0 / 1248 % 3) (by omega)
      refine ⟨z3, fun p6 x6 => ?_⟩
      have t6 := Ext.new (o := .lst [V.str "row", V.str "or", V.str "and"]) x6
      refine ⟨_, rfl, a, ns, 0, rfl, sq _ ((f5.trans e6).trans t6), _, _, rfl, rfl, show (0 : Int) < 1248 ∧ (1248 : Int) < 1073741824 by decide, _, _, rfl, rfl, show (0 : Int) < 3 by decide, p6, _, _, _, rfl, rfl, SqL.of upd_same, hk9, _, rfl, ?_⟩
      have hlen := hq.len
      exact ⟨k, b, ws, qs, rfl, hkm, (e6.trans t6).lst hb, hq.ext (e6.trans t6).sqT, hqn, by omega, fun r H7 e7 hr7 => hnx _ _ ⟨mkOf k qs, .ref r, rfl, (e6.trans t6).trans e7, hr7, mk_ok (by omega) hk, by rw [mk_size]; omega⟩⟩
    rintro σ' H6 ⟨p, ev, rfl, e6, ⟨ea, pv_, rfl, hea, hpp⟩, hpo, hps⟩
    have f6 := f5.trans e6
    have hdp := dep_le_size p
    refine t_seq ⟨2, rfl, by decide, by decide, ?_⟩
    refine for_range (n := 2) (fun i σ' H' => ∃ c6 c7, σ' = [Option.some (.ref a), Option.some (.str L), Option.some (.ref b), c1, c2, some (.ref ea), c6, c7] ∧ Ext H6 H') ⟨none, none, rfl, Ext.refl _⟩ ?_ ?_
    · rintro i σ' H7 hi ⟨c6, c7, rfl, e7⟩
      refine t_set (r_ixQ 0 rfl (e7.sqT _ _ hea) rfl ⟨pv_, p, rfl, PatQ.ext e7.sqT _ _ hpp, by omega, by omega, ⟨L, hpo⟩, fun H8 e8 => ?_⟩)
      have e78 := e7.trans e8
      refine ⟨_, rfl, _, .ty "str", .type "str", .type "str", _, rfl, .ty _, .base (.str _), kn_str (by decide), _, rfl, iffF (by decide) ?_⟩
      refine ⟨_, rfl, r_ixQ 1 rfl (e78.sqT _ _ hea) rfl ⟨rfl, _, rfl, iffF (by rw [decide_eq_true rfl]; rfl) ?_⟩⟩
      have hlt := tw_len p
      refine ⟨_, rfl, _, rfl, L, tw p, p, rfl, hL, (f6.trans e78).tab _ hT, (tw_fine p hpo).1 false, tw_ok p hpo, by omega, reads_tw hpo, by omega, fun v H9 e9 hv => ?_⟩
      refine r_ixQ 0 rfl ((e78.trans e9).sqT _ _ hea) rfl ?_
      refine ⟨L, p, hL, hpo, by omega, hv, PatQ.ext (e78.trans e9).sqT _ _ hpp, _, rfl, iffF rfl ?_⟩
      exact ⟨_, _, rfl, e78.trans e9⟩
    · rintro σ' H7 ⟨c6, c7, rfl, e7⟩
      exact q H7
end
end Bo
set_option Elab.async false
set_option linter.all false
set_option maxRecDepth 100000
set_option maxHeartbeats 0
namespace Bo
open PySem PySem.Spec PyProof.Rows L2 GE
theorem code_is {K : PySem.W.Frag} {x : Str} {st : Stmt} {fd : FuncData} (F : FnP K x st (He.ga K x) fd) : fd.code = .ref (He.codeOf K (x, none)) := by
  obtain ⟨oc, od, dV, kV, doc, pm, an, cdv, ct, osl, e, lk, hcd, _, _⟩ := F.ex
  obtain ⟨c, hc⟩ := He.codeIn_ref hcd
  subst e
  subst hc
  exact congrArg Value.ref (He.codeOf_eq (p := (x, none)) lk rfl).symm
theorem ex_at {K : PySem.W.Frag} (h : ex K = true) (i : Nat) {b : Bool} (e : (exT K)[i]? = some b) : b = true := by
  unfold ex at h
  exact List.all_eq_true.mp h b (List.mem_of_getElem? e)
theorem tbs_ok {K : PySem.W.Frag} {w : World} (h : ex K = true) (m : ∃ es n, KDict K w (He.ga K "MARKS") es n) (b : ∃ es n, KDict K w (He.ga K "BRACKETED") es n) : Tbs K w (He.ga K "MARKS") (He.ga K "BRACKETED") := by
  refine ⟨m, b, fun k hk => ?_, fun k hk => ?_⟩
  · simp only [List.mem_cons, List.not_mem_nil, or_false] at hk
    rcases hk with rfl | rfl | rfl
    · exact str_ok' (ex_at h 2 rfl)
    · exact str_ok' (ex_at h 3 rfl)
    · exact str_ok' (ex_at h 4 rfl)
  · simp only [List.mem_cons, List.not_mem_nil, or_false] at hk
    rcases hk with rfl | rfl | rfl | rfl | rfl
    · exact ⟨_, br_ok (ex_at h 5 rfl)⟩
    · exact ⟨_, br_ok (ex_at h 6 rfl)⟩
    · exact ⟨_, br_ok (ex_at h 7 rfl)⟩
    · exact ⟨_, br_ok (ex_at h 8 rfl)⟩
    · exact ⟨_, br_ok (ex_at h 9 rfl)⟩
section
variable {P : Program} {w : World} {K : PySem.W.Frag} {mg : Str → Option Value} {base : Heap}
theorem facts {h : Heap} {f : Addr} (X : K.In h) (G : h.Ns mainGlobals mg) (hfa : mg ("law" : Str) = some (.ref f)) (c : He.SaysX fa fn ts tf ex w h K) :
    ∃ fd : FuncData, (∀ (s : Shared) (v : Value), BindsTo s fd ⟨[v], []⟩ [("_law_script", v)]) ∧ ∀ base : Heap, K.In base → base.Ns mainGlobals mg → (∀ p ∈ tf.map (He.cT K), LamX.TabB base mg p.1 p.2) →
      FnOk P w K mg base CX0 101 f fd ["_law_script"] (spLw K (He.cT K ("need_letters", none)).2) := by
  obtain ⟨DDenied, FDenied⟩ := c.t.d.def_ 0 (d := dDenied) rfl
  have mDenied : mg "denied" = some (.ref (He.ga K "denied")) := He.glo_ok X G (c.t.d.fact 0 (f := .glo "denied") rfl)
  have FDenied' : FnP K "denied" sDenied (He.ga K "denied") DDenied := FDenied
  have bDenied : Binds K DDenied ["nots", "pattern"] [] := FDenied'.bindsN fun _ _ _ _ _ _ us hl => match us, hl with | [_, _], _ => rfl
  obtain ⟨DTogether, FTogether⟩ := c.t.d.def_ 1 (d := dTogether) rfl
  have mTogether : mg "together" = some (.ref (He.ga K "together")) := He.glo_ok X G (c.t.d.fact 1 (f := .glo "together") rfl)
  have FTogether' : FnP K "together" sTogether (He.ga K "together") DTogether := FTogether
  have bTogether : Binds K DTogether ["kind", "parts"] [] := FTogether'.bindsN fun _ _ _ _ _ _ us hl => match us, hl with | [_, _], _ => rfl
  obtain ⟨DNeedLetters, FNeedLetters⟩ := c.t.d.def_ 2 (d := dNeedLetters) rfl
  have mNeedLetters : mg "need_letters" = some (.ref (He.ga K "need_letters")) := He.glo_ok X G (c.t.d.fact 2 (f := .glo "need_letters") rfl)
  have FNeedLetters' : FnP K "need_letters" sNeedLetters (He.ga K "need_letters") DNeedLetters := FNeedLetters
  have bNeedLetters : Binds K DNeedLetters ["letters"] [] := FNeedLetters'.bindsN fun _ _ _ _ _ _ us hl => match us, hl with | [_], _ => rfl
  obtain ⟨DNodes, FNodes⟩ := c.t.d.def_ 3 (d := dNodes) rfl
  have mNodes : mg "nodes" = some (.ref (He.ga K "nodes")) := He.glo_ok X G (c.t.d.fact 3 (f := .glo "nodes") rfl)
  have FNodes' : FnP K "nodes" sNodes (He.ga K "nodes") DNodes := FNodes
  have bNodes : Binds K DNodes ["pattern"] [] := FNodes'.bindsN fun _ _ _ _ _ _ us hl => match us, hl with | [_], _ => rfl
  obtain ⟨DIsLetter, FIsLetter⟩ := c.t.d.def_ 4 (d := dIsLetter) rfl
  have mIsLetter : mg "is_letter" = some (.ref (He.ga K "is_letter")) := He.glo_ok X G (c.t.d.fact 4 (f := .glo "is_letter") rfl)
  have FIsLetter' : FnP K "is_letter" sIsLetter (He.ga K "is_letter") DIsLetter := FIsLetter
  have bIsLetter : Binds K DIsLetter ["letters", "thing"] [] := FIsLetter'.bindsN fun _ _ _ _ _ _ us hl => match us, hl with | [_, _], _ => rfl
  obtain ⟨DPartsOf, FPartsOf⟩ := c.t.d.def_ 5 (d := dPartsOf) rfl
  have mPartsOf : mg "parts_of" = some (.ref (He.ga K "parts_of")) := He.glo_ok X G (c.t.d.fact 5 (f := .glo "parts_of") rfl)
  have FPartsOf' : FnP K "parts_of" sPartsOf (He.ga K "parts_of") DPartsOf := FPartsOf
  have bPartsOf : Binds K DPartsOf ["pattern"] [] := FPartsOf'.bindsN fun _ _ _ _ _ _ us hl => match us, hl with | [_], _ => rfl
  obtain ⟨DShown, FShown⟩ := c.t.d.def_ 6 (d := dShown) rfl
  have mShown : mg "shown" = some (.ref (He.ga K "shown")) := He.glo_ok X G (c.t.d.fact 6 (f := .glo "shown") rfl)
  have FShown' : FnP K "shown" sShown (He.ga K "shown") DShown := FShown
  have bShown : Binds K DShown ["pattern"] [] := FShown'.bindsN fun _ _ _ _ _ _ us hl => match us, hl with | [_], _ => rfl
  obtain ⟨DPartShown, FPartShown⟩ := c.t.d.def_ 7 (d := dPartShown) rfl
  have mPartShown : mg "part_shown" = some (.ref (He.ga K "part_shown")) := He.glo_ok X G (c.t.d.fact 7 (f := .glo "part_shown") rfl)
  have FPartShown' : FnP K "part_shown" sPartShown (He.ga K "part_shown") DPartShown := FPartShown
  have bPartShown : Binds K DPartShown ["kind", "part"] [] := FPartShown'.bindsN fun _ _ _ _ _ _ us hl => match us, hl with | [_, _], _ => rfl
  obtain ⟨DRead, FRead⟩ := c.t.d.def_ 8 (d := dRead) rfl
  have mRead : mg "read" = some (.ref (He.ga K "read")) := He.glo_ok X G (c.t.d.fact 8 (f := .glo "read") rfl)
  have FRead' : FnP K "read" sRead (He.ga K "read") DRead := FRead
  have bRead : Binds K DRead ["letters", "text"] [] := FRead'.bindsN fun _ _ _ _ _ _ us hl => match us, hl with | [_, _], _ => rfl
  obtain ⟨DWritten, FWritten⟩ := c.t.d.def_ 9 (d := dWritten) rfl
  have mWritten : mg "written" = some (.ref (He.ga K "written")) := He.glo_ok X G (c.t.d.fact 9 (f := .glo "written") rfl)
  have FWritten' : FnP K "written" sWritten (He.ga K "written") DWritten := FWritten
  have bWritten : Binds K DWritten ["letters", "text"] [] := FWritten'.bindsN fun _ _ _ _ _ _ us hl => match us, hl with | [_, _], _ => rfl
  obtain ⟨DWords, FWords⟩ := c.t.d.def_ 10 (d := dWords) rfl
  have mWords : mg "words" = some (.ref (He.ga K "words")) := He.glo_ok X G (c.t.d.fact 10 (f := .glo "words") rfl)
  have FWords' : FnP K "words" sWords (He.ga K "words") DWords := FWords
  have bWords : Binds K DWords ["text"] [] := FWords'.bindsN fun _ _ _ _ _ _ us hl => match us, hl with | [_], _ => rfl
  obtain ⟨DCloseLevel, FCloseLevel⟩ := c.t.d.def_ 11 (d := dCloseLevel) rfl
  have mCloseLevel : mg "close_level" = some (.ref (He.ga K "close_level")) := He.glo_ok X G (c.t.d.fact 11 (f := .glo "close_level") rfl)
  have FCloseLevel' : FnP K "close_level" sCloseLevel (He.ga K "close_level") DCloseLevel := FCloseLevel
  have bCloseLevel : Binds K DCloseLevel ["levels"] [] := FCloseLevel'.bindsN fun _ _ _ _ _ _ us hl => match us, hl with | [_], _ => rfl
  obtain ⟨DTakeWord, FTakeWord⟩ := c.t.d.def_ 12 (d := dTakeWord) rfl
  have mTakeWord : mg "take_word" = some (.ref (He.ga K "take_word")) := He.glo_ok X G (c.t.d.fact 12 (f := .glo "take_word") rfl)
  have FTakeWord' : FnP K "take_word" sTakeWord (He.ga K "take_word") DTakeWord := FTakeWord
  have bTakeWord : Binds K DTakeWord ["letters", "level", "word"] [] := FTakeWord'.bindsN fun _ _ _ _ _ _ us hl => match us, hl with | [_, _, _], _ => rfl
  obtain ⟨DLawCellAt, FLawCellAt⟩ := c.t.d.def_ 13 (d := dLawCellAt) rfl
  have mLawCellAt : mg "_law_cell_at" = some (.ref (He.ga K "_law_cell_at")) := He.glo_ok X G (c.t.d.fact 13 (f := .glo "_law_cell_at") rfl)
  have FLawCellAt' : FnP K "_law_cell_at" sLawCellAt (He.ga K "_law_cell_at") DLawCellAt := FLawCellAt
  have bLawCellAt : Binds K DLawCellAt ["_law_script", "_law_k"] [] := FLawCellAt'.bindsN fun _ _ _ _ _ _ us hl => match us, hl with | [_, _], _ => rfl
  obtain ⟨DLawLetters, FLawLetters⟩ := c.t.d.def_ 14 (d := dLawLetters) rfl
  have mLawLetters : mg "_law_letters" = some (.ref (He.ga K "_law_letters")) := He.glo_ok X G (c.t.d.fact 14 (f := .glo "_law_letters") rfl)
  have FLawLetters' : FnP K "_law_letters" sLawLetters (He.ga K "_law_letters") DLawLetters := FLawLetters
  have bLawLetters : Binds K DLawLetters ["_law_cell"] [] := FLawLetters'.bindsN fun _ _ _ _ _ _ us hl => match us, hl with | [_], _ => rfl
  obtain ⟨DLawSize, FLawSize⟩ := c.t.d.def_ 15 (d := dLawSize) rfl
  have mLawSize : mg "_law_size" = some (.ref (He.ga K "_law_size")) := He.glo_ok X G (c.t.d.fact 15 (f := .glo "_law_size") rfl)
  have FLawSize' : FnP K "_law_size" sLawSize (He.ga K "_law_size") DLawSize := FLawSize
  have bLawSize : Binds K DLawSize ["_law_pattern"] [] := FLawSize'.bindsN fun _ _ _ _ _ _ us hl => match us, hl with | [_], _ => rfl
  obtain ⟨DLawAround, FLawAround⟩ := c.t.d.def_ 16 (d := dLawAround) rfl
  have mLawAround : mg "_law_around" = some (.ref (He.ga K "_law_around")) := He.glo_ok X G (c.t.d.fact 16 (f := .glo "_law_around") rfl)
  have FLawAround' : FnP K "_law_around" sLawAround (He.ga K "_law_around") DLawAround := FLawAround
  have bLawAround : Binds K DLawAround ["_law_entry", "_law_words"] [] := FLawAround'.bindsN fun _ _ _ _ _ _ us hl => match us, hl with | [_, _], _ => rfl
  obtain ⟨DLawJoined, FLawJoined⟩ := c.t.d.def_ 17 (d := dLawJoined) rfl
  have mLawJoined : mg "_law_joined" = some (.ref (He.ga K "_law_joined")) := He.glo_ok X G (c.t.d.fact 17 (f := .glo "_law_joined") rfl)
  have FLawJoined' : FnP K "_law_joined" sLawJoined (He.ga K "_law_joined") DLawJoined := FLawJoined
  have bLawJoined : Binds K DLawJoined ["_law_word", "_law_entries"] [] := FLawJoined'.bindsN fun _ _ _ _ _ _ us hl => match us, hl with | [_, _], _ => rfl
  obtain ⟨DLawStep, FLawStep⟩ := c.t.d.def_ 18 (d := dLawStep) rfl
  have mLawStep : mg "_law_step" = some (.ref (He.ga K "_law_step")) := He.glo_ok X G (c.t.d.fact 18 (f := .glo "_law_step") rfl)
  have FLawStep' : FnP K "_law_step" sLawStep (He.ga K "_law_step") DLawStep := FLawStep
  have bLawStep : Binds K DLawStep ["_law_letters_here", "_law_stack", "_law_cell"] [] := FLawStep'.bindsN fun _ _ _ _ _ _ us hl => match us, hl with | [_, _, _], _ => rfl
  obtain ⟨DLaw, FLaw⟩ := c.t.d.def_ 19 (d := dLaw) rfl
  have mLaw : mg "law" = some (.ref (He.ga K "law")) := He.glo_ok X G (c.t.d.fact 19 (f := .glo "law") rfl)
  have FLaw' : FnP K "law" sLaw (He.ga K "law") DLaw := FLaw
  have bLaw : Binds K DLaw ["_law_script"] [] := FLaw'.bindsN fun _ _ _ _ _ _ us hl => match us, hl with | [_], _ => rfl
  obtain ⟨DLevelInit, FLevelInit⟩ := c.t.d.def_ 20 (d := dLevelInit) rfl
  have mLevelInit := He.meth_ok (c.t.d.fact 27 (f := .meth "Level" "__init__") rfl)
  have FLevelInit' : MtP K "__init__" "Level.__init__" sLevelInit (He.ma K (He.ga K "Level") "__init__") DLevelInit := FLevelInit
  have bLevelInit : Binds K DLevelInit ["self"] [] := FLevelInit'.bindsN fun _ _ _ _ _ _ us hl => match us, hl with | [_], _ => rfl
  obtain ⟨DLevelTakeNot, FLevelTakeNot⟩ := c.t.d.def_ 21 (d := dLevelTakeNot) rfl
  have mLevelTakeNot := He.meth_ok (c.t.d.fact 28 (f := .meth "Level" "take_not") rfl)
  have FLevelTakeNot' : MtP K "take_not" "Level.take_not" sLevelTakeNot (He.ma K (He.ga K "Level") "take_not") DLevelTakeNot := FLevelTakeNot
  have bLevelTakeNot : Binds K DLevelTakeNot ["self"] [] := FLevelTakeNot'.bindsN fun _ _ _ _ _ _ us hl => match us, hl with | [_], _ => rfl
  obtain ⟨DLevelTakeAtom, FLevelTakeAtom⟩ := c.t.d.def_ 22 (d := dLevelTakeAtom) rfl
  have mLevelTakeAtom := He.meth_ok (c.t.d.fact 29 (f := .meth "Level" "take_atom") rfl)
  have FLevelTakeAtom' : MtP K "take_atom" "Level.take_atom" sLevelTakeAtom (He.ma K (He.ga K "Level") "take_atom") DLevelTakeAtom := FLevelTakeAtom
  have bLevelTakeAtom : Binds K DLevelTakeAtom ["self", "atom"] [] := FLevelTakeAtom'.bindsN fun _ _ _ _ _ _ us hl => match us, hl with | [_, _], _ => rfl
  obtain ⟨DLevelTakeStar, FLevelTakeStar⟩ := c.t.d.def_ 23 (d := dLevelTakeStar) rfl
  have mLevelTakeStar := He.meth_ok (c.t.d.fact 30 (f := .meth "Level" "take_star") rfl)
  have FLevelTakeStar' : MtP K "take_star" "Level.take_star" sLevelTakeStar (He.ma K (He.ga K "Level") "take_star") DLevelTakeStar := FLevelTakeStar
  have bLevelTakeStar : Binds K DLevelTakeStar ["self"] [] := FLevelTakeStar'.bindsN fun _ _ _ _ _ _ us hl => match us, hl with | [_], _ => rfl
  obtain ⟨DLevelEndHalf, FLevelEndHalf⟩ := c.t.d.def_ 24 (d := dLevelEndHalf) rfl
  have mLevelEndHalf := He.meth_ok (c.t.d.fact 31 (f := .meth "Level" "end_half") rfl)
  have FLevelEndHalf' : MtP K "end_half" "Level.end_half" sLevelEndHalf (He.ma K (He.ga K "Level") "end_half") DLevelEndHalf := FLevelEndHalf
  have bLevelEndHalf : Binds K DLevelEndHalf ["self"] [] := FLevelEndHalf'.bindsN fun _ _ _ _ _ _ us hl => match us, hl with | [_], _ => rfl
  obtain ⟨DLevelEndBranch, FLevelEndBranch⟩ := c.t.d.def_ 25 (d := dLevelEndBranch) rfl
  have mLevelEndBranch := He.meth_ok (c.t.d.fact 32 (f := .meth "Level" "end_branch") rfl)
  have FLevelEndBranch' : MtP K "end_branch" "Level.end_branch" sLevelEndBranch (He.ma K (He.ga K "Level") "end_branch") DLevelEndBranch := FLevelEndBranch
  have bLevelEndBranch : Binds K DLevelEndBranch ["self"] [] := FLevelEndBranch'.bindsN fun _ _ _ _ _ _ us hl => match us, hl with | [_], _ => rfl
  obtain ⟨DLevelTold, FLevelTold⟩ := c.t.d.def_ 26 (d := dLevelTold) rfl
  have mLevelTold := He.meth_ok (c.t.d.fact 33 (f := .meth "Level" "told") rfl)
  have FLevelTold' : MtP K "told" "Level.told" sLevelTold (He.ma K (He.ga K "Level") "told") DLevelTold := FLevelTold
  have bLevelTold : Binds K DLevelTold ["self"] [] := FLevelTold'.bindsN fun _ _ _ _ _ _ us hl => match us, hl with | [_], _ => rfl
  obtain ⟨DLevelNeedItem, FLevelNeedItem⟩ := c.t.d.def_ 27 (d := dLevelNeedItem) rfl
  have mLevelNeedItem := He.meth_ok (c.t.d.fact 34 (f := .meth "Level" "need_item") rfl)
  have FLevelNeedItem' : MtP K "need_item" "Level.need_item" sLevelNeedItem (He.ma K (He.ga K "Level") "need_item") DLevelNeedItem := FLevelNeedItem
  have bLevelNeedItem : Binds K DLevelNeedItem ["self"] [] := FLevelNeedItem'.bindsN fun _ _ _ _ _ _ us hl => match us, hl with | [_], _ => rfl
  have c_Level := He.cls_ok (c.t.d.fact 21 (f := .cls "Level") rfl)
  have k_Level := He.mkr_ok (c.t.d.fact 22 (f := .mkr "Level") rfl)
  have o_Level_branches := He.noat_ok (c.t.d.fact 23 (f := .noat "Level" "branches") rfl)
  have o_Level_halves := He.noat_ok (c.t.d.fact 24 (f := .noat "Level" "halves") rfl)
  have o_Level_row := He.noat_ok (c.t.d.fact 25 (f := .noat "Level" "row") rfl)
  have o_Level_nots := He.noat_ok (c.t.d.fact 26 (f := .noat "Level" "nots") rfl)
  have g_PatternError : mg "PatternError" = some (.ref (He.ga K "PatternError")) := He.glo_ok X G (c.t.d.fact 39 (f := .glo "PatternError") rfl)
  have x_PatternError : EX K mg "PatternError" (He.ga K "PatternError") := by
    obtain ⟨a1, a2, a3, a4⟩ := He.exc_ok (c.t.d.fact 43 (f := .exc "PatternError") rfl)
    exact ⟨g_PatternError, a1, a2, a3, a4⟩
  have g_NoLetters : mg "NoLetters" = some (.ref (He.ga K "NoLetters")) := He.glo_ok X G (c.t.d.fact 40 (f := .glo "NoLetters") rfl)
  have x_NoLetters : EX K mg "NoLetters" (He.ga K "NoLetters") := by
    obtain ⟨a1, a2, a3, a4⟩ := He.exc_ok (c.t.d.fact 44 (f := .exc "NoLetters") rfl)
    exact ⟨g_NoLetters, a1, a2, a3, a4⟩
  have g_TooGreat : mg "TooGreat" = some (.ref (He.ga K "TooGreat")) := He.glo_ok X G (c.t.d.fact 41 (f := .glo "TooGreat") rfl)
  have x_TooGreat : EX K mg "TooGreat" (He.ga K "TooGreat") := by
    obtain ⟨a1, a2, a3, a4⟩ := He.exc_ok (c.t.d.fact 45 (f := .exc "TooGreat") rfl)
    exact ⟨g_TooGreat, a1, a2, a3, a4⟩
  have g_NoText : mg "NoText" = some (.ref (He.ga K "NoText")) := He.glo_ok X G (c.t.d.fact 42 (f := .glo "NoText") rfl)
  have x_NoText : EX K mg "NoText" (He.ga K "NoText") := by
    obtain ⟨a1, a2, a3, a4⟩ := He.exc_ok (c.t.d.fact 46 (f := .exc "NoText") rfl)
    exact ⟨g_NoText, a1, a2, a3, a4⟩
  have n_all : mg "all" = none := He.free_ok X G (c.t.d.fact 47 (f := .free "all") rfl)
  have n_isinstance : mg "isinstance" = none := He.free_ok X G (c.t.d.fact 48 (f := .free "isinstance") rfl)
  have n_len : mg "len" = none := He.free_ok X G (c.t.d.fact 49 (f := .free "len") rfl)
  have n_min : mg "min" = none := He.free_ok X G (c.t.d.fact 50 (f := .free "min") rfl)
  have n_range : mg "range" = none := He.free_ok X G (c.t.d.fact 51 (f := .free "range") rfl)
  have n_set : mg "set" = none := He.free_ok X G (c.t.d.fact 52 (f := .free "set") rfl)
  have n_str : mg "str" = none := He.free_ok X G (c.t.d.fact 53 (f := .free "str") rfl)
  have n_sum : mg "sum" = none := He.free_ok X G (c.t.d.fact 54 (f := .free "sum") rfl)
  have n_tuple : mg "tuple" = none := He.free_ok X G (c.t.d.fact 55 (f := .free "tuple") rfl)
  obtain ⟨t_MOST_LETTERS, i_MOST_LETTERS⟩ := He.int_ok X G (c.t.d.fact 56 (f := .int "MOST_LETTERS" 4) rfl)
  obtain ⟨t_MOST_NODES, i_MOST_NODES⟩ := He.int_ok X G (c.t.d.fact 57 (f := .int "MOST_NODES" 60) rfl)
  obtain ⟨t_MOST_WRITTEN, i_MOST_WRITTEN⟩ := He.int_ok X G (c.t.d.fact 58 (f := .int "MOST_WRITTEN" 400) rfl)
  have e_PatternError := He.exm_ok (c.t.d.fact 59 (f := .exm "PatternError" "PatternError" true) rfl)
  have e_NoLetters := He.exm_ok (c.t.d.fact 60 (f := .exm "NoLetters" "PatternError" true) rfl)
  have e_TooGreat := He.exm_ok (c.t.d.fact 61 (f := .exm "TooGreat" "PatternError" true) rfl)
  have e_NoText := He.exm_ok (c.t.d.fact 62 (f := .exm "NoText" "PatternError" true) rfl)
  have h_Level : mg "Level" = some (.ref (He.ga K "Level")) := He.glo_ok X G (c.t.d.fact 20 (f := .glo "Level") rfl)
  have h_MARKS : mg "MARKS" = some (.ref (He.ga K "MARKS")) := He.glo_ok X G (c.t.d.fact 35 (f := .glo "MARKS") rfl)
  have h_BRACKETED : mg "BRACKETED" = some (.ref (He.ga K "BRACKETED")) := He.glo_ok X G (c.t.d.fact 36 (f := .glo "BRACKETED") rfl)
  have h_NONE : mg "NONE" = some (.ref (He.ga K "NONE")) := He.glo_ok X G (c.t.d.fact 37 (f := .glo "NONE") rfl)
  have h_EMPTY : mg "EMPTY" = some (.ref (He.ga K "EMPTY")) := He.glo_ok X G (c.t.d.fact 38 (f := .glo "EMPTY") rfl)
  cases hfa.symm.trans mLaw
  have bA := FunD.bindsA (ps := ["_law_script"]) FLaw' fun _ _ _ _ _ _ us hl => match us, hl with | [_], _ => rfl
  have B := tbs_ok (w := w) c.more (c.t.tab 0 rfl) (c.t.tab 1 rfl)
  have TL : LTx K (He.ga K "Level") := ⟨c_Level, o_Level_branches, o_Level_halves, o_Level_row, o_Level_nots⟩
  refine ⟨DLaw, fun s v => bA s [v] rfl, fun base _ _ hTB => ?_⟩
  have tb : ∀ x : Str, ((x, none) : He.Defn) ∈ tf → GxR.TabB base mg (He.codeOf K (x, none)) (He.cT K (x, none)).2 := fun x hx => by
    have t := hTB _ (List.mem_map_of_mem hx)
    exact ⟨t.code, t.bm, t.gP⟩
  have tb2 := tb "need_letters" (by simp [tf])
  have NL := nl_ok (P := P) (w := w) FNeedLetters' (code_is FNeedLetters') tb2 x_NoLetters n_isinstance n_str n_len n_all n_set i_MOST_LETTERS
  have IL := il_ok (P := P) (w := w) (base := base) FIsLetter' n_isinstance n_str n_len
  have PO := po_ok (P := P) (w := w) (mg := mg) (base := base) FPartsOf'
  have NO := no_ok FNodes' PO bPartsOf FPartsOf'.kp mPartsOf
  have DE := den_ok (P := P) (w := w) (base := base) FDenied' n_range
  have TG := tog_ok (P := P) (w := w) (base := base) FTogether' n_len n_tuple
  have IT := init_ok (P := P) (w := w) (mg := mg) (base := base) FLevelInit' TL
  have TN := tn_ok (P := P) (w := w) (mg := mg) (base := base) FLevelTakeNot' TL
  have TA := ta_ok (P := P) (w := w) (mg := mg) (base := base) FLevelTakeAtom' TL
  have NI := ni_ok (P := P) (w := w) (base := base) FLevelNeedItem' TL x_NoText
  have TS := ts_ok FLevelTakeStar' TL NI bLevelNeedItem mLevelNeedItem
  have EH := eh_ok FLevelEndHalf' TL NI bLevelNeedItem mLevelNeedItem DE bDenied FDenied'.kp mDenied TG bTogether FTogether'.kp mTogether
  have EB := eb_ok FLevelEndBranch' TL EH bLevelEndHalf mLevelEndHalf TG bTogether FTogether'.kp mTogether
  have TD := td_ok FLevelTold' TL EB bLevelEndBranch mLevelEndBranch TG bTogether FTogether'.kp mTogether
  have WD := wd_ok (P := P) (w := w) (base := base) FWords' n_len
  have TW := tw_ok' FTakeWord' TL x_NoText TN bLevelTakeNot mLevelTakeNot TA bLevelTakeAtom mLevelTakeAtom TS bLevelTakeStar mLevelTakeStar EH bLevelEndHalf mLevelEndHalf EB bLevelEndBranch mLevelEndBranch IL bIsLetter FIsLetter'.kp mIsLetter h_EMPTY h_NONE (tup_ok (ex_at c.more 1 rfl)) (tup_ok (ex_at c.more 0 rfl))
  have CL := cl_ok FCloseLevel' TL x_NoText TA bLevelTakeAtom mLevelTakeAtom TD bLevelTold mLevelTold n_len
  have WR := wr_ok FWritten' TL x_NoText k_Level h_Level IT bLevelInit WD bWords FWords'.kp mWords CL bCloseLevel FCloseLevel'.kp mCloseLevel TW bTakeWord FTakeWord'.kp mTakeWord TD bLevelTold mLevelTold n_len
  have RD := rd_ok FRead' NL bNeedLetters FNeedLetters'.kp mNeedLetters WR bWritten FWritten'.kp mWritten NO bNodes FNodes'.kp mNodes n_isinstance n_str n_len i_MOST_WRITTEN i_MOST_NODES
  have SH : ∀ d, FnOk P w K mg base CX0 (2 * d) (He.ga K "shown") DShown ["pattern"] (spSh K d) := fun d => by
    induction d with
    | zero => exact sh_none
    | succ d ih => exact sh_ok FShown' B h_MARKS (ps_ok FPartShown' B h_BRACKETED ih bShown FShown'.kp mShown) bPartShown FPartShown'.kp mPartShown
  have CA := ca_ok (P := P) (w := w) (base := base) FLawCellAt' n_len
  have LT := lt_ok (P := P) (w := w) (base := base) FLawLetters' n_range
  have LS : ∀ d, FnOk P w K mg base CX0 d (He.ga K "_law_size") DLawSize ["_law_pattern"] (spLS K d) := fun d => by
    induction d with
    | zero => exact ls_none
    | succ d ih => exact ls_step FLawSize' ih bLawSize mLawSize n_sum
  have AR := ar_ok (P := P) (w := w) (mg := mg) (base := base) FLawAround'
  have JO := jo_ok FLawJoined' AR bLawAround FLawAround'.kp mLawAround n_tuple
  have ST := st_ok FLawStep' JO bLawJoined FLawJoined'.kp mLawJoined AR bLawAround FLawAround'.kp mLawAround n_len n_min
  exact law_ok FLaw' CA bLawCellAt FLawCellAt'.kp mLawCellAt LT bLawLetters FLawLetters'.kp mLawLetters ST bLawStep FLawStep'.kp mLawStep (LS 60) bLawSize FLawSize'.kp mLawSize JO bLawJoined FLawJoined'.kp mLawJoined (SH 50) bShown FShown'.kp mShown RD bRead FRead'.kp mRead n_len n_isinstance n_str n_sum n_range
end
end Bo
set_option Elab.async false
set_option linter.all false
open PySem PySem.W PySem.Calls PyProof.Rows
set_option maxRecDepth 100000 in
set_option maxHeartbeats 0 in
theorem PySem.Challenge.cw_bothreed_k02_shown_and_read_holds : PySem.Challenge.rw_bothreed_k02_shown_and_read.Holds := by
  w_on; o_law
  refine HandSHeadRun.head_any (r := Bo.R) (q := view Bo.R.prog [36]) (H := Bo.hk) (ob := Bo.ob) (M := 9000) (loose := Bo.names) (d := HandSHeadRun.topDef Bo.R.prog 36) (kwd := []) Bo.ob_eq
    (by kernel_rfl) (fun s => by kernel_rfl) Bo.run (by kernel_rfl) (by kernel_rfl) (by kernel_rfl) (by rfl) (by first | assumption | decide +kernel) (by decide +kernel) ⟨rfl, rfl, rfl, rfl, rfl, by decide +kernel⟩ ?hw ?hc
  case hw => w_witness2
  case hc =>
    refine LamX.walk_ofTsE (l := PySem.Challenge.rw_bothreed_k02_shown_and_read) (n := 63) (k := 101) (x := "_law_script") (CX := fun _ => L2.CX0) rfl (by decide) (by kernel_rfl) ⟨rfl, by decide, by decide⟩ ?F (fun _ _ _ _ _ z => z)
    intro w mg f h Y G hmg0
    obtain ⟨K, KX, c⟩ := Y
    have hmg : mg ("law" : PySem.Str) = some (.ref f) := by
      have e : (HandSHeadRun.topDef Bo.R.prog 36).name = ("law" : PySem.Str) := by kernel_rfl
      rw [← e]
      exact hmg0
    obtain ⟨fd, hb, hF⟩ := Bo.facts (P := PySem.Challenge.rw_bothreed_k02_shown_and_read.prog) (w := w) KX G hmg c
    refine ⟨K, KX, fd, Bo.tf.map (He.cT K), _, ?_, ?_, ?_, hb, ?_, hF⟩
    · intro p hp
      obtain ⟨x, hx, rfl⟩ := List.mem_map.mp hp
      exact c.empty x hx
    · intro p hp
      obtain ⟨x, hx, rfl⟩ := List.mem_map.mp hp
      exact c.out x hx
    · intro p hp
      obtain ⟨x, hx, rfl⟩ := List.mem_map.mp hp
      exact PySem.W.codeHd_of_K KX (c.hd x hx)
    · intro H a ns hl _ hT hS
      have tab : ∀ x : PySem.Str, ((x, none) : He.Defn) ∈ Bo.tf → GxR.TabG H (He.cT K (x, none)).2 := fun x hx => ⟨#[], hT _ (List.mem_map_of_mem hx), trivial⟩
      exact ⟨a, ns, rfl, hl, hS, tab "need_letters" (by simp [Bo.tf]), fun _ => rfl⟩
