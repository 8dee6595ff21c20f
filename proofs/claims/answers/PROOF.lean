import PyProof.Rows.All
import Wide.All
import OpenK.AllK
import Wide.FinOn
import Open.SpecLaws
import KE.OsGo
import HandS.ForSpec
import HandS.ForMost
import HandS.TryMany
import KE.DatumOrd
import HandS.SortKw
import HandS.Zip
import HandS.Small
import HandS.Deep
import HandS.SortRule
import HandS.Conv
import HandS.WideBits
import HandS.Wide
import PySem.Challenge.RW_matchedrows_s01_answers
import PyVatdfb
import VatdfBaseSpec
import HandS.HeadHook1
import HandS.ExcIs
set_option Elab.async false
set_option linter.all false
set_option maxRecDepth 100000
set_option maxHeartbeats 8000000
/-! A comprehension whose item may raise: the exception leaves the block, the comprehension and goes into the def's air. -/
namespace MR
open PySem PySem.Spec PyProof.Rows L2

/-- an exception over a block: on its way over the frames that run -/
def XF (X : Cx) (E : XK) (u : Value) (t : Shared) : Prop :=
  ∃ (a : Addr) (G : Heap) (r : Shared) (pins : List (Addr × Obj)) (σ : L2.St) (H : Hp) (c : Value) (d : Option Addr),
    u = .ref a ∧ Inv X pins σ H r ∧ (∀ b o, r.heap.get? b = some o → b ∉ frs X.stack → G.get? b = some o) ∧
    r.heap.UpToSlots t.heap ∧ HandSPX.FlyingZ G X.stack a (Zc c d) t.heap ∧ H a = none ∧ t.os = r.os ∧ AllBare t.gens ∧ E c d H

theorem XF.of_call {X : Cx} {pins : List (Addr × Obj)} {σ : L2.St} {H : Hp} {s t : Shared} {E : XK} {u : Value}
    (I : Inv X pins σ H s) (c : L2.CX X.prog X.w X.stack H s E u t) : XF X E u t := by
  have fly := c
  obtain ⟨a0, _, _, _, _, ea, ⟨_, _, _, oe, vs, T, oT, ts, h1, _, h3, h4, _, _, h7, h8, h9⟩, _⟩ := fly
  obtain ⟨a, G, r, p, σ', H', k, d, e, J, g, up, sky, na, os, ag, w⟩ := XE.of_call (W := fun k d _ H => E k d H) I (fun _ _ _ q => q) c
  have hea : a = a0 := by
    rw [e] at ea
    cases ea
    rfl
  subst hea
  refine ⟨a, G, r, p, σ', H', k, d, e, J, g, up, ?_, na, os, ag, w⟩
  rcases sky with ⟨_, _, _, oe', vs', q1, _, q3, q4⟩ | fl | ⟨_, _, _, oe', vs', T', oT', ts', q1, _, q3, q4, _, _, q7, q8, q9⟩
  · rw [h1] at q1
    cases q1
    rw [h3] at q3
    cases q3
    rw [h4] at q4
    cases q4
  · exact fl
  · rw [h1] at q1
    cases q1
    rw [h3] at q3
    cases q3
    rw [h4] at q4
    cases q4
    rw [h7] at q7
    cases q7
    rw [h8] at q8
    cases q8
    rw [h9] at q9
    cases q9

theorem note_by_frame {x : Value} {e1 e2 : Env} (h : e1.frame = e2.frame) : noteFrame x e1 = noteFrame x e2 := by
  unfold noteFrame PySem.frameOf
  rw [h]

/-- what is wanted behind the block, the frame of the block's names known -/
def CPost (M : Model) (A : Around) (E : Value → Shared → Prop) (fr : Option Addr) (use : Option (Value → Sem Unit)) (Q : Value → Shared → Prop) (acc : Value) (C : Addr) : Result → Shared → Prop
  | .ok f, t => compPost M A E use Q acc C (.ok f) t
  | .error x, t => ∃ m, t.heap.Ns C m ∧ ∀ h', Heap.SameBut C t.heap h' → ∀ ce : Env, ce.locals = C → ce.frame = fr →
      wpAny M A (passOn "comprehension.variables-let-go" x ce : Sem Value) (fun _ _ => False) E { t with heap := h' }

theorem comp_freeX {M : Model} {A : Around} {E : Value → Shared → Prop} {s : Shared} {env : Env} {e : Expr} {scope : Scope} {pos : Pos} {mk one : Sem Value} {g : Comprehension} {gs : List Comprehension} {cl : List (Str × Addr)}
    {use : Option (Value → Sem Unit)} {Q : Value → Shared → Prop} (h1 : clausesOf e = g :: gs) (h2 : ∀ x, foldedSetIterable g.iter env x = pure x) (h3 : closureFor scope env = pure cl)
    (h4 : scope.kind = .function) (h5 : ∀ y ∈ scope.names, y.2 = .local → scope.names.lookup y.1 = some .local)
    (go : wpAny M A one (fun x s1 => wpAny M A (pyIter x) (fun it s2 => wpAny M A mk (fun acc s3 =>
      wpAny M A (newFunctionEnv scope env.globals cl [] env.qual none .none (some env)) (fun ce s4 => ce.frame = env.frame ∧
        codeAny M A (.compStart e 0 it acc { ce with scope := relabel scope env }) (CPost M A E env.frame use Q acc ce.locals) s4) E s3) E s2) E s1) E s) :
    wpAny M A (comprehension e scope env pos mk false one use) Q E s := by
  unfold comprehension
  rw [h3, h1]
  refine wpAny_bind (thn go fun x s1 go => wpAny_bind (wpAny_standAt (wpAny_bind (wpAny_of_eq (h2 x) (wpAny_bind (wpAny_holding (thn go fun it s2 go => ?_)))))))
  refine wpAny_standIf (wpAny_bind (thn go fun acc s3 go => wpAny_bind (wpAny_pure (wpAny_bind (thn go fun ce s4 gq => ?_)))))
  obtain ⟨hfr, go⟩ := gq
  dsimp only
  have all : ∀ y ∈ (scope.names.filter fun x => (x.2 == .local || x.2 == .cell) && x.1 != (".0" : Str)).reverse, y.2 = .local →
      Env.kindOf { ce with scope := relabel scope env } y.1 = some .local :=
    fun y hy k => lookup_relabel_local (h5 y (List.mem_filter.mp (List.mem_reverse.mp hy)).1 k)
  refine wpAny_holding (wpAny_bind (wpAny_attempt (wpAny_holding (wpAny_run (codeAny_mono go fun r t hr => ?_)))))
  match r, use, hr with
  | .ok _, none, ⟨m, hn, hr⟩ =>
    exact wpAny_bind (wpAny_holding (wpAny_comp_letGo (cenv := { ce with scope := relabel scope env }) h4 _ t m all hn fun h' m' _ sb => wpAny_pure (hr h' sb)))
  | .ok _, some u, hr =>
    have hr : wpAny M A (u acc) (fun _ t' => ∃ m, t'.heap.Ns ce.locals m ∧ ∀ h', Heap.SameBut ce.locals t'.heap h' → Q .none { t' with heap := h' }) E t := hr
    refine wpAny_bind (wpAny_rule (wpAny_bind (wpAny_holding (thn hr fun _ t' ⟨m, hn, hr'⟩ => ?_))))
    refine wpAny_bind (wpAny_comp_letGo (cenv := { ce with scope := relabel scope env }) h4 _ t' m (fun y hy => all y ?_) hn fun h' m' _ sb => wpAny_pure (hr' h' sb))
    rcases List.mem_append.mp hy with z | z
    · exact List.mem_of_mem_drop z
    · exact List.mem_of_mem_take z
  | .error x, use, ⟨m, hn, hr⟩ =>
    have fin : ∀ {K : Sem Value} {cs : List (Str × NameKind) → List Value}, K = (do holding [x] (comprehension.letGo { ce with scope := relabel scope env } cs (scope.names.filter fun x => (x.2 == .local || x.2 == .cell) && x.1 != (".0" : Str)).reverse); passOn "comprehension.variables-let-go" x { ce with scope := relabel scope env }) →
        wpAny M A K Q E t := fun {K cs} e => by
      rw [e]
      exact wpAny_bind (wpAny_holding (wpAny_comp_letGo (cenv := { ce with scope := relabel scope env }) h4 _ t m all hn fun h' m' _ sb => wpAny_mono (hr h' sb _ rfl hfr) (fun _ _ z => z.elim) fun _ _ z => z))
    cases use with
    | none => exact fin rfl
    | some u => exact fin rfl

theorem frames_move {h h' B B' : Heap} : ∀ {l : List Env}, h.FunFrames B l → (∀ b ∈ frs l, h'.get? b = h.get? b) → (∀ b ∈ frs l, B'.get? b = none) → h'.FunFrames B' l
  | [], _, _, _ => trivial
  | env :: l, ⟨hk, ⟨L, o, hf, _, ho, hd⟩, hr⟩, k, n => by
    have m : ∀ b, b ∈ frs l → b ∈ frs (env :: l) := fun b hb => by
      unfold frs
      rw [List.filterMap_cons, hf]
      exact List.mem_cons_of_mem _ hb
    have mL : L ∈ frs (env :: l) := by
      unfold frs
      rw [List.filterMap_cons, hf]
      exact List.mem_cons_self
    exact ⟨hk, ⟨L, o, hf, n L mL, (k L mL).trans ho, hd⟩, frames_move hr (fun b hb => k b (m b hb)) fun b hb => n b (m b hb)⟩

section
variable {X : Cx} {pins : List (Addr × Obj)} {σ : L2.St} {H : Hp} {s : Shared}
/-- out of the block into the def's air -/
theorem out_of_block {scope : Scope} {ce : Env} {fp : List Addr} {E : XK} {use : Option (Value → Sem Unit)} {Qf : Value → Shared → Prop} {D : Value} {u : Value} {t : Shared}
    (I : Inv X pins σ H s) (hs : X.stack = X.env :: X.outer) (hf : X.env.frame = some X.env.locals) (tk : Takes X fun c d _ H => E c d H)
    (hfp : ∀ b ∈ fp, FpOk X pins H b) (eL : ce.locals = s.heap.objs.size) (eF : ce.frame = X.env.frame)
    (x : XF (X.blk s H scope ce fp) E u t) : notedBy (model X.prog X.w) X.A ce (fun e t' => CPost (model X.prog X.w) X.A X.xe X.env.frame use Qf D s.heap.objs.size (.error e) t') u t := by
  obtain ⟨a, G, r, p', σ', H', c, d, rfl, J, g, up, fl, na, os, ag, w⟩ := x
  show wpAny _ _ (noteFrame (.ref a) ce) _ _ t
  rw [note_by_frame eF]
  have hfr : X.A.frames = some (X.env :: X.outer) := by rw [I.ok.frames, hs]
  have fl' : HandSPX.FlyingZ G (X.env :: X.outer) a (Zc c d) t.heap := by
    rw [← hs]
    exact fl
  refine HandSPX.looks_onZ Zc.steady hfr hf fl' fun h1 held up1 => ?_
  obtain ⟨m, hn, _⟩ := J.loc
  have hn : r.heap.Ns ce.locals m := hn
  rw [eL] at hn
  have nC : H' s.heap.objs.size = none := by
    have z : H' ce.locals = none := J.free
    rw [eL] at z
    exact z
  have hn1 : h1.Ns s.heap.objs.size m := (up.trans up1).ns hn
  refine ⟨m, hn1, fun h' sb ce' el ef => ?_⟩
  -- the block's own dict is taken off
  have I1 : Inv X pins σ H' r := I.call' (ch := fp) J.os J.base J.hok J.bare fun b hb => ⟨(hfp b hb).2.2.2.1, (hfp b hb).2.1, (hfp b hb).2.2.2.2.1, (hfp b hb).2.2.2.2.2⟩
  obtain ⟨_, f1, f2, f3, f4, f5⟩ := I.fpOk (Nat.le_refl _) nC
  generalize s.heap.objs.size = C at *
  have I2 := I1.turned (t' := r.toks) (h' := PySem.W.hideAll r.heap [C]) (it := C) (fun b o hb e => PySem.W.hideAll_get _ e fun hm => hb (List.mem_singleton.mp hm)) nC f1 f3 f4 f5
  have notC : ∀ {B : Heap} {b : Addr} {o : Obj}, (PySem.W.hideAll B [C]).get? b = some o → b ≠ C ∧ B.get? b = some o := fun {B b o} e => by
    refine ⟨fun z => ?_, PySem.W.of_hideAll _ e⟩
    rw [z, PySem.W.hideAll_none _ (List.mem_singleton.mpr rfl)] at e
    cases e
  have hid : ∀ {B : Heap} {b : Addr}, B.get? b = none → (PySem.W.hideAll B [C]).get? b = none := fun {B b} e => by
    cases q : (PySem.W.hideAll B [C]).get? b with
    | none => rfl
    | some o =>
      rw [(notC q).2] at e
      cases e
  have frC : ∀ b ∈ frs (X.env :: X.outer), b ≠ C := fun b hb z => by
    have hb : b ∈ frs X.stack := by
      rw [hs]
      exact hb
    rcases List.mem_cons.mp (I.stkSub b hb) with q | q
    · exact f1 (z.symm.trans q)
    · rw [z] at q
      exact f2 q
  obtain ⟨oC, es, ep, hoC, hdC, _⟩ := hn1
  have recC : ∀ {b : Addr} {o : Obj} {vs : Array Value}, h1.get? b = some o → o.data = .fields vs → b ≠ C := fun {b o vs} e dd z => by
    rw [z, hoC] at e
    cases e
    rw [hdC] at dd
    cases dd
  have held' : HandSPX.HeldZ (PySem.W.hideAll G [C]) (X.env :: X.outer) a (Zc c d) X.env.locals h' := by
    obtain ⟨k1, k2, k3, oe, vs, T, oT, ts, q1, q2, q3, q4, q5, q6, q7, q8, q9⟩ := held
    refine ⟨fun b o e => (sb.2 b (notC e).1).trans (k1 b o (notC e).2), hid k2, frames_move k3 (fun b hb => sb.2 b (frC b hb)) fun b hb => hid (k3.mem hb).1,
      oe, vs, T, oT, ts, (sb.2 a (recC q1 q3)).trans q1, q2, q3, q4, hid q5, q6, (sb.2 T (recC q7 q8)).trans q7, q8, q9⟩
  obtain ⟨_, _, _, oe, vs, T, _, _, q1, _, q3, q4, _⟩ := id held'
  unfold PySem.passOn
  refine wpAny_bind (wpAny_field q1 q3 q4 ?_)
  rw [if_neg (show ¬ ((Value.ref T == Value.none) = true) from by simp)]
  have fin : wpAny (model X.prog X.w) X.A (setFlight (.ref a) ce'.frame) (fun _ t4 => wpAny (model X.prog X.w) X.A (throw (.ref a) : Sem Value) (fun _ _ => False) X.xe t4) X.xe { t with heap := h' } := by
    rw [ef, hf]
    refine HandSPX.setFlight_onZ held' fun h4 hh4 up4 => wpAny_throw (tk _ _ ?_)
    refine ⟨a, PySem.W.hideAll G [C], _, pins, σ, H', c, d, rfl, I2, fun b o e hb => PySem.W.hideAll_get _ (g b o (notC e).2 hb) fun hm => (notC e).1 (List.mem_singleton.mp hm), fun b o e dd => ?_, .inr (.inr (by rw [hs]; exact hh4)), na, os, ag, w⟩
    obtain ⟨sl, e1⟩ := (up.trans up1) b o (notC e).2 dd
    exact up4 b _ ((sb.2 b (notC e).1).trans e1) dd |>.elim fun sl2 e2 => ⟨sl2, e2⟩
  first
    | exact wpAny_bind (wpAny_pure (wpAny_bind fin))
    | exact wpAny_bind fin

abbrev blkE (X : Cx) (s : Shared) (H : Hp) (scope : Scope) (ce : Env) (fp : List Addr) (E : XK) : Cx := (X.blk s H scope ce fp).wish (XF (X.blk s H scope ce fp) E)

theorem lcX_core {Q : VK} {elt tg iter : Expr} {ifs : List Expr} {scope : Scope} {own : List (Str × Nat)} {pos pos' : Pos} {wi : TI} {g : TG} {tt : TT} {te : TE} {use : Option (Value → Sem Unit)} {Qf : Value → Shared → Prop} {E : XK}
    (hs : X.stack = X.env :: X.outer) (hf : X.env.frame = some X.env.locals) (tk : Takes X fun c d _ H => E c d H)
    (hc : X.calm = true) (hN : X.N.Nodup) (I : Inv X pins σ H s) (hi : PI X tg iter wi) (ok : BlkOk X.N X.env.scope scope own)
    (hg : ∀ s H C cl fp, PG (blkE X s H scope (compEnvC scope cl C X.env) fp E) tg g)
    (ht : ∀ s H C cl fp, PTs (blkE X s H scope (compEnvC scope cl C X.env) fp E) ifs tt)
    (he : ∀ s H C cl fp, PE (blkE X s H scope (compEnvC scope cl C X.env) fp E) elt te)
    (hfold : ∀ x, foldedSetIterable iter X.env x = pure x) (h : tLc wi g tt te (own.map (·.2)) σ H Q)
    (fin : ∀ D C t m H', Inv X pins σ H' t → Q (.ref D) H' → t.heap.Ns C m → FpOk X pins H' C → compPost (model X.prog X.w) X.A X.xe use Qf (.ref D) C (.ok .next) t) :
    wpAny (model X.prog X.w) X.A (comprehension (.ListComp elt [⟨tg, iter, ifs, 0⟩] scope pos) scope X.env pos' (newList []) false (eval iter X.env) use) Qf X.xe s := by
  refine comp_freeX (use := use) rfl hfold (closure_ok fun y hy e => ?_) ok.kind (fun y hy e => (ok.uniq y hy).trans (congrArg some e)) (thn (hi.run pins s σ H _ I h) fun xv s1 hx => thn hx fun itv s2 h2 => ?_)
  · rcases ok.free y hy e with k | k
    · exact I.ok.has _ (.inl k)
    · exact I.ok.has _ (.inr k)
  obtain ⟨it, fp, tn, J, H2, rfl, I2, T, st2, f2, q⟩ := h2
  refine wpAny_newObj_type (newEnv_comp ⟨rfl, ?_⟩) (Nat.zero_le _)
  -- the new list
  obtain ⟨D, hD⟩ : ∃ D, D = s2.heap.objs.size := ⟨_, rfl⟩
  have free : H2 D = none := I2.hok.fresh (Nat.le_of_eq hD.symm)
  obtain ⟨W, ⟨m0, w0⟩, turn⟩ := q D free
  obtain ⟨s3, hs3⟩ : ∃ t : Shared, t = { s2 with heap := s2.heap.push { cls := .type "list", data := .seq ([] : List Value).toArray } } := ⟨_, rfl⟩
  obtain ⟨H3, hH3⟩ : ∃ A : Hp, A = upd H2 D (.lst []) := ⟨_, rfl⟩
  rw [← hH3] at w0
  have kp3 : ∀ b o, s2.heap.get? b = some o → s3.heap.get? b = some o := fun b o e => by
    rw [hs3]
    exact Heap.get?_push_of_some _ e
  have I3 : Inv X pins σ H3 s3 := by
    rw [hs3, hH3]
    refine I2.laid (t' := s2.toks) (fun b o e => Heap.get?_push_of_some _ e) (Nat.le_of_eq hD.symm) ⟨Nat.zero_le _, [], 0, .nil, ?_⟩
    rw [hD]
    exact Heap.get?_push_size _ rfl
  have low : ∀ b ∈ fp, b < s2.heap.objs.size := fun b hb => (T.obj _ _ st2 b hb).elim fun o e => Heap.lt_size e.1
  have f3 : ∀ b ∈ fp, FpOk X pins H3 b ∧ b < s3.heap.objs.size := fun b hb => by
    refine ⟨⟨?_, (f2 b hb).2⟩, ?_⟩
    · rw [hH3, upd_ne (fun z => Nat.lt_irrefl _ (Nat.lt_of_lt_of_eq (low b hb) (hD.symm.trans z.symm)))]
      exact (f2 b hb).1
    · rw [hs3]
      show b < Array.size _
      rw [Heap.size_push]
      exact Nat.lt_succ_of_lt (low b hb)
  have st3 : tn 0 s3.heap := T.keep _ _ _ st2 fun b _ o e => kp3 b o e
  have I4 := block_start I3 ok hN f3
  obtain ⟨ce, hce⟩ : ∃ ce : Env, ce = compEnvC scope (cellsFrom (s3.heap.objs.size + 1) scope.names (cloFrom X.env.cells scope.names [])) s3.heap.objs.size X.env := ⟨_, rfl⟩
  have pg := hg s3 H3 s3.heap.objs.size (cellsFrom (s3.heap.objs.size + 1) scope.names (cloFrom X.env.cells scope.names [])) fp
  have pt := ht s3 H3 s3.heap.objs.size (cellsFrom (s3.heap.objs.size + 1) scope.names (cloFrom X.env.cells scope.names [])) fp
  have pe := he s3 H3 s3.heap.objs.size (cellsFrom (s3.heap.objs.size + 1) scope.names (cloFrom X.env.cells scope.names [])) fp
  rw [← hce] at I4 pg pt pe
  have eL : ce.locals = s3.heap.objs.size := by rw [hce]; rfl
  have eF : ce.frame = X.env.frame := by rw [hce]; rfl
  obtain ⟨s4, hs4⟩ : ∃ t : Shared, t = { s3 with heap := pushCells (s3.heap.push { cls := .type "dict", data := .dict #[] }) scope.names } := ⟨_, rfl⟩
  rw [← hs4] at I4
  have st4 : tn 0 s4.heap := T.keep _ _ _ st3 fun b _ o e => by
    rw [hs4]
    exact pushCells_keeps _ _ _ _ (Heap.get?_push_of_some _ e)
  have out : ∀ u t, XF (X.blk s3 H3 scope ce fp) E u t → notedBy (model X.prog X.w) X.A ce (fun e t' => CPost (model X.prog X.w) X.A X.xe X.env.frame use Qf (.ref D) s3.heap.objs.size (.error e) t') u t :=
    fun u t x => out_of_block I3 hs hf tk (fun b hb => (f3 b hb).1) eL eF x
  have fpB : ∀ {σ' : L2.St} {H' : Hp} {t : Shared}, Inv (blkE X s3 H3 scope ce fp E) [] σ' H' t → (∀ b ∈ fp, H' b = none) → ∀ b ∈ fp, FpOk (blkE X s3 H3 scope ce fp E) [] H' b := fun {σ' H' t} I' hn b hb =>
    ⟨hn b hb, (I'.ok.exf b hb).1, I'.ok.exfs b hb, .inl hb, fun x c e => (I'.ok.exf b hb).2 x c e, fun p hp => absurd (show p ∈ ([] : List (Addr × Obj)) ++ [] from hp) (by simp)⟩
  have loop : codeAny (model X.prog X.w) X.A (.compLoop (.ListComp elt [⟨tg, iter, ifs, 0⟩] scope pos) 0 (.ref it) (.ref D) ce) (CPost (model X.prog X.w) X.A X.xe X.env.frame use Qf (.ref D) s3.heap.objs.size) s4 := by
    refine compLoop_any (fun n t => ∃ i H', Inv (blkE X s3 H3 scope ce fp E) [] (wipe σ (own.map (·.2))) H' t ∧ tn i t.heap ∧ (∀ b ∈ fp, H' b = none) ∧ W i n H') ?_ m0 ⟨0, H3, I4.wish _, st4, fun b hb => (f3 b hb).1.1, w0⟩
    rintro n s5 ⟨i, H5, I5, st5, n5, w5⟩
    rcases turn i n H5 w5 with ⟨stop, qq⟩ | ⟨goes, Nx, hNx, step⟩
    · refine thnF (T.done (blkE X s3 H3 scope ce fp E) rfl rfl rfl hc i [] s5 _ H5 (fun _ _ => False) I5 (fpB I5 n5) st5 stop) fun r s6 ⟨hr, I6'⟩ => ?_
      subst hr
      have I6 := I6'.unwish
      have I7 : Inv X pins σ H5 s6 := I3.call' (ch := fp) I6.os I6.base I6.hok I6.bare fun b hb => ⟨(f3 b hb).1.2.2.2.1, (f3 b hb).1.2.1, (f3 b hb).1.2.2.2.2.1, (f3 b hb).1.2.2.2.2.2⟩
      have nC : H5 s3.heap.objs.size = none := eL ▸ (show H5 ce.locals = none from I6.free)
      obtain ⟨m, hn, _⟩ := I6.loc
      have hn : s6.heap.Ns ce.locals m := hn
      rw [eL] at hn
      exact fin D s3.heap.objs.size s6 m H5 I7 qq hn (I3.fpOk (Nat.le_refl _) nC)
    · refine thnF (T.item (blkE X s3 H3 scope ce fp E) rfl rfl rfl hc i [] s5 _ H5 (fun _ _ => False) I5 (fpB I5 n5) st5 goes) fun r s6 ⟨u, hr, h6⟩ => ?_
      subst hr
      refine thnF h6 fun _ s7 ⟨x, H7, I7, r7, y7, st7, n7⟩ => ?_
      have I7' := I7.pinned (fpB I7 n7) (T.obj _ _ st7)
      refine wpAny_mono (pg.run _ s7 _ H7 x u _ I7' r7 (step x H7 y7)) (fun _ s8 ⟨σ8, H8, I8, hw8, q8⟩ => ?_) out
      refine wpAny_mono (pt.run _ s8 σ8 H8 _ I8 q8) (fun b s9 ⟨H9, I9, q9⟩ => ?_) out
      have next : ∀ {t : Shared} {H' : Hp}, Inv (blkE X s3 H3 scope ce fp E) ([] ++ pinsAt fp s7.heap) σ8 H' t → Nx H' → ∃ m, m < n ∧ ∃ i H', Inv (blkE X s3 H3 scope ce fp E) [] (wipe σ (own.map (·.2))) H' t ∧ tn i t.heap ∧ (∀ b ∈ fp, H' b = none) ∧ W i m H' := fun {t H'} I' nx => by
        obtain ⟨m', hm, w'⟩ := hNx H' nx
        have at7 : ∀ b ∈ fp, ∀ o, s7.heap.get? b = some o → t.heap.get? b = some o ∧ H' b = none := fun b hb o e =>
          ⟨(I'.pin (b, o) (List.mem_append_right _ (List.mem_append_right _ (mem_pinsAt hb e)))).1, (I'.pin (b, o) (List.mem_append_right _ (List.mem_append_right _ (mem_pinsAt hb e)))).2.1⟩
        have len8 : (wipe σ (own.map (·.2))).length = σ8.length := by rw [← hw8, wipe_length]
        refine ⟨m', hm, i + 1, H', (I'.unpinned (pins := [])).weak len8 (fun j v e => ?_), T.keep _ _ _ st7 fun b hb o e => (at7 b hb o e).1, fun b hb => ?_, w'⟩
        · rw [← hw8] at e
          exact (wipe_some e).1
        · obtain ⟨o, e, _⟩ := T.obj _ _ st7 b hb
          exact (at7 b hb o e).2
      cases b with
      | false =>
        simp only [Bool.false_eq_true, if_false] at q9 ⊢
        exact next I9 q9
      | true =>
        simp only [if_true] at q9 ⊢
        refine wpAny_mono (pe.run _ s9 σ8 H9 _ I9 q9) (fun z s10 ⟨yv, H10, I10, r10, acc, hD10, hz10, nx⟩ => ?_) out
        exact app_ok (X := blkE X s3 H3 scope ce fp E) I10 hD10 hz10 r10 fun s11 I11 => next I11 nx
  rw [← hs3]
  have done := codeAny_compStart_list loop (T.self X.A 0 _ _ _ st4 loop)
  rw [hs4, hce] at done
  rw [← hD]
  exact done
theorem pe_lcX {elt tg iter : Expr} {ifs : List Expr} {scope : Scope} {own : List (Str × Nat)} {pos : Pos} {wi : TI} {g : TG} {tt : TT} {te : TE} {E : XK}
    (hs : X.stack = X.env :: X.outer) (hf : X.env.frame = some X.env.locals) (tk : Takes X fun c d _ H => E c d H)
    (hc : X.calm = true) (hN : X.N.Nodup) (hi : PI X tg iter wi) (ok : BlkOk X.N X.env.scope scope own)
    (hg : ∀ s H C cl fp, PG (blkE X s H scope (compEnvC scope cl C X.env) fp E) tg g)
    (ht : ∀ s H C cl fp, PTs (blkE X s H scope (compEnvC scope cl C X.env) fp E) ifs tt)
    (he : ∀ s H C cl fp, PE (blkE X s H scope (compEnvC scope cl C X.env) fp E) elt te)
    (hfold : ∀ x, foldedSetIterable iter X.env x = pure x := by intro _; rfl) :
    PE X (.ListComp elt [⟨tg, iter, ifs, 0⟩] scope pos) (tLc wi g tt te (own.map (·.2))) := by
  refine ⟨fun pins s σ H Q I h => ?_⟩
  rw [eval_ListComp]
  refine lcX_core hs hf tk hc hN I hi ok hg ht he hfold h fun D C t m H' I' q hn f => ⟨m, hn, fun h'' sb => ?_⟩
  obtain ⟨f0, f1, _, f3, f4, f5⟩ := f
  exact ⟨.ref D, H', I'.turned (t' := t.toks) (fun b o hb e => (sb.2 b hb).trans e) f0 f1 f3 f4 f5, rfl, q⟩
theorem ps_setLcX {i : Nat} {y : Str} {py : Pos} {elt tg iter : Expr} {ifs : List Expr} {scope : Scope} {own : List (Str × Nat)} {pos spos : Pos} {wi : TI} {g : TG} {tt : TT} {te : TE} {E : XK}
    (hs : X.stack = X.env :: X.outer) (hf : X.env.frame = some X.env.locals) (tk : Takes X fun c d _ H => E c d H)
    (hc : X.calm = true) (hN : X.N.Nodup) (hy : X.N[i]? = some y) (hyl : X.env.scope.names.lookup y = some .local)
    (hsw : swapsWith (.ListComp elt [⟨tg, iter, ifs, 0⟩] scope pos) (some (.Name y py)) spos.line X.env = pure true) (hi : PI X tg iter wi) (ok : BlkOk X.N X.env.scope scope own)
    (hg : ∀ s H C cl fp, PG (blkE X s H scope (compEnvC scope cl C X.env) fp E) tg g)
    (ht : ∀ s H C cl fp, PTs (blkE X s H scope (compEnvC scope cl C X.env) fp E) ifs tt)
    (he : ∀ s H C cl fp, PE (blkE X s H scope (compEnvC scope cl C X.env) fp E) elt te)
    (hfold : ∀ x, foldedSetIterable iter X.env x = pure x := by intro _; rfl) :
    PS X (.Assign [.Name y py] (.ListComp elt [⟨tg, iter, ifs, 0⟩] scope pos) spos) (tAsg (tLc wi g tt te (own.map (·.2))) (gName i)) := by
  refine ⟨fun pins s σ H D I h => ?_⟩
  rw [exec_Assign_Name_used _ _ _ _ hsw]
  refine wpAny_bind (wpAny_standAt (wpAny_bind ?_))
  have h : tLc wi g tt te (own.map (·.2)) σ H (fun x H1 => gName i x σ H1 D.nx) := h
  refine wpAny_bind (thn (lcX_core (Qf := fun _ t => SP X pins D .next t) (use := some (assign (.Name y py) X.env)) hs hf tk hc hN I hi ok hg ht he hfold h fun L C t m H' I' q hn f => ?_) fun _ t hq => wpAny_pure (wpAny_pure hq))
  refine wpAny_assign_Name (store_ok2 (v := V.ref L) I' hN hy (.inl hyl) rfl (fun s2 I2 ⟨a, sb, ha⟩ => ?_) (.inr hyl))
  obtain ⟨f0, f1, _, f3, f4, f5⟩ := f
  have apart : C ≠ a := by
    rcases ha with z | z
    · exact fun e => f1 (e.trans z)
    · exact fun e => f4 y a z e.symm
  exact ⟨m, hn.sameBut sb apart, fun h3 sb3 => ⟨_, H', I2.turned (t' := s2.toks) (fun b o hb e => (sb3.2 b hb).trans e) f0 f1 f3 f4 f5, q⟩⟩
/-- what a call lets out within such a block -/
theorem pass_blk {s : Shared} {H : Hp} {scope : Scope} {ce : Env} {fp : List Addr} {E : XK} {σ : L2.St} : PassesAt (L2.CX X.prog X.w) (blkE X s H scope ce fp E) σ E :=
  fun pins H' s' e t I c => XF.of_call (X := X.blk s H scope ce fp) I.unwish c
end
end MR

namespace MR
open PySem PySem.Spec PyProof.Rows L2
open PySem.W (maxOf max_list_datum_default HoldAll HoldAll.of_ints int_of_holds)

/-! a call of what any expression gives: one of a table of defs -/
/-- what is known of a def that the table holds -/
structure Entry (P : Program) (w : World) (K : PySem.W.Frag) (mg : Str → Option Value) (base : Heap) (CX : CXT) (k : Nat) (f : Addr) (sp : Sp) : Prop where
  ok : ∃ j fd ps, j ≤ k ∧ FnOk P w K mg base CX j f fd ps sp ∧ Binds K fd ps []
  kp : PySem.W.keepIn K (.ref f) = true
def tCallE (tab : Addr → Sp → Prop) (E : L2.St → XK) (tf : TE) (t : TA) : TE := fun σ H Q =>
  tf σ H fun x H1 => ∃ f sp, x = .ref f ∧ tab f sp ∧ t σ H1 fun vs H2 => sp vs H2 Q (E σ)
theorem pe_callE {X : Cx} {CX : CXT} {k : Nat} {tab : Addr → Sp → Prop} {E : L2.St → XK} {fe e : Expr} {es : List Expr} {pos : Pos} {tf : TE} {t : TA}
    (hf : PE X fe tf) (ht : ∀ f sp, tab f sp → Entry X.prog X.w X.K X.mg X.base CX k f sp) (hr : Room k X.A) (hx : ∀ σ, PassesAt CX X σ (E σ)) (ha : PA X (e :: es) t)
    (hev : eval (.Call fe (e :: es) [] pos) X.env = (do
      let f ← eval fe X.env
      callWith pos f [] (backTo pos (starEach (e :: es) X.env)) (backToKw pos (keywordEach [] X.env))) := by rfl)
    (he : starEach (e :: es) X.env = (false, eval e X.env) :: starEach es X.env := by rfl) (hpl : (backTo pos (starEach es X.env)).any (·.1) = false := by rfl) :
    PE X (.Call fe (e :: es) [] pos) (tCallE tab E tf t) := by
  refine ⟨fun pins s σ H Q I h => ?_⟩
  rw [hev]
  refine wpAny_bind (thn (hf.run pins s σ H _ I h) fun v s1 hv => ?_)
  obtain ⟨x, H1, I1, r1, f, sp, ex, hm, q⟩ := hv
  subst ex
  cases r1
  obtain ⟨⟨j, fd, ps, hj, F, B⟩, kp⟩ := ht f sp hm
  refine PySem.W.callWith_K (h₀ := X.base) I1.ok.mod.kin kp (thn (ha.run pos pins s1 σ H1 _ I1 q) fun us s2 hu => ?_) he hpl
  obtain ⟨vs, H2, I2, r2, q2⟩ := hu
  exact ⟨I2.kIn, run_fnS F (hr.mono hj) B (hx σ) I2 r2 q2⟩

/-! X(), an own error class without an __init__ of its own, made of nothing -/
theorem pmk_own0 {X : Cx} {C : Addr} {bmB : List Value} {B newId initId : String} {x : Str} {p pos : Pos} (F : ExcBaseFacts B newId initId bmB) (q : PySem.W.excIn X.K C bmB newId = true)
    (gC : X.mg x = some (.ref C)) (kC : PySem.W.keepIn X.K (.ref C) = true) (r : Raises X (.ref C)) (hg : Gl X x) (hdb : (x == ("__debug__" : Str)) = false := by decide) :
    PMk X (.Call (.Name x p) [] [] pos) (fun _ H Q => Q (.ref C) none H) := by
  intro pins s σ H Q I h
  refine wpAny_Call_Name_kw (ld_glob I hg gC ?_ hdb)
  refine PySem.W.callWith_K0 I.kIn kC ?_
  obtain ⟨_, _, _, _, _, _, _, _, _, _, _, _, _, _, _, _, _, hC, hN, hni, T⟩ := exc_obj I.kIn q
  exact wpAny_call_exc_subT F T hC hN hni (fun h' e hm => mk_of I hm r h (I.hok.gone hm.new)) (Nat.zero_le _)

/-! max(l, default=d), l a list of ints -/
def rMaxOr (K : PySem.W.Frag) : List V → List V → Hp → VK → Prop := fun vs zs H Q => ∃ (a : Addr) (ns : List Int) (d : V), vs = [.ref a] ∧ zs = [d] ∧ SqL K H a (ns.map V.int) ∧
  (ns = [] → Q d H) ∧ ∀ m, m ∈ ns → (∀ y, y ∈ ns → y ≤ m) → Q (.int m) H
theorem maxOf_mem : ∀ (ys : List Int) (y : Int), maxOf y ys ∈ y :: ys ∧ ∀ z ∈ y :: ys, z ≤ maxOf y ys
  | [], y => ⟨List.mem_cons_self, fun z hz => by
    have e : z = y := List.mem_singleton.mp hz
    rw [e]
    exact Int.le_refl _⟩
  | x :: ys, y => by
    have ih := maxOf_mem ys (if PySem.W.DatumOrd.lt y x = true then x else y)
    have e : maxOf y (x :: ys) = maxOf (if PySem.W.DatumOrd.lt y x = true then x else y) ys := rfl
    rw [e]
    by_cases c : PySem.W.DatumOrd.lt y x = true
    · rw [if_pos c] at ih ⊢
      have lt : y < x := of_decide_eq_true c
      refine ⟨List.mem_cons_of_mem _ ih.1, fun z hz => ?_⟩
      rcases List.mem_cons.mp hz with q | q
      · have := ih.2 x List.mem_cons_self
        omega
      · exact ih.2 z q
    · rw [if_neg c] at ih ⊢
      have ge : ¬ y < x := fun z => c (decide_eq_true z)
      refine ⟨?_, fun z hz => ?_⟩
      · rcases List.mem_cons.mp ih.1 with q | q
        · rw [q]
          exact List.mem_cons_self
        · exact List.mem_cons_of_mem _ (List.mem_cons_of_mem _ q)
      · rcases List.mem_cons.mp hz with q | q
        · rw [q]
          exact ih.2 y List.mem_cons_self
        · rcases List.mem_cons.mp q with q | q
          · have := ih.2 y List.mem_cons_self
            omega
          · exact ih.2 z (List.mem_cons_of_mem _ q)
theorem cr_maxOr {X : Cx} (hc : X.calm = true) (hu : X.A.units + 1 < cLine) : CallRK X (.builtin "max") ["default"] (rMaxOr X.K) := by
  intro pins s σ H vs zs us ws Q I r1 r2 h
  obtain ⟨a, ns, d, rfl, rfl, hq, h0, h1⟩ := h
  cases r1 with
  | cons ra rn =>
    cases rn
    cases ra
    cases r2 with
    | cons rd rn2 =>
      rename_i w _
      cases rn2
      obtain ⟨its, rv, pl, hz⟩ := I.list hq
      refine max_list_datum_default (I.ok.hd hc) pl.isList (HoldAll.of_ints (by simpa using Vals.ints rv)) (by show X.A.units + 1 + 0 < cLine; omega) (fun e h' tk k => ?_) fun y ys i v h' tk e hi hv k => ?_
      · exact ⟨d, H, I.kept (t' := tk) k, rd, h0 e⟩
      · obtain ⟨t, rfl⟩ := int_of_holds hv
        have mm := maxOf_mem ys y
        refine ⟨.int (maxOf y ys), H, I.kept (t' := tk) k, ⟨t, rfl⟩, h1 _ ?_ ?_⟩
        · rw [e]
          exact mm.1
        · rw [e]
          exact mm.2

/-! len(set(l)), l a list of ints -/
def dedup (ns : List Int) : List Int := PyProof.Rows.firstMet (fun i => ns.getD i 0) ns.length
def tLenSetG (K : PySem.W.Frag) (ta : TE) : TE := fun σ H Q => ta σ H fun x H1 => ∃ (l : Addr) (ns : List Int), x = .ref l ∧ SqL K H1 l (ns.map V.int) ∧ ns.length ≤ 4000 ∧ Q (.int ((dedup ns).length : Nat)) H1
theorem pe_lenSetG {X : Cx} {a : Expr} {ta : TE} {p p2 q pos : Pos} (hg : Gl X "len") (hm : X.mg "len" = none) (hg2 : Gl X "set") (hm2 : X.mg "set" = none) (ha : PE X a ta) (hc : X.calm = true := by rfl)
    (na : starEach [a] X.env = (false, eval a X.env) :: starEach [] X.env := by rfl) : PE X (.Call (.Name "len" p) [.Call (.Name "set" p2) [a] [] q] [] pos) (tLenSetG X.K ta) := by
  refine ⟨fun pins s σ H Q I h => Call_ (ld_blt I hg hm boot_len (PyProof.Rows.callWith_builtin1 (PyProof.Rows.args_cons (Call_ (ld_blt I hg2 hm2 boot_set ?_)) rfl) rfl rfl))⟩
  refine PyProof.Rows.callWith_type1 (PyProof.Rows.args_cons (thn (ha.run pins s σ H _ I h) fun v s1 hv => PyProof.Rows.args_nil ?_) na) na rfl
  obtain ⟨x, H1, I1, r1, l, ns, rfl, hq, hl, q1⟩ := hv
  cases r1
  obtain ⟨its, r, pl, _⟩ := I1.list hq
  have hlen : its.toArray.size = ns.length := by rw [List.size_toArray, ← r.length, List.length_map]
  refine call_set_list (I1.ok.hd hc) pl.isList (by simpa using RZ.intsAre_vals r) (by rw [hlen]; unfold scanBound; omega) fun h' tk hS hk => PyProof.Rows.args_nil ?_
  rw [hlen] at hS
  have lt : (dedup ns).length ≤ ns.length := PyProof.Rows.firstMet_length_le _ _
  obtain ⟨o, es, ep, t, ho, hex, hd, _, _, _, hf, hn⟩ := hS
  have hn : _ = (dedup ns).length := hn
  exact call_len_set ho hex hd hf (by omega) ⟨.int (dedup ns).length, H1, (I1.kept (t' := tk) fun b o e => hk b o (Heap.lt_size e) e).tok _, ⟨_, by rw [hn]⟩, q1⟩
theorem firstMet_nodup : ∀ (val : Nat → Int) (i : Nat), (PyProof.Rows.firstMet val i).Nodup ∧ ∀ z, z ∈ PyProof.Rows.firstMet val i ↔ z ∈ (List.range i).map val
  | val, 0 => ⟨List.nodup_nil, fun z => by simp [PyProof.Rows.firstMet_zero]⟩
  | val, i + 1 => by
    have ⟨h1, h2⟩ := firstMet_nodup val i
    rw [PyProof.Rows.firstMet_succ, List.range_succ, List.map_append]
    unfold PyProof.Rows.step_dedup
    by_cases c : (PyProof.Rows.firstMet val i).any (fun x => x == val i) = true
    · have c2 := c
      rw [List.any_eq_true] at c2
      obtain ⟨y, hy, e⟩ := c2
      have e : y = val i := eq_of_beq e
      rw [e] at hy
      rw [if_pos c]
      refine ⟨h1, fun z => ?_⟩
      rw [h2, List.mem_append]
      refine ⟨.inl, fun q => q.elim id fun q => ?_⟩
      have q : z = val i := by simpa using q
      rw [q]
      exact (h2 _).mp hy
    · rw [if_neg c]
      refine ⟨?_, fun z => ?_⟩
      · rw [List.nodup_append]
        refine ⟨h1, by simp, fun a ha b hb e => c ?_⟩
        have hb : b = val i := by simpa using hb
        rw [List.any_eq_true]
        exact ⟨a, ha, by rw [e, hb]; exact beq_self_eq_true _⟩
      · rw [List.mem_append, List.mem_append, h2]
        simp
theorem nodup_len : ∀ (l m : List Int), l.Nodup → (∀ z ∈ l, z ∈ m) → l.length ≤ m.length
  | [], _, _, _ => Nat.zero_le _
  | a :: l, m, h, s => by
    obtain ⟨h1, h2⟩ := List.nodup_cons.mp h
    have ha : a ∈ m := s a List.mem_cons_self
    have ih := nodup_len l (m.erase a) h2 fun z hz => (List.mem_erase_of_ne fun e => h1 (by rw [← e]; exact hz)).mpr (s z (List.mem_cons_of_mem _ hz))
    rw [List.length_erase_of_mem ha] at ih
    have := List.length_pos_of_mem ha
    rw [List.length_cons]
    omega
theorem firstMet_full : ∀ (val : Nat → Int) (i : Nat), (PyProof.Rows.firstMet val i).length = i → PyProof.Rows.firstMet val i = (List.range i).map val
  | val, 0, _ => rfl
  | val, i + 1, h => by
    have le := PyProof.Rows.firstMet_length_le val i
    have ih := firstMet_full val i
    rw [PyProof.Rows.firstMet_succ] at h ⊢
    rw [List.range_succ, List.map_append]
    unfold PyProof.Rows.step_dedup at h ⊢
    by_cases c : (PyProof.Rows.firstMet val i).any (fun x => x == val i) = true
    · rw [if_pos c] at h
      omega
    · rw [if_neg c] at h ⊢
      rw [List.length_append, List.length_singleton] at h
      rw [ih (by omega)]
      rfl
theorem dedup_lt (ns : List Int) : decide (((dedup ns).length : Int) < (ns.length : Int)) = decide (¬ ns.Nodup) := by
  have hmap : (List.range ns.length).map (fun i => ns.getD i 0) = ns := by
    apply List.ext_getElem?
    intro i
    rw [List.getElem?_map]
    by_cases h : i < ns.length
    · rw [List.getElem?_range h]
      simp [h]
    · rw [List.getElem?_eq_none (by simpa using h), List.getElem?_eq_none (by simpa using h)] <;> rfl
  obtain ⟨h1, h2⟩ := firstMet_nodup (fun i => ns.getD i 0) ns.length
  rw [hmap] at h2
  have sub : ns ⊆ dedup ns := fun z hz => (h2 z).mpr hz
  apply decide_eq_decide.mpr
  constructor
  · intro lt hn
    have := nodup_len ns (dedup ns) hn sub
    omega
  · intro hn
    have le : (dedup ns).length ≤ ns.length := PyProof.Rows.firstMet_length_le _ _
    rcases Nat.lt_or_ge (dedup ns).length ns.length with q | q
    · omega
    · have e := firstMet_full (fun i => ns.getD i 0) ns.length (Nat.le_antisymm le q)
      rw [hmap] at e
      rw [e] at h1
      exact absurd h1 hn
end MR

/-! Data in the heap, and what is kept of it. -/
namespace MR
open PySem PySem.Spec PyProof.Rows L2

theorem Same.seqT {K : PySem.W.Frag} {H H' : Hp} {a : Addr} {xs : List V} (e : Same H H') (h : SqT K H a xs) : SqT K H' a xs := by
  rcases h with (h | ⟨o, h⟩) | h
  · exact .inl (.inl (e _ _ h))
  · exact .inl (.inr ⟨o, e _ _ h⟩)
  · exact .inr h
mutual
theorem dmono {K : PySem.W.Frag} {H H' : Hp} (e : Same H H') : ∀ {d : PyData} {v : V}, Dp K H v d → Dp K H' v d
  | .none, _, x => by cases x; exact .non
  | .bool b, _, x => by cases x; exact .bl b
  | .int i, _, x => by cases x; exact .int i
  | .str s, _, x => by cases x; exact .str s
  | .list ds, _, x => by
    cases x with
    | lst hs ha => exact .lst (e.seq hs) (dmonoAll e ha)
  | .tuple ds, _, x => by
    cases x with
    | tup hs ha => exact .tup (Same.seqT e hs) (dmonoAll e ha)
  | .dict _, _, x => by cases x
theorem dmonoAll {K : PySem.W.Frag} {H H' : Hp} (e : Same H H') : ∀ {ds : List PyData} {vs : List V}, DpAll K H vs ds → DpAll K H' vs ds
  | [], _, x => by cases x; exact .nil
  | d :: ds, _, x => by
    cases x with
    | cons h t => exact .cons (dmono e h) (dmonoAll e t)
end
theorem DpAll.length {K : PySem.W.Frag} {H : Hp} : ∀ {ds : List PyData} {vs : List V}, DpAll K H vs ds → vs.length = ds.length
  | [], _, x => by cases x; rfl
  | d :: ds, _, x => by
    cases x with
    | cons h t => rw [List.length_cons, List.length_cons, DpAll.length t]
theorem DpAll.get {K : PySem.W.Frag} {H : Hp} : ∀ {ds : List PyData} {vs : List V} {i : Nat} {d : PyData}, DpAll K H vs ds → ds[i]? = some d → ∃ v, vs[i]? = some v ∧ Dp K H v d
  | [], _, _, _, _, e => by simp at e
  | d :: ds, _, 0, d', x, e => by
    cases x with
    | cons h t =>
      have e : d = d' := by simpa using e
      subst e
      exact ⟨_, rfl, h⟩
  | d :: ds, _, i + 1, d', x, e => by
    cases x with
    | cons h t =>
      obtain ⟨v, h1, h2⟩ := DpAll.get (i := i) t (by simpa using e)
      exact ⟨v, by simpa using h1, h2⟩
theorem DpAll.get' {K : PySem.W.Frag} {H : Hp} {ds : List PyData} {vs : List V} {i : Nat} {v : V} (h : DpAll K H vs ds) (e : vs[i]? = some v) : ∃ d, ds[i]? = some d ∧ Dp K H v d := by
  obtain ⟨hi, _⟩ := List.getElem?_eq_some_iff.mp e
  have hd : i < ds.length := by rw [← DpAll.length h]; exact hi
  obtain ⟨v', e1, e2⟩ := DpAll.get h (List.getElem?_eq_getElem hd)
  rw [e] at e1
  cases e1
  exact ⟨_, List.getElem?_eq_getElem hd, e2⟩
theorem DpAll.snoc {K : PySem.W.Frag} {H : Hp} {d : PyData} {v : V} : ∀ {ds : List PyData} {vs : List V}, DpAll K H vs ds → Dp K H v d → DpAll K H (vs ++ [v]) (ds ++ [d])
  | [], _, x, h => by cases x; exact .cons h .nil
  | _ :: _, _, x, h => by
    cases x with
    | cons h1 t => exact .cons h1 (DpAll.snoc t h)
theorem dint {K : PySem.W.Frag} {H : Hp} : ∀ ns : List Int, DpAll K H (ns.map V.int) (ns.map PyData.int)
  | [] => .nil
  | n :: r => .cons (.int n) (dint r)
theorem of_dint {K : PySem.W.Frag} {H : Hp} : ∀ (ns : List Int) {vs : List V}, DpAll K H vs (ns.map PyData.int) → vs = ns.map V.int
  | [], _, x => by cases x; rfl
  | n :: r, _, x => by
    cases x with
    | cons h t =>
      cases h
      rw [of_dint r t]
      rfl

/-! the kinds of data of the program -/
abbrev dI (n : Int) : PyData := .int n
abbrev dL {α : Type} (f : α → PyData) (l : List α) : PyData := .list (l.map f)
abbrev dLI (ns : List Int) : PyData := dL dI ns
abbrev dP (p : Int × Int) : PyData := .tuple [.int p.1, .int p.2]
/-- a list of ints -/
theorem Dp.ints {K : PySem.W.Frag} {H : Hp} {v : V} {ns : List Int} (h : Dp K H v (dLI ns)) : ∃ a, v = .ref a ∧ SqL K H a (ns.map V.int) := by
  cases h with
  | lst hs ha =>
    rw [of_dint ns ha] at hs
    exact ⟨_, rfl, hs⟩
theorem ints_dp {K : PySem.W.Frag} {H : Hp} {a : Addr} {ns : List Int} (h : SqL K H a (ns.map V.int)) : Dp K H (.ref a) (dLI ns) := .lst h (dint ns)
theorem Dp.pair {K : PySem.W.Frag} {H : Hp} {v : V} {p : Int × Int} (h : Dp K H v (dP p)) : ∃ a, v = .ref a ∧ SqT K H a [.int p.1, .int p.2] := by
  cases h with
  | tup hs ha =>
    cases ha with
    | cons h1 t =>
      cases h1
      cases t with
      | cons h2 t =>
        cases h2
        cases t
        exact ⟨_, rfl, hs⟩
theorem Dp.list {K : PySem.W.Frag} {H : Hp} {v : V} {ds : List PyData} (h : Dp K H v (.list ds)) : ∃ a xs, v = .ref a ∧ SqL K H a xs ∧ DpAll K H xs ds := by
  cases h with
  | lst hs ha => exact ⟨_, _, rfl, hs, ha⟩

/-! what is new, what is kept but at some places -/
/-- what of H' is new over H -/
def nw (H H' : Hp) : Hp := fun b => match H b with
  | some _ => none
  | none => H' b
def hd (D : Addr) (G : Hp) : Hp := fun b => if b = D then none else G b
def Kp (S : Addr → Prop) (H H' : Hp) : Prop := ∀ b o, H b = some o → ¬ S b → H' b = some o
theorem nw_some {H H' : Hp} {b : Addr} {o : HO} (e : nw H H' b = some o) : H b = none ∧ H' b = some o := by
  unfold nw at e
  cases q : H b with
  | some u =>
    rw [q] at e
    cases e
  | none =>
    rw [q] at e
    exact ⟨rfl, e⟩
theorem nw_of {H H' : Hp} {b : Addr} {o : HO} (h : H b = none) (h' : H' b = some o) : nw H H' b = some o := by
  unfold nw
  rw [h]
  exact h'
theorem nw_in {H H' : Hp} : Same (nw H H') H' := fun _ _ e => (nw_some e).2
theorem Kp.same {H H' : Hp} (h : Same H H') {S : Addr → Prop} : Kp S H H' := fun b o e _ => h b o e
theorem Kp.refl {S : Addr → Prop} (H : Hp) : Kp S H H := fun _ _ e _ => e
theorem Kp.trans {S : Addr → Prop} {H H1 H2 : Hp} (a : Kp S H H1) (b : Kp S H1 H2) : Kp S H H2 := fun c o e n => b c o (a c o e n) n
theorem Kp.mono {S T : Addr → Prop} {H H1 : Hp} (a : Kp S H H1) (h : ∀ b, S b → T b) : Kp T H H1 := fun c o e n => a c o e fun z => n (h c z)
/-- every place that was taken stays taken -/
def Tk (H H' : Hp) : Prop := ∀ b, H' b = none → H b = none
theorem Same.tk {H H' : Hp} (h : Same H H') : Tk H H' := fun _ e => h.free e
theorem Tk.trans {H H1 H2 : Hp} (a : Tk H H1) (b : Tk H1 H2) : Tk H H2 := fun c e => a c (b c e)
theorem nw_left {H H1 H2 : Hp} (h : Tk H H1) : Same (nw H1 H2) (nw H H2) := fun b o e => nw_of (h b (nw_some e).1) (nw_some e).2
theorem nw_right {S : Addr → Prop} {H H1 H2 : Hp} (h : Kp S H1 H2) (hs : ∀ b, S b → H b ≠ none) : Same (nw H H1) (nw H H2) := fun b o e =>
  nw_of (nw_some e).1 (h b o (nw_some e).2 fun z => hs b z (nw_some e).1)
theorem nw_right0 {H H1 H2 : Hp} (h : Same H1 H2) : Same (nw H H1) (nw H H2) := fun b o e => nw_of (nw_some e).1 (h b o (nw_some e).2)
theorem hd_in {D : Addr} {G : Hp} : Same (hd D G) G := fun b o e => by
  unfold hd at e
  by_cases h : b = D
  · rw [if_pos h] at e
    cases e
  · rw [if_neg h] at e
    exact e
theorem hd_of {D b : Addr} {G : Hp} {o : HO} (h : b ≠ D) (e : G b = some o) : hd D G b = some o := by
  unfold hd
  rw [if_neg h]
  exact e
theorem hd_ne {D b : Addr} {G : Hp} {o : HO} (e : hd D G b = some o) : b ≠ D ∧ G b = some o := by
  refine ⟨fun h => ?_, hd_in _ _ e⟩
  unfold hd at e
  rw [if_pos h] at e
  cases e
theorem Same.made1 {H : Hp} {a : Addr} {o : HO} (h : H a = none) : Same H (upd H a o) := fun b u e => by
  rw [upd_ne (ne_of_none e h)]
  exact e
theorem nw_made {H H' : Hp} {a : Addr} {o : HO} (h : H a = none) : nw H (upd H' a o) a = some o := nw_of h upd_same
end MR

/-! A comprehension that makes data of each item (or nothing), by one lemma. -/
namespace MR
open PySem PySem.Spec PyProof.Rows L2

theorem filterMap_range_succ {α : Type} (f : Nat → Option α) (i : Nat) : (List.range (i + 1)).filterMap f = (List.range i).filterMap f ++ (match f i with | some d => [d] | none => []) := by
  rw [List.range_succ, List.filterMap_append]
  cases h : f i <;> simp [h]

section
variable {K : PySem.W.Frag} {J : It} {g : TG} {tt : TT} {te : TE} {vs : List Nat} {σ : L2.St} {H1 : Hp} {D : Addr} {Qd : Hp → Prop}
theorem lc_data (n : Nat) (S : Addr → Prop) (R : Nat → Hp → Prop) (f : Nat → Option PyData) (hn : n < 100000) (hD : H1 D = none) (hS : ∀ b, S b → H1 b ≠ none)
    (hR : ∀ i H o, R i H → R i (upd H D o)) (h0 : R 0 H1)
    (hJ : ∀ i H, Kp S H1 H → R i H → (i < n → J.go i H) ∧ (n ≤ i → J.stop i H))
    (turn : ∀ i H acc, i < n → Kp S H1 H → Tk H1 H → R i H → H D = some (.lst acc) → ∀ x H', J.yld i H x H' → ∀ (Kt : V → Hp → Prop) (Kf : Hp → Prop),
      (∀ y H4 d, f i = some d → Kp S H H4 → Tk H H4 → R (i + 1) H4 → Dp K (hd D (nw H1 H4)) y d → Kt y H4) → (∀ H4, f i = none → Kp S H H4 → Tk H H4 → R (i + 1) H4 → Kf H4) →
      g x (wipe σ vs) H' fun σ2 H2 => wipe σ2 vs = wipe σ vs ∧ tt σ2 H2 fun b H3 => if b = true then te σ2 H3 Kt else Kf H3)
    (fin : ∀ H, Kp S H1 H → Tk H1 H → R n H → Dp K (nw H1 H) (.ref D) (.list ((List.range n).filterMap f)) → (∃ xs, H D = some (.lst xs) ∧ DpAll K (nw H1 H) xs ((List.range n).filterMap f)) → Qd H) :
    ∃ W : Nat → Nat → Hp → Prop, (∃ m, W 0 m (upd H1 D (.lst []))) ∧ ∀ i m H, W i m H →
      (J.stop i H ∧ Qd H) ∨ (J.go i H ∧ ∃ Nx : Hp → Prop, (∀ H', Nx H' → ∃ m', m' < m ∧ W (i + 1) m' H') ∧ ∀ x H', J.yld i H x H' → g x (wipe σ vs) H' fun σ2 H2 => wipe σ2 vs = wipe σ vs ∧ tt σ2 H2 fun b H3 =>
        if b = true then te σ2 H3 fun y H4 => ∃ acc, H4 D = some (.lst acc) ∧ acc.length < sizeLine ∧ Nx (upd H4 D (.lst (acc ++ [y]))) else Nx H3) := by
  have nS : ¬ S D := fun z => hS D z hD
  refine ⟨fun i m H => m = n - i ∧ i ≤ n ∧ Kp S H1 H ∧ Tk H1 H ∧ R i H ∧ ∃ acc, H D = some (.lst acc) ∧ acc.length ≤ i ∧ DpAll K (hd D (nw H1 H)) acc ((List.range i).filterMap f),
    ⟨n, by omega, Nat.zero_le _, Kp.same (Same.made1 hD), Same.tk (Same.made1 hD), hR _ _ _ h0, [], upd_same, Nat.le_refl _, .nil⟩, ?_⟩
  rintro i m H ⟨rfl, hi, k1, t1, r1, acc, hacc, hlen, hdat⟩
  obtain ⟨jg, js⟩ := hJ i H k1 r1
  by_cases hlt : i < n
  · refine .inr ⟨jg hlt, fun H' => (i + 1 ≤ n ∧ Kp S H1 H' ∧ Tk H1 H' ∧ R (i + 1) H' ∧ ∃ acc, H' D = some (.lst acc) ∧ acc.length ≤ i + 1 ∧ DpAll K (hd D (nw H1 H')) acc ((List.range (i + 1)).filterMap f)),
      fun H' ⟨q1, q2⟩ => ⟨n - (i + 1), by omega, rfl, q1, q2⟩, fun x H' y => ?_⟩
    have up : ∀ H4, Kp S H H4 → Same (hd D (nw H1 H)) (hd D (nw H1 H4)) := fun H4 k b o e =>
      hd_of (hd_ne e).1 (nw_of (nw_some (hd_ne e).2).1 (k b o (nw_some (hd_ne e).2).2 fun z => hS b z (nw_some (hd_ne e).2).1))
    refine turn i H acc hlt k1 t1 r1 hacc x H' y _ _ (fun v H4 d hf k t r dv => ?_) (fun H4 hf k t r => ?_)
    · have hD4 := k D _ hacc nS
      refine ⟨acc, hD4, ?_, hlt, fun b o e ns => ?_, fun b e => ?_, hR _ _ _ r, acc ++ [v], upd_same, ?_, ?_⟩
      · rw [sizeLine_eq]; omega
      · by_cases hb : b = D
        · rw [hb, hD] at e
          cases e
        · rw [upd_ne hb]
          exact k b o (k1 b o e ns) ns
      · by_cases hb : b = D
        · rw [hb, upd_same] at e
          cases e
        · rw [upd_ne hb] at e
          exact t1 b (t b e)
      · rw [List.length_append, List.length_singleton]
        omega
      · have e5 : Same (hd D (nw H1 H4)) (hd D (nw H1 (upd H4 D (.lst (acc ++ [v]))))) := fun b o e =>
          hd_of (hd_ne e).1 (nw_of (nw_some (hd_ne e).2).1 (by rw [upd_ne (hd_ne e).1]; exact (nw_some (hd_ne e).2).2))
        rw [filterMap_range_succ, hf]
        exact DpAll.snoc (dmonoAll e5 (dmonoAll (up H4 k) hdat)) (dmono e5 dv)
    · refine ⟨hlt, k1.trans k, t1.trans t, r, acc, k D _ hacc nS, by omega, ?_⟩
      rw [filterMap_range_succ, hf, List.append_nil]
      exact dmonoAll (up H4 k) hdat
  · have e : i = n := by omega
    subst e
    exact .inl ⟨js (Nat.le_refl _), fin H k1 t1 r1 (.lst (.inl (.inl (nw_of hD hacc))) (dmonoAll hd_in hdat)) ⟨acc, hacc, dmonoAll hd_in hdat⟩⟩
end
theorem hd_nw {H1 H H4 : Hp} {D : Addr} {o : HO} (t : Tk H1 H) (h : H D = some o) : Same (nw H H4) (hd D (nw H1 H4)) := fun b u e => by
  obtain ⟨e1, e2⟩ := nw_some e
  refine hd_of (fun z => ?_) (nw_of (t b e1) e2)
  rw [z, h] at e1
  cases e1

/-! the iterators over what stays -/
theorem go_list {K : PySem.W.Frag} {H : Hp} {a : Addr} {xs : List V} (h : SqL K H a xs) (i : Nat) : (i < xs.length → (Itl K a).go i H) ∧ (xs.length ≤ i → (Itl K a).stop i H) :=
  ⟨fun l => ⟨xs, xs[i], h, by simp [l]⟩, fun l => ⟨xs, h, l⟩⟩
theorem go_enum {K : PySem.W.Frag} {H : Hp} {a : Addr} {xs : List V} (h : SqL K H a xs) (i : Nat) : (i < xs.length → (Ite K a).go i H) ∧ (xs.length ≤ i → (Ite K a).stop i H) :=
  ⟨fun l => ⟨xs, xs[i], h, by simp [l]⟩, fun l => ⟨xs, h, l⟩⟩
theorem go_zip {K : PySem.W.Frag} {H : Hp} {a b : Addr} {xs ys : List V} (h : SqL K H a xs) (h' : SqL K H b ys) (e : xs.length = ys.length) (i : Nat) : (i < xs.length → (Itz K a b).go i H) ∧ (xs.length ≤ i → (Itz K a b).stop i H) :=
  ⟨fun l => ⟨xs, ys, xs[i], ys[i]'(e ▸ l), h, h', by simp [l], by simp [e ▸ l]⟩, fun l => ⟨xs, ys, h, h', .inl l⟩⟩
theorem Kp.seq {K : PySem.W.Frag} {S : Addr → Prop} {H H' : Hp} {a : Addr} {xs : List V} (e : Kp S H H') (n : ¬ S a) (h : SqL K H a xs) : SqL K H' a xs := by
  rcases h with (h | ⟨o, h⟩) | h
  · exact .inl (.inl (e _ _ h n))
  · exact .inl (.inr ⟨o, e _ _ h n⟩)
  · exact .inr h
/-- nothing is changed -/
abbrev S0 : Addr → Prop := fun _ => False
theorem Kp.all {H H' : Hp} (e : Kp S0 H H') : Same H H' := fun b o h => e b o h id
end MR

/-! Calls of the program's own defs, methods and classes, by what is known of each. -/
namespace MR
open PySem PySem.Spec PyProof.Rows L2

theorem PE.imp {X : Cx} {e : Expr} {t t' : TE} (h : PE X e t) (q : ∀ σ H Q, t' σ H Q → t σ H Q) : PE X e t' := ⟨fun pins s σ H Q I hq => h.run pins s σ H Q I (q _ _ _ hq)⟩

section
variable (P : Program) (w : World) (K : PySem.W.Frag) (mg : Str → Option Value) (base : Heap) (CX : CXT) (k : Nat)
/-- a def by its name -/
structure CalX (x : Str) (sp : Sp) : Prop where
  ex : ∃ (f : Addr) (fd : FuncData) (ps : List Str), FnOk P w K mg base CX k f fd ps sp ∧ Binds K fd ps [] ∧ mg x = some (.ref f) ∧ PySem.W.keepIn K (.ref f) = true
/-- a method of the class at C -/
structure MetX (C : Addr) (m : Str) (sp : Sp) : Prop where
  ex : ∃ (f : Addr) (fd : FuncData) (ps : List Str), FnOk P w K mg base CX k f fd ps sp ∧ Binds K fd ps [] ∧ Meth K C m f
  cl : Cls K C
/-- the class at C, called by its name; sp: its __init__ -/
structure MakX (x : Str) (C : Addr) (sp : Sp) : Prop where
  ex : ∃ (f : Addr) (fd : FuncData) (ps : List Str), FnOk P w K mg base CX k f fd ps sp ∧ Binds K fd ps [] ∧ Mk K C f
  mg : mg x = some (.ref C)
end
section
variable {X : Cx} {CX : CXT} {k j : Nat} {x m : Str} {C : Addr} {sp : Sp} {E : XK} {p pos apos : Pos} {e o : Expr} {es : List Expr} {ta : TE} {t : TA}
def tK (sp : Sp) (E : XK) (t : TA) : TE := fun σ H Q => t σ H fun vs H1 => sp vs H1 Q E
theorem pe_k (c : CalX X.prog X.w X.K X.mg X.base CX k x sp) (hr : Room j X.A) (hk : k ≤ j) (hg : Gl X x) (hx : ∀ σ, PassesAt CX X σ E) (ha : PA X (e :: es) t)
    (hdb : (x == ("__debug__" : Str)) = false := by decide) (he : starEach (e :: es) X.env = (false, eval e X.env) :: starEach es X.env := by rfl) (hpl : (backTo pos (starEach es X.env)).any (·.1) = false := by rfl) :
    PE X (.Call (.Name x p) (e :: es) [] pos) (tK sp E t) := by
  obtain ⟨f, fd, ps, F, B, hm, kp⟩ := c.ex
  exact PE.imp (pe_callS (E := fun _ => E) F (hr.mono hk) hg hm kp B hx ha hdb he hpl) fun _ _ _ q => q

def tM (C : Addr) (m : Str) (sp : Sp) (E : XK) (ta : TE) (t : TA) : TE := fun σ H Q => ta σ H fun x H1 => ∃ a dx fs, x = .ref a ∧ H1 a = some (.ins C dx fs) ∧ fs.lookup m = none ∧ t σ H1 fun vs H2 => sp (x :: vs) H2 Q E
theorem pe_m {pl : Sem Bool} (ho : PE X o ta) (c : MetX X.prog X.w X.K X.mg X.base CX k C m sp) (hr : Room j X.A) (hk : k ≤ j) (hx : ∀ σ, PassesAt CX X σ E) (ha : PA X (e :: es) t)
    (hst : starEach (e :: es) X.env = (false, eval e X.env) :: starEach es X.env := by rfl) (hpl : (backTo pos (starEach es X.env)).any (·.1) = false := by rfl)
    (ht : eval (.Call (.Attribute o m apos) (e :: es) [] pos) X.env = (do
      let ov ← eval o X.env
      standAt apos.atName
      let (f, first) ← holding [ov] (getMethod ov m pl)
      callWith pos f first (backTo pos (starEach (e :: es) X.env)) (backToKw pos (keywordEach [] X.env))) := by rfl) :
    PE X (.Call (.Attribute o m apos) (e :: es) [] pos) (tM C m sp E ta t) := by
  obtain ⟨f, fd, ps, F, B, hm⟩ := c.ex
  refine ⟨fun pins s σ H Q I h => ?_⟩
  refine PySem.W.methodCall_KW (pl := pl) (thn (ho.run pins s σ H _ I h) fun u s1 hu => ?_) ht
  obtain ⟨y, H1, I1, ry, a, dx, fs, rfl, ea, l, q⟩ := hu
  cases ry
  refine getmeth_ok I1 ea c.cl hm l ?_
  refine PySem.W.callWith_K (first := [.ref a]) (h₀ := X.base) I.ok.mod.kin hm.kp (thn (ha.run pos pins s1 σ H1 _ I1 q) fun us s2 hs => ?_) hst hpl
  obtain ⟨vs, H2, I2, r, q2⟩ := hs
  exact ⟨I2.kIn, run_fnS (E := fun _ => E) (us := .ref a :: us) (vs := .ref a :: vs) F (hr.mono hk) B (hx σ) I2 (.cons rfl r) q2⟩
theorem pe_m0 {pl : Sem Bool} (ho : PE X o ta) (c : MetX X.prog X.w X.K X.mg X.base CX k C m sp) (hr : Room j X.A) (hk : k ≤ j) (hx : ∀ σ, PassesAt CX X σ E)
    (ht : eval (.Call (.Attribute o m apos) [] [] pos) X.env = (do
      let ov ← eval o X.env
      standAt apos.atName
      let (f, first) ← holding [ov] (getMethod ov m pl)
      callWith pos f first (backTo pos (starEach [] X.env)) (backToKw pos (keywordEach [] X.env))) := by rfl) :
    PE X (.Call (.Attribute o m apos) [] [] pos) (tM C m sp E ta tNil) := by
  obtain ⟨f, fd, ps, F, B, hm⟩ := c.ex
  refine ⟨fun pins s σ H Q I h => ?_⟩
  refine PySem.W.methodCall_KW (pl := pl) (thn (ho.run pins s σ H _ I h) fun u s1 hu => ?_) ht
  obtain ⟨y, H1, I1, ry, a, dx, fs, rfl, ea, l, q⟩ := hu
  cases ry
  refine getmeth_ok I1 ea c.cl hm l ?_
  exact PySem.W.callWith_K0 (first := [.ref a]) I1.kIn hm.kp (run_fnS (E := fun _ => E) (us := [.ref a]) (vs := [.ref a]) F (hr.mono hk) B (hx σ) I1 (.cons rfl .nil) q)

def tN (C : Addr) (sp : Sp) (E : XK) (t : TA) : TE := fun σ H Q => t σ H fun vs H1 => ∀ x dx, H1 x = none → H1 dx = none → dx ≠ x →
  sp (.ref x :: vs) (upd (upd H1 dx (.own x)) x (.ins C dx [])) (fun v H2 => v = .non ∧ Q (.ref x) H2) E
theorem TA_imp {t : TA} {σ : L2.St} {H : Hp} {Q Q' : List V → Hp → Prop} {es : List Expr} (_ : PA X es t) (h : Q = Q') (q : t σ H Q) : t σ H Q' := h ▸ q
theorem pe_n (c : MakX X.prog X.w X.K X.mg X.base CX k x C sp) (hr : Room j X.A) (hk : k + 1 ≤ j) (hg : Gl X x) (hx : Passes CX X E) (ha : PA X (e :: es) t)
    (hdb : (x == ("__debug__" : Str)) = false := by decide) (he : starEach (e :: es) X.env = (false, eval e X.env) :: starEach es X.env := by rfl) (hpl : (backTo pos (starEach es X.env)).any (·.1) = false := by rfl) :
    PE X (.Call (.Name x p) (e :: es) [] pos) (tN C sp E t) := by
  obtain ⟨f, fd, ps, F, B, hm⟩ := c.ex
  refine PE.imp (pe_make hm F (hr.mono hk) hg c.mg B .nil hx ha hdb he hpl) fun σ H Q q => ?_
  refine TA_imp ha ?_ q
  funext vs H1
  rw [List.append_nil]
theorem pe_n0 (c : MakX X.prog X.w X.K X.mg X.base CX k x C sp) (hr : Room j X.A) (hk : k + 1 ≤ j) (hg : Gl X x) (hx : Passes CX X E)
    (hdb : (x == ("__debug__" : Str)) = false := by decide) : PE X (.Call (.Name x p) [] [] pos) (tN C sp E tNil) := by
  obtain ⟨f, fd, ps, F, B, hm⟩ := c.ex
  exact PE.imp (pe_make0 hm F (hr.mono hk) hg c.mg B .nil hx hdb) fun σ H Q q => q
/-- a callee that raises nothing -/
theorem quiet {σ : L2.St} : PassesAt CX0 X σ E0 := fun _ _ _ _ _ _ h => h.elim
/-- a callee that may raise, in a def that lets it out -/
theorem loud (tk : Takes X fun c d _ H => E c d H) (σ : L2.St) : PassesAt (L2.CX X.prog X.w) X σ E := fun _ _ _ e s' I c => tk e s' (XE.of_call (W := fun c d _ H => E c d H) I (fun _ _ _ h => h) c)
theorem loudP (tk : Takes X fun c d _ H => E c d H) : Passes (L2.CX X.prog X.w) X E := fun _ σ _ _ e s' I c => loud tk σ _ _ _ e s' I c
end
/-- a module's whole number -/
theorem pe_gi {X : Cx} {x : Str} {i : Int} {pos : Pos} (hg : Gl X x) (hm : ∃ t, X.mg x = some (.int i t)) (hd : (x == ("__debug__" : Str)) = false := by decide) : PE X (.Name x pos) (tC (.int i)) := by
  obtain ⟨t, e⟩ := hm
  exact pe_glob hg e ⟨_, rfl⟩ hd
theorem op_eqI {X : Cx} : OpR X (compareOp .Eq) (rI0 fun i j => .bl (decide (i = j))) := by
  intro pins s σ H x y v u Q I rx ry h
  obtain ⟨i, j, rfl, rfl, q⟩ := h
  obtain ⟨t, rfl⟩ := rx
  obtain ⟨t', rfl⟩ := ry
  exact eq_int (by rw [Bool.beq_eq_decide_eq]; exact ⟨.bl _, H, I, rfl, q⟩)
theorem op_neI {X : Cx} : OpR X (compareOp .NotEq) (rI0 fun i j => .bl (!decide (i = j))) := by
  intro pins s σ H x y v u Q I rx ry h
  obtain ⟨i, j, rfl, rfl, q⟩ := h
  obtain ⟨t, rfl⟩ := rx
  obtain ⟨t', rfl⟩ := ry
  exact ne_int (by rw [bne, Bool.beq_eq_decide_eq]; exact ⟨.bl _, H, I, rfl, q⟩)
theorem units65 {k : Nat} {A : Around} (r : Room k A) : A.units + 65 < cLine := by
  have := r.un
  omega
/-- new data is handed back, all else stays -/
abbrev New (K : PySem.W.Frag) (H : Hp) (Q : VK) (d : PyData) : Prop := ∀ v H', Same H H' → Dp K (nw H H') v d → Q v H'
theorem ite_dec {c : Prop} [Decidable c] {b : Bool} {A B : Prop} (e : b = decide c) (h1 : c → A) (h2 : ¬ c → B) : if b = true then A else B := by
  rw [e]
  by_cases h : c
  · rw [decide_eq_true h, if_pos rfl]
    exact h1 h
  · rw [decide_eq_false h, if_neg Bool.false_ne_true]
    exact h2 h
theorem at_int {ns : List Int} {i : Nat} {z : Int} (h : i < ns.length) (e : z = (i : Int)) : atI (ns.map V.int) z = some (.int (ns.getD i 0)) := by
  rw [e]
  refine atI_nat ?_
  rw [List.getElem?_map, List.getElem?_eq_getElem h]
  simp [h]

/-! the rules whose readings name the written part, with it told: a block's context is another than the def's -/
section
variable {X : Cx} (K : PySem.W.Frag)
theorem ixL (h : X.K = K := by rfl) : IxR X (rIxL K) := by
  subst h
  exact ix_list
theorem ixT (h : X.K = K := by rfl) : IxR X (rIxT K) := by
  subst h
  exact ix_tup
theorem slL (h : X.K = K := by rfl) : SlR X (rSlL K) := by
  subst h
  exact sl_list
theorem lenK (h : X.K = K := by rfl) : CallR X (.builtin "len") (fun xs H Q => ∃ p ys, xs = [.ref p] ∧ (SqL K H p ys ∨ SqT K H p ys) ∧ Q (.int ys.length) H) := by
  subst h
  exact call_len_seq
theorem inK (h : X.K = K := by rfl) : OpR X (compareOp .In) (rIn K false) := by
  subst h
  exact op_in_seq
theorem notInK (h : X.K = K := by rfl) : OpR X (compareOp .NotIn) (rIn K true) := by
  subst h
  exact op_notIn_seq
theorem inD (hu : X.A.units + 65 < cLine) (h : X.K = K := by rfl) : OpR X (compareOp .In) (rInD K) := by
  subst h
  exact op_inD hu
theorem notInD (hu : X.A.units + 65 < cLine) (h : X.K = K := by rfl) : OpR X (compareOp .NotIn) (rNotInD K) := by
  subst h
  exact op_notInD hu
theorem eqD (hu : X.A.units + 64 < cLine) (h : X.K = K := by rfl) : OpR X (compareOp .Eq) (rEqD K) := by
  subst h
  exact op_eqD hu
theorem neD (hu : X.A.units + 64 < cLine) (h : X.K = K := by rfl) : OpR X (compareOp .NotEq) (rNeD K) := by
  subst h
  exact op_neD hu
theorem idxD (hu : X.A.units + 65 < cLine) (h : X.K = K := by rfl) : MtR X "list.index" (rIndexD K) := by
  subst h
  exact mt_indexD hu
theorem sumK (hc : X.calm = true := by rfl) (h : X.K = K := by rfl) : CallR X (.builtin "sum") (rSum K) := by
  subst h
  exact cr_sum hc
theorem maxK (hu : X.A.units + 1 < cLine) (hc : X.calm = true := by rfl) (h : X.K = K := by rfl) : CallRK X (.builtin "max") ["default"] (rMaxOr K) := by
  subst h
  exact cr_maxOr hc hu
variable {e o : Expr} {f : Str} {pos : Pos} {ta : TE} {tl : TE} {tg : Expr}
theorem fldK (he : PE X e ta) (hb : attributeBase e f X.env (eval e X.env) = eval e X.env := by rfl) (h : X.K = K := by rfl) : PE X (.Attribute e f pos) (tFld K ta f) := by
  subst h
  exact pe_fld he hb
theorem tupK {es : List Expr} {k : Nat} {t : TGs} {n : Nat} (hp : PGs X es t) (hc : X.calm = true := by rfl)
    (hn : (assignEach es X.env).length = n := by rfl) (hst : (assignEach es X.env).findIdx? (·.1) = none := by rfl) (h : X.K = K := by rfl) : PG X (.Tuple es k pos) (gTup K n t) := by
  subst h
  exact pg_tup hc hp hn hst
theorem lstK {l : Expr} (hl : PE X l tl) (h : X.K = K := by rfl) : PI X tg l (iList K tl) := by
  subst h
  exact pi_list hl
theorem tplK {l : Expr} (hl : PE X l tl) (h : X.K = K := by rfl) : PI X tg l (iTup K tl) := by
  subst h
  exact pi_tup hl
theorem enumK {ta : TA} {p tpos : Pos} {elts : List Expr} {kk : Nat} (hg : Gl X "enumerate") (hm : X.mg "enumerate" = none) (ha : PA X [e] ta) (hs : starEach [e] X.env = [(false, eval e X.env)] := by rfl) (h : X.K = K := by rfl) :
    PI X (.Tuple elts kk tpos) (.Call (.Name "enumerate" p) [e] [] pos) (iEnum K ta) := by
  subst h
  exact pi_enum hg hm ha hs
theorem zipK {ta : TA} {e2 : Expr} {p tpos : Pos} {elts : List Expr} {kk : Nat} (hg : Gl X "zip") (hm : X.mg "zip" = none) (ha : PA X [e, e2] ta)
    (hs : starEach [e, e2] X.env = (false, eval e X.env) :: starEach [e2] X.env := by rfl) (hpl : (backTo pos (starEach [e2] X.env)).any (·.1) = false := by rfl) (h : X.K = K := by rfl) :
    PI X (.Tuple elts kk tpos) (.Call (.Name "zip" p) [e, e2] [] pos) (iZip K ta) := by
  subst h
  exact pi_zip hg hm ha hs hpl
theorem lenSetK {a : Expr} {ta : TE} {p p2 q pos : Pos} (hg : Gl X "len") (hm : X.mg "len" = none) (hg2 : Gl X "set") (hm2 : X.mg "set" = none) (ha : PE X a ta) (hc : X.calm = true := by rfl)
    (na : starEach [a] X.env = (false, eval a X.env) :: starEach [] X.env := by rfl) (h : X.K = K := by rfl) : PE X (.Call (.Name "len" p) [.Call (.Name "set" p2) [a] [] q] [] pos) (tLenSetG K ta) := by
  subst h
  exact pe_lenSetG hg hm hg2 hm2 ha hc na
theorem bmK {T name id : String} {es : List Expr} {r : V → List V → Hp → VK → Prop} {to : TE} {t : TA} {apos cpos : Pos} (pa : PlainAttrs T) (slot : Slot T name id) (hty : typeOf (.builtin id) = pure (.type "method_descriptor")) (hm : MtR X id r) (ho : PE X o to) (ha : PA X (e :: es) t)
    (hq : PE X (.Call (.Attribute o name apos) (e :: es) [] cpos) (tBM X.K T r to t) := by exact pe_bm (by assumption) (by assumption) (by assumption) (by assumption) (by assumption) (by assumption)) (h : X.K = K := by rfl) :
    PE X (.Call (.Attribute o name apos) (e :: es) [] cpos) (tBM K T r to t) := by
  subst h
  exact hq
theorem lc_yes {te : TE} {σ : L2.St} {H : Hp} {Kt : V → Hp → Prop} {Kf : Hp → Prop} (h : te σ H Kt) : tYes σ H (fun b H3 => if b = true then te σ H3 Kt else Kf H3) := by
  have e : (if true = true then te σ H Kt else Kf H) = te σ H Kt := if_pos rfl
  exact e.mpr h
theorem range_by2 {m : Nat} (h : m ≤ 1000) : RgC 0 (m : Int) 2 ((m + 1) / 2) := by
  refine ⟨by decide, by decide, ?_, ?_⟩
  · have e : Builtin.Range.rangeSize 0 (m : Int) 2 = (((m + 1) / 2 : Nat) : Int) := by
      unfold Builtin.Range.rangeSize
      rw [if_pos (by decide)]
      by_cases c : (0 : Int) < (m : Int)
      · rw [if_pos c]
        omega
      · rw [if_neg c]
        omega
    unfold Builtin.Range.small
    rw [e, if_pos (by decide : (2 : Int) > 0)]
    simp only [Bool.and_eq_true, Bool.or_eq_true, Builtin.Range.rangeFitsLong, decide_eq_true_eq]
    refine ⟨⟨⟨⟨?_, ?_⟩, ?_⟩, ?_⟩, .inr ?_⟩ <;> first | omega | exact ⟨by omega, by omega⟩
  · unfold Builtin.Range.rangeSize
    rw [if_pos (by decide)]
    by_cases c : (0 : Int) < (m : Int)
    · rw [if_pos c]
      omega
    · rw [if_neg c]
      omega
end
end MR

/-! Comprehensions that change nothing: over a list of data, over a range, numbered, over two lists. -/
namespace MR
open PySem PySem.Spec PyProof.Rows L2

theorem fm_range {α : Type} (l : List α) (f : α → Option PyData) : (List.range l.length).filterMap (fun i => (l[i]?).bind f) = l.filterMap f := by
  induction l with
  | nil => rfl
  | cons a l ih =>
    rw [List.length_cons, List.range_succ_eq_map, List.filterMap_cons, List.filterMap_map, List.filterMap_cons]
    have e : ((fun i => ((a :: l)[i]?).bind f) ∘ Nat.succ) = fun i => (l[i]?).bind f := by
      funext i
      simp
    rw [e, ih]
    rfl
theorem DpAll.item {K : PySem.W.Frag} {H : Hp} {α : Type} {enc : α → PyData} {l : List α} {xs : List V} {i : Nat} {x : V} (h : DpAll K H xs (l.map enc)) (e : xs[i]? = some x) : ∃ r, l[i]? = some r ∧ Dp K H x (enc r) := by
  obtain ⟨d, hd, dx⟩ := DpAll.get' h e
  rw [List.getElem?_map] at hd
  cases q : l[i]? with
  | none => rw [q] at hd; cases hd
  | some r =>
    rw [q] at hd
    cases hd
    exact ⟨r, rfl, dx⟩
section
variable {K : PySem.W.Frag} {g : TG} {tt : TT} {te : TE} {vs : List Nat} {σ : L2.St} {H1 : Hp} {D : Addr} {Qd : Hp → Prop}
/-- the conclusion of all of them -/
abbrev LcGoal (J : It) (g : TG) (tt : TT) (te : TE) (vs : List Nat) (σ : L2.St) (H1 : Hp) (D : Addr) (Qd : Hp → Prop) : Prop :=
  ∃ W : Nat → Nat → Hp → Prop, (∃ m, W 0 m (upd H1 D (.lst []))) ∧ ∀ i m H, W i m H →
      (J.stop i H ∧ Qd H) ∨ (J.go i H ∧ ∃ Nx : Hp → Prop, (∀ H', Nx H' → ∃ m', m' < m ∧ W (i + 1) m' H') ∧ ∀ x H', J.yld i H x H' → g x (wipe σ vs) H' fun σ2 H2 => wipe σ2 vs = wipe σ vs ∧ tt σ2 H2 fun b H3 =>
        if b = true then te σ2 H3 fun y H4 => ∃ acc, H4 D = some (.lst acc) ∧ acc.length < sizeLine ∧ Nx (upd H4 D (.lst (acc ++ [y]))) else Nx H3)
/-- what one turn has to do with the item x -/
abbrev LcTurn (K : PySem.W.Frag) (g : TG) (tt : TT) (te : TE) (vs : List Nat) (σ : L2.St) (H1 H H' : Hp) (D : Addr) (x : V) (o : Option PyData) : Prop :=
  ∀ (Kt : V → Hp → Prop) (Kf : Hp → Prop), (∀ y H4 d, o = some d → Same H H4 → Dp K (hd D (nw H1 H4)) y d → Kt y H4) → (∀ H4, o = none → Same H H4 → Kf H4) →
    g x (wipe σ vs) H' fun σ2 H2 => wipe σ2 vs = wipe σ vs ∧ tt σ2 H2 fun b H3 => if b = true then te σ2 H3 Kt else Kf H3
theorem lc_L {α : Type} {enc : α → PyData} {l : List α} {a : Addr} {xs : List V} (f : α → Option PyData) (hn : l.length < 100000) (hD : H1 D = none) (hp : SqL K H1 a xs) (hx : DpAll K H1 xs (l.map enc))
    (turn : ∀ (i : Nat) r x H acc, l[i]? = some r → Same H1 H → H D = some (.lst acc) → Dp K H x (enc r) → LcTurn K g tt te vs σ H1 H H D x (f r))
    (fin : ∀ H, Same H1 H → Dp K (nw H1 H) (.ref D) (.list (l.filterMap f)) → Qd H) : LcGoal (Itl K a) g tt te vs σ H1 D Qd := by
  have hxl : xs.length = l.length := by rw [DpAll.length hx, List.length_map]
  refine lc_data (K := K) l.length S0 (fun _ _ => True) (fun i => (l[i]?).bind f) hn hD (fun _ z => z.elim) (fun _ _ _ z => z) trivial (fun i H k _ => hxl ▸ go_list (k.all.seq hp) i) ?_ ?_
  · rintro i H acc hi k t _ hacc x H' ⟨rfl, q⟩ Kt Kf ht hf
    obtain ⟨r, hr, dx⟩ := DpAll.item hx (q xs (k.all.seq hp))
    have e : (l[i]?).bind f = f r := by rw [hr]; rfl
    exact turn i r x _ acc hr k.all hacc (dmono k.all dx) Kt Kf (fun y H4 d o s dd => ht y H4 d (e.trans o) (Kp.same s) (Same.tk s) trivial dd) fun H4 o s => hf H4 (e.trans o) (Kp.same s) (Same.tk s) trivial
  · intro H k t _ dd _
    rw [fm_range] at dd
    exact fin H k.all dd
theorem lc_R {lo : Int} {n : Nat} (f : Nat → Option PyData) (hn : n < 100000) (hD : H1 D = none)
    (turn : ∀ (i : Nat) H acc, i < n → Same H1 H → H D = some (.lst acc) → LcTurn K g tt te vs σ H1 H H D (.int (lo + i)) (f i))
    (fin : ∀ H, Same H1 H → Dp K (nw H1 H) (.ref D) (.list ((List.range n).filterMap f)) → Qd H) : LcGoal (Itr lo n) g tt te vs σ H1 D Qd := by
  refine lc_data (K := K) n S0 (fun _ _ => True) f hn hD (fun _ z => z.elim) (fun _ _ _ z => z) trivial (fun i H k _ => ⟨id, id⟩) ?_ fun H k t _ dd _ => fin H k.all dd
  rintro i H acc hi k t _ hacc x H' ⟨rfl, rfl⟩ Kt Kf ht hf
  exact turn i _ acc hi k.all hacc Kt Kf (fun y H4 d o s dd => ht y H4 d o (Kp.same s) (Same.tk s) trivial dd) fun H4 o s => hf H4 o (Kp.same s) (Same.tk s) trivial
theorem lc_E {α : Type} {enc : α → PyData} {l : List α} {a : Addr} {xs : List V} (f : Nat → α → Option PyData) (hn : l.length < 100000) (hD : H1 D = none) (hp : SqL K H1 a xs) (hx : DpAll K H1 xs (l.map enc))
    (turn : ∀ (i : Nat) r x H H' acc T, l[i]? = some r → Same H1 H → H D = some (.lst acc) → Dp K H x (enc r) → H T = none → H' = upd H T (.tup [.int (i : Nat), x]) → LcTurn K g tt te vs σ H1 H H' D (.ref T) (f i r))
    (fin : ∀ H, Same H1 H → Dp K (nw H1 H) (.ref D) (.list ((List.range l.length).filterMap fun i => (l[i]?).bind (f i))) → Qd H) : LcGoal (Ite K a) g tt te vs σ H1 D Qd := by
  have hxl : xs.length = l.length := by rw [DpAll.length hx, List.length_map]
  refine lc_data (K := K) l.length S0 (fun _ _ => True) (fun i => (l[i]?).bind (f i)) hn hD (fun _ z => z.elim) (fun _ _ _ z => z) trivial (fun i H k _ => hxl ▸ go_enum (k.all.seq hp) i) ?_ fun H k t _ dd _ => fin H k.all dd
  rintro i H acc hi k t _ hacc v H' ⟨T, x, rfl, hT, rfl, q⟩ Kt Kf ht hf
  obtain ⟨r, hr, dx⟩ := DpAll.item hx (q xs (k.all.seq hp))
  have e : (l[i]?).bind (f i) = f i r := by rw [hr]; rfl
  exact turn i r x _ _ acc T hr k.all hacc (dmono k.all dx) hT rfl Kt Kf (fun y H4 d o s dd => ht y H4 d (e.trans o) (Kp.same s) (Same.tk s) trivial dd) fun H4 o s => hf H4 (e.trans o) (Kp.same s) (Same.tk s) trivial
theorem lc_Z {α β : Type} {enc : α → PyData} {enc2 : β → PyData} {l : List α} {l2 : List β} {a b : Addr} {xs ys : List V} (f : α → β → Option PyData) (hn : l.length < 100000) (hl : l.length = l2.length) (hD : H1 D = none)
    (hp : SqL K H1 a xs) (hx : DpAll K H1 xs (l.map enc)) (hp2 : SqL K H1 b ys) (hy : DpAll K H1 ys (l2.map enc2))
    (turn : ∀ (i : Nat) r q x y H H' acc T, l[i]? = some r → l2[i]? = some q → Same H1 H → H D = some (.lst acc) → Dp K H x (enc r) → Dp K H y (enc2 q) → H T = none → H' = upd H T (.tup [x, y]) → LcTurn K g tt te vs σ H1 H H' D (.ref T) (f r q))
    (fin : ∀ H, Same H1 H → Dp K (nw H1 H) (.ref D) (.list ((List.range l.length).filterMap fun i => (l[i]?).bind fun r => (l2[i]?).bind (f r))) → Qd H) : LcGoal (Itz K a b) g tt te vs σ H1 D Qd := by
  have hxl : xs.length = l.length := by rw [DpAll.length hx, List.length_map]
  have hyl : ys.length = l2.length := by rw [DpAll.length hy, List.length_map]
  refine lc_data (K := K) l.length S0 (fun _ _ => True) (fun i => (l[i]?).bind fun r => (l2[i]?).bind (f r)) hn hD (fun _ z => z.elim) (fun _ _ _ z => z) trivial (fun i H k _ => hxl ▸ go_zip (k.all.seq hp) (k.all.seq hp2) (by omega) i) ?_ fun H k t _ dd _ => fin H k.all dd
  rintro i H acc hi k t _ hacc v H' ⟨T, x, y, rfl, hT, rfl, q, q2⟩ Kt Kf ht hf
  obtain ⟨r, hr, dx⟩ := DpAll.item hx (q xs (k.all.seq hp))
  obtain ⟨r2, hr2, dy⟩ := DpAll.item hy (q2 ys (k.all.seq hp2))
  have e : ((l[i]?).bind fun r => (l2[i]?).bind (f r)) = f r r2 := by rw [hr, hr2]; rfl
  exact turn i r r2 x y _ _ acc T hr hr2 k.all hacc (dmono k.all dx) (dmono k.all dy) hT rfl Kt Kf (fun y H4 d o s dd => ht y H4 d (e.trans o) (Kp.same s) (Same.tk s) trivial dd) fun H4 o s => hf H4 (e.trans o) (Kp.same s) (Same.tk s) trivial
end
/-- for i, x in enumerate(l) -/
theorem for_E {K : PySem.W.Frag} {a : Addr} {xs : List V} {g : TG} {tb : TS} {D : Ends} {σ : L2.St} {H : Hp} (Pv : Nat → L2.St → Hp → Prop) (h0 : Pv 0 σ H) (hl : ∀ i σ H, i ≤ xs.length → Pv i σ H → SqL K H a xs)
    (hs : ∀ (i : Nat) x σ H T, xs[i]? = some x → Pv i σ H → H T = none → g (.ref T) σ (upd H T (.tup [.int (i : Nat), x])) fun σ2 H2 => tb { D with nx := Pv (i + 1), ct := Pv (i + 1), bk := D.nx } σ2 H2) (hd : ∀ σ H, Pv xs.length σ H → D.nx σ H) :
    ∃ W : Nat → Nat → L2.St → Hp → Prop, (∃ m, W 0 m σ H) ∧ ∀ i m σ H, W i m σ H →
      ((Ite K a).stop i H ∧ D.nx σ H) ∨ ((Ite K a).go i H ∧ ∃ N : L2.St → Hp → Prop, (∀ σ' H', N σ' H' → ∃ m', m' < m ∧ W (i + 1) m' σ' H') ∧ ∀ x H', (Ite K a).yld i H x H' → g x σ H' fun σ2 H2 => tb { D with nx := N, ct := N, bk := D.nx } σ2 H2) := by
  refine ⟨fun i m σ H => m = xs.length - i ∧ i ≤ xs.length ∧ Pv i σ H, ⟨xs.length, by simp, Nat.zero_le _, h0⟩, ?_⟩
  rintro i m σ H ⟨rfl, hi, p⟩
  have q := go_enum (hl i σ H hi p) i
  by_cases c : i < xs.length
  · refine .inr ⟨q.1 c, Pv (i + 1), fun σ' H' p' => ⟨xs.length - (i + 1), by omega, rfl, c, p'⟩, ?_⟩
    rintro v H' ⟨T, x, rfl, hT, rfl, z⟩
    exact hs i x σ H T (z xs (hl i σ H hi p)) p hT
  · have e : i = xs.length := by omega
    subst e
    exact .inl ⟨q.2 (Nat.le_refl _), hd σ H p⟩
theorem filterMap_some_map {α β : Type} (f : α → β) (l : List α) : l.filterMap (fun a => some (f a)) = l.map f := by rw [List.filterMap_eq_map']
end MR

/-! Rules that the library lacks, once more: lists that are only read joined, counted; a dict's pairs sorted; bits. -/
namespace MR
open PySem PySem.Spec PyProof.Rows L2

/-- an object that is a list -/
abbrev lstO (its : Array Value) (k : Nat) (sl : Array (Option Value)) : Obj := { cls := .type "list", dict := none, data := .seq its k, slots := sl }
theorem add_meets {a c : Addr} {xs ys : Array Value} {k j : Nat} {sa sc : Array (Option Value)} (fits : xs.size + ys.size ≤ sizeLine) :
    Meets (Builtin.«list.__add__» ⟨[.ref a, .ref c], []⟩) fun _ R s => s.heap.get? a = some (lstO xs k sa) ∧ s.heap.get? c = some (lstO ys j sc) ∧
      R (.ok (.ret (.ref s.heap.objs.size))) { s with heap := s.heap.push { cls := .type "list", data := .seq (xs ++ ys) } } := by
  refine .of_wp fun _ _ _ _ s hs => ?_
  obtain ⟨_, _, _, _, _⟩ := s
  obtain ⟨ea, ec, done⟩ := hs
  have t1 := PySem.AutoSeq1.idx_int
  have t2 := PySem.AutoSeq1.sub_list_list
  wp_walk using PySem.AutoSeq1.wpAny_loadPart' ea, PySem.AutoSeq1.wpAny_loadPart' ec
  exact ⟨_, rfl, done⟩
theorem extend_meets {a c : Addr} {xs ys : Array Value} {k j : Nat} {sc : Array (Option Value)} (door : ¬ (!xs.isEmpty && Builtin.List.listTooLong (xs.size + ys.size)) = true) (fits : xs.size + ys.size ≤ sizeLine) :
    Meets (Builtin.«list.extend» ⟨[.ref a, .ref c], []⟩) fun _ R s => s.heap.get? a = some (lstO xs k #[]) ∧ s.heap.get? c = some (lstO ys j sc) ∧
      R (.ok (.ret .none)) { s with heap := s.heap.update a (Obj.mapSeq (· ++ ys)) } := by
  refine .of_wp fun _ _ _ _ s hs => ?_
  obtain ⟨_, _, _, _, _⟩ := s
  obtain ⟨ea, ec, done⟩ := hs
  have t1 := PySem.AutoSeq1.idx_int
  have t2 := PySem.AutoSeq1.sub_list_list
  have t3 := PySem.AutoSeq1.sub_list_tuple
  have few : xs.size ≤ sizeLine := by omega
  have both : (xs ++ ys).size ≤ sizeLine + 1 := by
    rw [Array.size_append]
    omega
  wp_walk using (wpAny_updateSeq ea rfl (hz := few) (_hz' := both)), PySem.AutoSeq1.wpAny_loadPart' ea, PySem.AutoSeq1.wpAny_loadPart' ec
  exact ⟨_, rfl, done⟩
section
variable {X : Cx}
/-- a + b of lists that are only read -/
def rCatS (K : PySem.W.Frag) : R2 := fun x y H Q => ∃ l b xs zs, x = .ref l ∧ y = .ref b ∧ SqL K H l xs ∧ SqL K H b zs ∧ xs.length + zs.length ≤ sizeLine ∧ ∀ p, H p = none → Q (.ref p) (upd H p (.lst (xs ++ zs)))
theorem op_catS : OpR X (binaryOp .Add) (rCatS X.K) := by
  intro pins s σ H x y v u Q I rx ry h
  obtain ⟨l, b, xs, zs, rfl, rfl, hH, hB, hz, q⟩ := h
  cases rx
  cases ry
  obtain ⟨its, r, ⟨⟨c1, d1, da1, sl1⟩, n, ho, hc, hd, hda⟩, hl⟩ := I.list hH
  obtain ⟨its2, r2, ⟨⟨c2, d2, da2, sl2⟩, n2, ho2, hc2, hd2, hda2⟩, hl2⟩ := I.list hB
  simp only at hc hd hda hc2 hd2 hda2
  subst hc hd hda hc2 hd2 hda2
  refine PySem.concat_meets ⟨_, ho, rfl⟩ ⟨_, ho2, rfl⟩ PySem.noFill_list_add PySem.seq_list_add PySem.F.slot_list_add PySem.F.entry_list_add (PySem.F.args_list_add_2 _ _)
    (add_meets (xs := its.toArray) (ys := its2.toArray) (by rw [List.size_toArray, List.size_toArray, ← r.length, ← r2.length]; exact hz)) ⟨ho, ho2, ?_⟩
  have ea : its.toArray ++ its2.toArray = (its ++ its2).toArray := by simp
  rw [ea]
  exact ⟨.ref _, _, I.lnew (t' := s.toks) (r.append r2) (by rw [List.length_append]; exact hz), rfl, q _ I.fresh⟩
/-- l.extend(b), b only read -/
def rExtendS (K : PySem.W.Frag) : V → List V → Hp → VK → Prop := fun x vs H Q => ∃ l b xs zs, x = .ref l ∧ vs = [.ref b] ∧ H l = some (.lst xs) ∧ SqL K H b zs ∧ xs.length + zs.length ≤ sizeLine ∧ Q .non (upd H l (.lst (xs ++ zs)))
theorem mt_extendS : MtR X "list.extend" (rExtendS X.K) := by
  intro pins s σ H x vs v us Q I rx rv h
  obtain ⟨l, b, xs, zs, rfl, rfl, hH, hB, hz, q⟩ := h
  cases rx
  obtain ⟨u, rfl, ru⟩ := rv.one
  cases ru
  obtain ⟨z, its, n, r, hl, e⟩ := I.lstM hH
  obtain ⟨its2, r2, ⟨⟨c2, d2, da2, sl2⟩, n2, ho2, hc2, hd2, hda2⟩, hl2⟩ := I.list hB
  simp only at hc2 hd2 hda2
  subst hc2 hd2 hda2
  have hle := r2.length
  have hsz : its.toArray.size + its2.toArray.size ≤ sizeLine := by rw [List.size_toArray, List.size_toArray]; omega
  have hlong : ¬ (!its.toArray.isEmpty && Builtin.List.listTooLong (its.toArray.size + its2.toArray.size)) = true := by
    rw [notLongL hsz, Bool.and_false]
    exact Bool.false_ne_true
  refine call_meets PySem.F.slot_list_extend ⟨_, e, rfl⟩ PySem.F.entry_list_extend (PySem.F.args_list_extend_2 _ _)
    (extend_meets (xs := its.toArray) (ys := its2.toArray) hlong hsz) ⟨e, ho2, ?_⟩
  refine ⟨.non, _, I.lset (its' := its ++ its2) hH e (by simp) (r.append r2) ?_, rfl, q⟩
  rw [List.length_append]
  omega
/-- l.count(x) of data -/
def rCountD (K : PySem.W.Frag) : V → List V → Hp → VK → Prop := fun x xs H Q => ∃ (a : Addr) (y : V) (d : PyData) (ds : List PyData), x = V.ref a ∧ xs = [y] ∧ Dp K H (V.ref a) (.list ds) ∧ Dp K H y d ∧
  SeqAt.shaped (.list ds) = true ∧ SeqAt.shaped d = true ∧ Q (.int (ds.countP fun z => PyData.eqv z d : Nat)) H
theorem mt_countD (hu : X.A.units + 65 < cLine) : MtR X "list.count" (rCountD X.K) := by
  intro pins s σ H x xs v us Q I rx rxs h
  obtain ⟨a, y, d, ds, rfl, rfl, hl, hy, sl, sd, q⟩ := h
  cases rx
  cases rxs with
  | cons ry rt =>
    rename_i uy ut
    cases rt
    obtain ⟨bs, r1⟩ := Dp.reads I d y uy hy ry
    have hxs : PyData.canLayAll0 ds = true := SeqAt.canLay_of_shaped sl
    have hroom : X.A.units + 1 + min (PyData.depthAll ds) d.depth < cLine := room_in_shaped sd hu
    cases hl with
    | lst hs ha =>
      obtain ⟨its, rv, ⟨⟨cls, dd, data, sls⟩, n, ho, hc, hdn, hdt⟩, hlen⟩ := I.list hs
      simp only at hc hdt
      subst hc hdt
      obtain ⟨as, h4⟩ := Dp.readsAll I ds _ its ha rv
      have hmap : its.map (SeqAt.readOf s.heap) = ds := SeqAt.readsAll_map ds its as hxs h4
      refine call_meets PySem.F.slot_list_count ⟨_, ho, rfl⟩ PySem.F.entry_list_count (PySem.F.args_list_count_2 _ _)
        (SeqAt.list_countAt a its.toArray n dd sls uy (fun u => PyData.eqv (SeqAt.readOf s.heap u) d)) ⟨ho, SeqAt.items_eqAt (vs := its.toArray) (show ReadsAll s.heap its.toArray.toList ds as from h4) r1 hxs (SeqAt.canLay_of_shaped sd) hroom, ?_⟩
      have ec : its.toArray.toList.countP (fun u => PyData.eqv (SeqAt.readOf s.heap u) d) = ds.countP fun z => PyData.eqv z d := by
        rw [← hmap, List.countP_map]
        rfl
      refine ⟨.int (ds.countP fun z => PyData.eqv z d : Nat), H, I.tok _, ⟨s.toks, ?_⟩, q⟩
      show Value.int ((its.toArray.toList.countP (fun u => PyData.eqv (SeqAt.readOf s.heap u) d) : Nat) : Int) s.toks = _
      rw [ec]
end
end MR

/-! sorted(d), d a dict whose keys are pairs of ints. -/
namespace MR
open PySem PySem.Spec PyProof.Rows L2
/-- pairs of ints, each a tuple that is tracked -/
def TupAll (G : Hp) (vs : List V) (l : List (Int × Int)) : Prop := vs.length = l.length ∧ ∀ (i : Nat) v p, vs[i]? = some v → l[i]? = some p → ∃ t, v = .ref t ∧ G t = some (.tup [.int p.1, .int p.2])
theorem TupAll.nil {G : Hp} : TupAll G [] [] := ⟨rfl, fun i v p h => by simp at h⟩
theorem TupAll.mono {G G' : Hp} {vs : List V} {l : List (Int × Int)} (h : TupAll G vs l) (s : Same G G') : TupAll G' vs l := ⟨h.1, fun i v p e1 e2 => by
  obtain ⟨t, e, ht⟩ := h.2 i v p e1 e2
  exact ⟨t, e, s _ _ ht⟩⟩
theorem TupAll.snoc {G : Hp} {vs : List V} {l : List (Int × Int)} {t : Addr} {p : Int × Int} (h : TupAll G vs l) (ht : G t = some (.tup [.int p.1, .int p.2])) : TupAll G (vs ++ [.ref t]) (l ++ [p]) := by
  refine ⟨by rw [List.length_append, List.length_append, h.1]; rfl, fun i v q e1 e2 => ?_⟩
  by_cases c : i < vs.length
  · rw [List.getElem?_append_left c] at e1
    rw [List.getElem?_append_left (by rw [← h.1]; exact c)] at e2
    exact h.2 i v q e1 e2
  · rw [List.getElem?_append_right (by omega)] at e1
    rw [List.getElem?_append_right (by rw [← h.1]; omega), ← h.1] at e2
    cases e : i - vs.length with
    | zero =>
      rw [e] at e1 e2
      cases e1
      cases e2
      exact ⟨t, rfl, ht⟩
    | succ k =>
      rw [e] at e1
      simp at e1
theorem TupAll.dp {K : PySem.W.Frag} {G : Hp} : ∀ {l : List (Int × Int)} {vs : List V}, TupAll G vs l → DpAll K G vs (l.map dP)
  | [], vs, h => by
    have : vs = [] := List.length_eq_zero_iff.mp h.1
    subst this
    exact .nil
  | p :: l, [], h => by cases h.1
  | p :: l, v :: vs, h => by
    obtain ⟨t, rfl, ht⟩ := h.2 0 v p rfl rfl
    refine .cons (.tup (.inl (.inl ht)) (.cons (.int _) (.cons (.int _) .nil))) (TupAll.dp ⟨by simpa using h.1, fun i v q e1 e2 => h.2 (i + 1) v q (by simpa using e1) (by simpa using e2)⟩)
/-- rising by the first, then by the second -/
def LexLe (p q : Int × Int) : Prop := p.1 < q.1 ∨ (p.1 = q.1 ∧ p.2 ≤ q.2)
def rSortedDT (K : PySem.W.Frag) : List V → Hp → VK → Prop := fun vs H Q => ∃ (a : Addr) (kvs : List (List Key × V)) (ks : List (Int × Int)), vs = [V.ref a] ∧ H a = some (.dT kvs) ∧ kvs.map (·.1) = ks.map (fun q => ([.inl q.1, .inl q.2] : List Key)) ∧ kvs.length ≤ 100000 ∧
  ∀ (qs : List (Int × Int)) (bs : List V) (p : Addr), qs.Perm ks → qs.Pairwise LexLe → TupAll H bs qs → H p = none → Q (.ref p) (upd H p (.lst bs))
section
variable {X : Cx}
theorem cr_sortedDT (hc : X.calm = true) : CallR X (.builtin "sorted") (rSortedDT X.K) := by
  intro pins s σ H xs us Q I r h
  obtain ⟨d, kvs, ks, rfl, hd, hks, hz, q⟩ := h
  obtain ⟨u, rfl, rx⟩ := r.one
  cases rx
  obtain ⟨z, hs, es0, pr, o, es, ep, ho, hx, hdt, he, hn⟩ := (show ObjOk X.prog X.w H s.heap d (.dT kvs) from (Rd.of hd).ok I.hok)
  have l1 : es.size = es0.length := size_of_entries he
  have l2 : kvs.length = es0.length := Paired.length pr
  have pk := isKeys_of pr
  -- the keys' tuples
  obtain ⟨bs, hbs⟩ : ∃ bs : List Addr, bs = es0.map fun x => x.2.1 := ⟨_, rfl⟩
  rw [← hbs] at pk
  have lb : bs.length = kvs.length := by rw [hbs, List.length_map, l2]
  have lk : ks.length = kvs.length := by
    have := congrArg List.length hks
    rw [List.length_map, List.length_map] at this
    exact this.symm
  have tup : ∀ (i : Nat) b p, bs[i]? = some b → ks[i]? = some p → H b = some (.tup [.int p.1, .int p.2]) := by
    have go : ∀ (kvs : List (List Key × V)) (bs : List Addr) (ks : List (Int × Int)), Paired (fun p b => H b = some (.tup (p.1.map kV))) kvs bs → kvs.map (·.1) = ks.map (fun q => ([.inl q.1, .inl q.2] : List Key)) → ∀ (i : Nat) b p, bs[i]? = some b → ks[i]? = some p → H b = some (.tup [.int p.1, .int p.2]) := by
      intro kvs
      induction kvs with
      | nil =>
        intro bs ks h e i b p h1 h2
        cases h
        simp at h1
      | cons kv kvs ih =>
        intro bs ks h e i b p h1 h2
        cases h with
        | cons h t =>
          cases ks with
          | nil => cases e
          | cons k ks =>
            obtain ⟨e1, e2⟩ := List.cons.inj e
            cases i with
            | zero =>
              have h1 := Option.some.inj h1
              have h2 := Option.some.inj h2
              subst h1
              subst h2
              have e1 : kv.1 = [.inl k.1, .inl k.2] := e1
              rw [h, e1]
              rfl
            | succ i => exact ih _ ks t e2 i b p (by simpa using h1) (by simpa using h2)
    exact fun i b p => go kvs bs ks pk hks i b p
  -- which pair stands at an address
  let kOf : Addr → Int × Int := fun b => match H b with
    | some (.tup [.int i, .int j]) => (i, j)
    | _ => (0, 0)
  have kOf_at : ∀ (i : Nat) b p, bs[i]? = some b → ks[i]? = some p → kOf b = p := fun i b p h1 h2 => by
    show (match H b with | some (.tup [.int i, .int j]) => (i, j) | _ => (0, 0)) = p
    rw [tup i b p h1 h2]
  have kOf_all : bs.map kOf = ks := by
    apply List.ext_getElem?
    intro i
    rw [List.getElem?_map]
    cases h1 : bs[i]? with
    | none =>
      have := List.getElem?_eq_none_iff.mp h1
      rw [List.getElem?_eq_none (by omega)]
      rfl
    | some b =>
      have hi := (List.getElem?_eq_some_iff.mp h1).1
      have h2 : ks[i]? = some ks[i] := List.getElem?_eq_getElem (by omega)
      rw [h2]
      exact congrArg some (kOf_at i b _ h1 h2)
  have tupAll : ∀ b ∈ bs, H b = some (.tup [.int (kOf b).1, .int (kOf b).2]) := fun b hb => by
    obtain ⟨i, hi⟩ := List.mem_iff_getElem?.mp hb
    have hlt := (List.getElem?_eq_some_iff.mp hi).1
    have h2 : ks[i]? = some ks[i] := List.getElem?_eq_getElem (by omega)
    rw [kOf_at i b _ hi h2]
    exact tup i b _ hi h2
  refine Calls.call_function_entry PyProof.Rows.kind_sorted PyProof.Rows.plain_sorted PyProof.Rows.entry_sorted (PyProof.Rows.args_sorted1 _) ?_
  unfold Builtin.«sorted»
  refine wpAny_bind (m := checkCount "sorted" 1 1 _) (wpAny_pure ?_)
  refine wpAny_bind (PySem.W.kdu_collect (A := X.A.in1) (kdl_raw hs hx hdt) (I.ok.hd hc) ho (by rw [sizeLine_eq]; omega) fun h' tk acc kp hacc => ?_)
  have ea : acc.toList = bs.map Value.ref := by
    apply List.ext_getElem?
    intro j
    rw [List.getElem?_map]
    cases hj : acc.toList[j]? with
    | none =>
      have h1 := List.getElem?_eq_none_iff.mp hj
      rw [Array.length_toList, hacc.1] at h1
      rw [List.getElem?_eq_none (by omega)]
      rfl
    | some v =>
      obtain ⟨en, hen, hv⟩ := hacc.2 j v (by rw [← Array.getElem?_toList]; exact hj)
      have qe := entry_at he j
      rw [hen] at qe
      rw [hbs, List.getElem?_map]
      cases hb : es0[j]? with
      | none =>
        rw [hb] at qe
        exact nomatch (show some en = none from qe)
      | some b =>
        rw [hb] at qe
        have e2 : en = entryOfKey (tupleKind (mixKind X.prog X.w)) b := Option.some.inj qe
        rw [hv, e2]
        rfl
  rw [ea]
  have I1 : Inv X pins σ H { s with heap := h', toks := tk } := I.kept kp
  have hal : (bs.map Value.ref).length = kvs.length := by rw [List.length_map, lb]
  refine wpAny_bind (wpAny_newList ?_ (by rw [hal, sizeLine_eq]; omega))
  have hoL : (h'.push (PyProof.Rows.seqObj "list" (bs.map Value.ref).toArray 0)).get? h'.objs.size = some (PyProof.Rows.seqObj "list" (bs.map Value.ref).toArray 0) := Heap.get?_push_size _ rfl
  let kk : Value → Int × Int := fun v => match v with
    | .ref b => kOf b
    | _ => (0, 0)
  have hpair : ∀ v ∈ bs.map Value.ref, Srt.IsPair h' v (kk v).1 (kk v).2 := fun v hv => by
    obtain ⟨b, hb, rfl⟩ := List.mem_map.mp hv
    obtain ⟨_, its2, r2, o2, ho2, hc2, n2, hd2⟩ := I1.hok _ _ (tupAll b hb)
    obtain ⟨u1, u2, rfl, ri, rj⟩ := vals2 r2
    obtain ⟨t1, rfl⟩ := ri
    obtain ⟨t2, rfl⟩ := rj
    exact ⟨b, o2, t1, t2, n2, rfl, ho2, hc2, hd2⟩
  show wpAny _ _ _ _ _ { s with heap := h'.push (PyProof.Rows.seqObj "list" (bs.map Value.ref).toArray 0), toks := tk }
  refine wpAny_bind (wpAny_holding (wpAny_call_entry PyProof.Rows.slot_list_sort ⟨_, hoL, rfl⟩ PyProof.Rows.entry_list_sort
    (SrtO.list_sort_ord (SrtO.swo_lex kk) hoL (by rw [hal, sizeLine_eq]; omega) (fun h2 => ?_) fun out g1 g2 => ⟨_, rfl, ?_⟩) (PyProof.Rows.args_list_sort _)))
  · refine SrtO.pairs_sortableO (by omega) (fun v hm => (hpair v hm).keeps fun b o e _ => Heap.get?_push_of_some _ e) fun o e => ?_
    have e' := e.symm.trans hoL
    cases e'
    intro c
    exact absurd (Value.type.inj c) (by decide)
  · obtain ⟨e', he'⟩ := PyProof.Rows.sortedHeap_at (vs := bs.map Value.ref) (out := out.toArray) hoL
    have back : ∀ u ∈ out, ∃ b, u = Value.ref b := fun u hu => by
      obtain ⟨b, _, rfl⟩ := List.mem_map.mp (g2.perm.mem_iff.mp hu)
      exact ⟨b, rfl⟩
    obtain ⟨bo, rfl⟩ : ∃ bo : List Addr, out = bo.map Value.ref := by
      clear g1 g2 he'
      induction out with
      | nil => exact ⟨[], rfl⟩
      | cons u out ih =>
        obtain ⟨b, rfl⟩ := back u List.mem_cons_self
        obtain ⟨bo, rfl⟩ := ih fun v hv => back v (List.mem_cons_of_mem _ hv)
        exact ⟨b :: bo, rfl⟩
    have pb : bo.Perm bs := by
      have := g2.perm.map (fun v => match v with | Value.ref b => b | _ => 0)
      rw [List.map_map, List.map_map] at this
      have id1 : ∀ l : List Addr, l.map ((fun v => match v with | Value.ref b => b | _ => 0) ∘ Value.ref) = l := fun l => List.map_id l
      rw [id1, id1] at this
      exact this
    have hlen : (bo.map V.ref).length ≤ sizeLine := by
      rw [List.length_map, pb.length_eq, lb, sizeLine_eq]
      omega
    refine wpAny_pure ⟨_, rfl, .ref h'.objs.size, upd H h'.objs.size (.lst (bo.map V.ref)), I1.laid (t' := tk) (fun b u e => ?_) (Nat.le_refl _)
      (show ObjOk X.prog X.w _ _ _ (.lst (bo.map V.ref)) from ⟨hlen, bo.map Value.ref, e', vals_refs _, he'⟩), rfl, q (bo.map kOf) _ _ ?_ ?_ ?_ (I1.hok.fresh (Nat.le_refl _))⟩
    · have hb : b < h'.objs.size := Heap.lt_size e
      rw [PyProof.Rows.sortedHeap_old (Nat.ne_of_lt hb) (by rw [PyProof.Rows.size_push']; exact Nat.lt_succ_of_lt hb)]
      exact Heap.get?_push_of_some _ e
    · have := pb.map kOf
      rwa [kOf_all] at this
    · have g1 : (bo.map Value.ref).Pairwise _ := g1
      rw [List.pairwise_map] at g1 ⊢
      refine g1.imp fun {x y} h => ?_
      have h := SrtO.lexB_no.mp h
      unfold LexLe
      have h : ¬ ((kOf y).1 < (kOf x).1 ∨ ((kOf y).1 = (kOf x).1 ∧ (kOf y).2 < (kOf x).2)) := h
      omega
    · refine ⟨by rw [List.length_map, List.length_map], fun i v q h1 h2 => ?_⟩
      rw [List.getElem?_map] at h1 h2
      cases hb : bo[i]? with
      | none => rw [hb] at h1; cases h1
      | some b =>
        rw [hb] at h1 h2
        cases h1
        cases h2
        exact ⟨b, rfl, tupAll b (pb.mem_iff.mp (List.mem_of_getElem? hb))⟩
end
end MR

/-! The same rules with the written part told; bits of naturals. -/
namespace MR
open PySem PySem.Spec PyProof.Rows L2
section
variable {X : Cx} (K : PySem.W.Frag)
theorem catK (h : X.K = K := by rfl) : OpR X (binaryOp .Add) (rCatS K) := by
  subst h
  exact op_catS
theorem extK (h : X.K = K := by rfl) : MtR X "list.extend" (rExtendS K) := by
  subst h
  exact mt_extendS
theorem cntD (hu : X.A.units + 65 < cLine) (h : X.K = K := by rfl) : MtR X "list.count" (rCountD K) := by
  subst h
  exact mt_countD hu
theorem minK (hc : X.calm = true := by rfl) (h : X.K = K := by rfl) : CallR X (.builtin "min") (rMin K) := by
  subst h
  exact cr_min hc
theorem srtK (hc : X.calm = true := by rfl) (h : X.K = K := by rfl) : CallR X (.builtin "sorted") (rSortedDT K) := by
  subst h
  exact cr_sortedDT hc
abbrev rDictK (K : PySem.W.Frag) : List V → Hp → VK → Prop := fun xs H Q => ∃ (a : Addr) (ps : List Addr) (kvs : List (Key × V)), xs = [.ref a] ∧ SqL K H a (ps.map V.ref) ∧ Paired (fun p kv => SqT K H p [kV kv.1, kv.2]) ps kvs ∧ ∀ p, H p = none → Q (.ref p) (upd H p (.dK (mergeK [] kvs)))
theorem dictK (hc : X.calm = true := by rfl) (h : X.K = K := by rfl) : CallR X (.type "dict") (rDictK K) := by
  subst h
  exact call_dictP hc
end
section
variable {X : Cx}
theorem or_bit {s j : Nat} (h : s / 2 ^ j % 2 = 0) : s ||| 2 ^ j = s + 2 ^ j := by
  obtain ⟨q, hq⟩ : ∃ q, s / 2 ^ j = 2 * q := ⟨s / 2 ^ j / 2, by omega⟩
  have e1 : s = 2 ^ j * (2 * q) + s % 2 ^ j := by
    have := Nat.div_add_mod s (2 ^ j)
    rw [hq] at this
    exact this.symm
  have hr : s % 2 ^ j < 2 ^ j := Nat.mod_lt _ (Nat.two_pow_pos j)
  generalize s % 2 ^ j = r at e1 hr
  have e2 : 2 ^ j * (2 * q) = 2 ^ (j + 1) * q := by rw [Nat.pow_succ, Nat.mul_assoc]
  rw [e2] at e1
  have h2 : 2 ^ j + r < 2 ^ (j + 1) := by rw [Nat.pow_succ]; omega
  have e3 : 2 ^ j ||| r = 2 ^ j + r := by
    have := Nat.two_pow_add_eq_or_of_lt hr 1
    rw [Nat.mul_one] at this
    exact this.symm
  have e4 : s = 2 ^ (j + 1) * q ||| r := by
    rw [e1]
    exact Nat.two_pow_add_eq_or_of_lt (by rw [Nat.pow_succ]; omega) q
  rw [e4, Nat.or_assoc, Nat.or_comm r, e3, ← Nat.two_pow_add_eq_or_of_lt h2 q, ← Nat.two_pow_add_eq_or_of_lt (by rw [Nat.pow_succ]; omega) q]
  omega
/-- 1 << k -/
theorem op_shl1 : OpR X (binaryOp .LShift) (fun x y H Q => ∃ k : Nat, x = .int 1 ∧ y = .int (k : Int) ∧ k ≤ 1000 ∧ Q (.int ((2 ^ k : Nat) : Int)) H) := by
  intro pins s σ H x y v u Q I rx ry h
  obtain ⟨k, rfl, rfl, hk, q⟩ := h
  refine op_oneShl pins s σ H _ _ v u Q I rx ry ⟨k, rfl, rfl, by omega, ?_⟩
  rw [Int.natCast_pow] at q
  exact q
/-- s >> k -/
theorem op_shrK : OpR X (binaryOp .RShift) (fun x y H Q => ∃ s k : Nat, x = .int (s : Int) ∧ y = .int (k : Int) ∧ Q (.int ((s / 2 ^ k : Nat) : Int)) H) := by
  intro pins s σ H x y v u Q I rx ry h
  obtain ⟨n, k, rfl, rfl, q⟩ := h
  refine op_shrN pins s σ H _ _ v u Q I rx ry ⟨n, k, rfl, rfl, ?_⟩
  rw [Int.natCast_ediv, Int.natCast_pow] at q
  exact q
/-- s | 2 ** k, the bit not there -/
theorem op_put : OpR X (binaryOp .BitOr) (fun x y H Q => ∃ s k : Nat, x = .int (s : Int) ∧ y = .int ((2 ^ k : Nat) : Int) ∧ s / 2 ^ k % 2 = 0 ∧ Q (.int ((s + 2 ^ k : Nat) : Int)) H) := by
  intro pins s σ H x y v u Q I rx ry h
  obtain ⟨n, k, rfl, rfl, hb, q⟩ := h
  refine op_or pins s σ H _ _ v u Q I rx ry ⟨_, _, rfl, rfl, ?_⟩
  show Q (V.int (Builtin.bitOr (n : Int) ((2 ^ k : Nat) : Int))) H
  rw [L2.bitOr_nn (Int.natCast_nonneg _) (Int.natCast_nonneg _), Int.toNat_natCast, Int.toNat_natCast, or_bit hb]
  exact q
end
end MR

namespace MR
open PySem PySem.Spec PyProof.Rows L2
/-- the i-th statement of the program -/
def topS (i : Nat) : Stmt := PySem.Challenge.pw_matchedrows_s01_answers.main.body.getD i (.Pass ⟨0, 0, 0, 0⟩)
/-- Python's own names, and whole numbers of the files' tops -/
structure Tops (mg : Str → Option Value) : Prop where
  n_len : mg "len" = none
  n_range : mg "range" = none
  n_enumerate : mg "enumerate" = none
  n_zip : mg "zip" = none
  n_max : mg "max" = none
  n_sum : mg "sum" = none
  n_set : mg "set" = none
  n_ord : mg "ord" = none
  n_min : mg "min" = none
  n_dict : mg "dict" = none
  n_sorted : mg "sorted" = none
  i_UNLIKE_NAMES_COST : ∃ t, mg "UNLIKE_NAMES_COST" = some (.int 2 t)
  i_LONE_COLUMN_COST : ∃ t, mg "LONE_COLUMN_COST" = some (.int 4 t)
  i_LONE_ROW_COST : ∃ t, mg "LONE_ROW_COST" = some (.int 3 t)
  i_MOST_FREE_ROWS : ∃ t, mg "MOST_FREE_ROWS" = some (.int 8 t)
  i_EMPTY : ∃ t, mg "EMPTY" = some (.int 0 t)
  i_NUMBER : ∃ t, mg "NUMBER" = some (.int 1 t)
  i_WORD : ∃ t, mg "WORD" = some (.int 2 t)
  i_MOST_COLUMNS : ∃ t, mg "MOST_COLUMNS" = some (.int 5 t)
  i_MOST_ROWS : ∃ t, mg "MOST_ROWS" = some (.int 12 t)
  i_MOST_BYTES : ∃ t, mg "MOST_BYTES" = some (.int 8 t)
  i_BIGGEST_NUMBER : ∃ t, mg "BIGGEST_NUMBER" = some (.int 1000000 t)
  i_FIRST_BYTE : ∃ t, mg "FIRST_BYTE" = some (.int 32 t)
  i_LAST_BYTE : ∃ t, mg "LAST_BYTE" = some (.int 126 t)
/-- an error class of the program's own -/
structure ErrX (K : PySem.W.Frag) (mg : Str → Option Value) (x : Str) (C : Addr) : Prop where
  g : mg x = some (.ref C)
  q : PySem.W.excIn K C [.type "Exception", .type "BaseException", .type "object"] "Exception.__new__" = true
  kp : PySem.W.keepIn K (.ref C) = true
  b : PySem.W.subIn K (.ref C) (.type "BaseException") = some true
  t : PySem.W.typeIn K (.ref C) = some (.type "type")
end MR

namespace MR
open PySem PySem.Spec PyProof.Rows L2
section
variable {P : Program} {w : World} {K : PySem.W.Frag} {mg : Str → Option Value} {base : Heap} {f : Addr} {fd : FuncData}

/-! is_there -/
abbrev s_is_there : Stmt := topS 35
theorem sc_is_there : FnScope ["number", "count"] ["number", "count"] (defScope s_is_there) := ⟨rfl, rfl, rfl, by decide +kernel, rfl, by decide +kernel, by decide +kernel⟩
def sp_is_there : Sp := fun vs H Q _ => ∃ n c : Int, vs = [.int n, .int c] ∧ Q (.bl (decide (0 ≤ n ∧ n < c))) H
theorem ok_is_there (F : Fun K "is_there" "is_there" s_is_there f fd) : FnOk P w K mg base CX0 1 f fd ["number", "count"] sp_is_there := by
  refine F.ok sc_is_there (fun vs H Q E h => ?_) (fun cdv A outer s H vs Q E hr h => ⟨_, (pss_one (ps_ret (pe_chain op_le op_lt pe_int (pv 0) (pv 1)))), ?_⟩)
  · obtain ⟨n, c, rfl, _⟩ := h
    rfl
  obtain ⟨n, c, rfl, h⟩ := h
  refine ⟨_, rfl, _, _, rfl, rfl, _, rfl, ?_⟩
  refine ite_dec rfl (fun q => ?_) (fun q => ?_)
  · refine ⟨_, rfl, _, _, rfl, rfl, ?_⟩
    have e : decide (n < c) = decide (0 ≤ n ∧ n < c) := decide_eq_decide.mpr ⟨fun z => ⟨q, z⟩, fun z => z.2⟩
    show Q (.bl (decide (n < c))) H
    rw [e]
    exact h
  · have e : decide (0 ≤ n ∧ n < c) = false := decide_eq_false fun z => q z.1
    rw [e] at h
    exact h

/-! rises -/
abbrev s_rises : Stmt := topS 1
theorem sc_rises : FnScope ["numbers", "place"] ["numbers"] (defScope s_rises) := ⟨rfl, rfl, rfl, by decide +kernel, rfl, by decide +kernel, by decide +kernel⟩
/-- each number below the next -/
def Rise (ns : List Int) : Prop := ∀ i : Nat, i + 1 < ns.length → ns.getD i 0 < ns.getD (i + 1) 0
def sp_rises (K : PySem.W.Frag) : Sp := fun vs H Q _ => ∃ a ns, vs = [.ref a] ∧ SqL K H a (ns.map V.int) ∧ ns.length ≤ 1000 ∧ ∀ b : Bool, (b = true ↔ Rise ns) → Q (.bl b) H
theorem ok_rises (T : Tops mg) (F : Fun K "rises" "rises" s_rises f fd) : FnOk P w K mg base CX0 1 f fd ["numbers"] (sp_rises K) := by
  refine F.ok sc_rises (fun vs H Q E h => ?_) (fun cdv A outer s H vs Q E hr h => ⟨_, (pss_cons (ps_for PassesOwn.never rfl (pi_range2 (by rfl) T.n_range (pa_cons pe_int (pa_cons (pe_callB (lenK K) (by rfl) T.n_len PySem.boot_len (pa_cons (pv 0) pa_nil)) pa_nil))) (pg_name (i := 1) sc_rises.nd rfl (Or.inl rfl))
   (pss_one (ps_if (pt_cmpR op_ge (pe_ix (ixL K) (pv 0) (pe_op op_sub (pv 1) pe_int) (fun _ _ => rfl)) (pe_ix (ixL K) (pv 0) (pv 1) (fun _ _ => rfl)) (nomark _))
   (pss_one (ps_ret pe_bl)) pss_nil)))
  (pss_one (ps_ret pe_bl))), ?_⟩)
  · obtain ⟨a, ns, rfl, _⟩ := h
    rfl
  obtain ⟨a, ns, rfl, hs, hl, h⟩ := h
  refine ⟨_, rfl, _, _, rfl, .inl hs, _, _, rfl, ⟨by omega, by omega, by omega, by rw [List.length_map]; omega⟩, ?_⟩
  refine for_range (lo := 1) (n := _) (fun i σ H' => H' = H ∧ (∃ v, σ = [some (.ref a), v]) ∧ ∀ j : Nat, j < i → ns.getD j 0 < ns.getD (j + 1) 0) ⟨rfl, ⟨_, rfl⟩, fun j z => absurd z (Nat.not_lt_zero _)⟩ ?_ ?_
  · rintro i σ H' hi ⟨rfl, ⟨v, rfl⟩, q⟩
    rw [List.length_map] at hi
    have hi2 : i + 1 < ns.length := by omega
    refine ⟨_, rfl, _, rfl, _, _, rfl, rfl, _, _, _, _, rfl, rfl, hs, at_int (i := i) (by omega) (by omega), _, rfl, _, rfl, _, _, _, _, rfl, rfl, hs, at_int (i := i + 1) hi2 (by omega), _, _, rfl, rfl, _, rfl, ?_⟩
    refine ite_dec rfl (fun z => ?_) (fun z => ?_)
    · refine h false ⟨fun e => Bool.noConfusion e, fun e => ?_⟩
      have := e i hi2
      omega
    · refine ⟨rfl, ⟨_, rfl⟩, fun j hj => ?_⟩
      rcases Nat.lt_or_ge j i with y | y
      · exact q j y
      · have e : j = i := by omega
        rw [e]
        omega
  · rintro σ H' ⟨rfl, ⟨v, rfl⟩, q⟩
    refine h true ⟨fun _ i hi => q i ?_, fun _ => rfl⟩
    rw [List.length_map]
    omega

/-! paired -/
abbrev s_paired : Stmt := topS 34
theorem sc_paired : FnScope ["numbers", "place"] ["numbers"] (defScope s_paired) := ⟨rfl, rfl, rfl, by decide +kernel, rfl, by decide +kernel, by decide +kernel⟩
/-- number by number, two and two -/
def pairUp (ns : List Int) : List (Int × Int) := (List.range (ns.length / 2)).map fun i => (ns.getD (2 * i) 0, ns.getD (2 * i + 1) 0)
def sp_paired (K : PySem.W.Frag) : Sp := fun vs H Q _ => ∃ a ns, vs = [.ref a] ∧ SqL K H a (ns.map V.int) ∧ ns.length ≤ 1000 ∧ ns.length % 2 = 0 ∧ New K H Q (dL dP (pairUp ns))
theorem map_range_some {α : Type} (f : Nat → α) (n : Nat) : (List.range n).filterMap (fun i => some (f i)) = (List.range n).map f := by
  rw [List.filterMap_eq_map']
theorem ok_paired (T : Tops mg) (F : Fun K "paired" "paired" s_paired f fd) : FnOk P w K mg base CX0 1 f fd ["numbers"] (sp_paired K) := by
  refine F.ok sc_paired (fun vs H Q E h => ?_) (fun cdv A outer s H vs Q E hr h => ⟨_, (pss_one (ps_ret (pe_lc (own := [("place", 1)]) rfl sc_paired.nd (pi_range3 (by rfl) T.n_range (pa_cons pe_int (pa_cons (pe_callB (lenK K) (by rfl) T.n_len PySem.boot_len (pa_cons (pv 0) pa_nil)) (pa_cons pe_int pa_nil)))) (blkOk_by (N := ["numbers", "place"]) (sc := defScope s_paired) (by decide +kernel)) (fun _ _ _ _ _ => (pg_name (i := 1) sc_paired.nd rfl (Or.inl rfl))) (fun _ _ _ _ _ => pts_nil) (fun _ _ _ _ _ => (pe_tup (pa_cons (pe_ix (ixL K) (pv 0) (pv 1) (fun _ _ => rfl)) (pa_cons (pe_ix (ixL K) (pv 0) (pe_op op_add (pv 1) pe_int) (fun _ _ => rfl)) pa_nil))))))), ?_⟩)
  · obtain ⟨a, ns, rfl, _⟩ := h
    rfl
  obtain ⟨a, ns, rfl, hs, hl, he, h⟩ := h
  refine ⟨_, rfl, _, _, rfl, .inl hs, 0, _, 2, ns.length / 2, rfl, ?_, fun D hD => ?_⟩
  · have e := range_by2 (m := (ns.map V.int).length) (by rw [List.length_map]; omega)
    have e2 : ((ns.map V.int).length + 1) / 2 = ns.length / 2 := by rw [List.length_map]; omega
    rw [e2] at e
    exact e
  refine lc_data (K := K) (ns.length / 2) S0 (fun _ _ => True) (fun i => some (dP (ns.getD (2 * i) 0, ns.getD (2 * i + 1) 0))) (by omega) hD (fun _ z => z.elim) (fun _ _ _ z => z) trivial (fun i H' k _ => ⟨id, id⟩) ?_ ?_
  · rintro i H' acc hi k t _ hacc x H2 ⟨rfl, rfl⟩ Kt Kf ht hf
    refine ⟨rfl, lc_yes ?_⟩
    refine ⟨_, rfl, _, rfl, _, _, _, _, rfl, rfl, k.all.seq hs, at_int (i := 2 * i) (by omega) (by omega), _, rfl, _, rfl, _, _, rfl, rfl, _, _, _, _, rfl, rfl, k.all.seq hs, at_int (i := 2 * i + 1) (by omega) (by omega), by show 2 ≤ sizeLine; decide, fun p hp => ?_⟩
    exact ht _ _ _ rfl (Kp.same (Same.made1 hp)) (Same.tk (Same.made1 hp)) trivial (dmono (hd_nw t hacc) (.tup (.inl (.inl (nw_made hp))) (.cons (.int _) (.cons (.int _) .nil))))
  · intro H' k t _ hd _
    rw [map_range_some] at hd
    refine h _ _ k.all ?_
    have e : dL dP (pairUp ns) = .list ((List.range (ns.length / 2)).map fun i => dP (ns.getD (2 * i) 0, ns.getD (2 * i + 1) 0)) := by
      show PyData.list ((pairUp ns).map dP) = _
      unfold pairUp
      rw [List.map_map]
      rfl
    rw [e]
    exact hd
end
end MR

namespace MR
open PySem PySem.Spec PyProof.Rows L2
section
variable {P : Program} {w : World} {K : PySem.W.Frag} {mg : Str → Option Value} {base : Heap} {f : Addr} {fd : FuncData}

/-! are_whole_pairs -/
abbrev s_are_whole_pairs : Stmt := topS 33
theorem sc_are_whole_pairs : FnScope ["numbers", "old_count", "new_count", "old", "new"] ["numbers", "old_count", "new_count"] (defScope s_are_whole_pairs) := ⟨rfl, rfl, rfl, by decide +kernel, rfl, by decide +kernel, by decide +kernel⟩
def InB (oc nc : Int) (p : Int × Int) : Prop := (0 ≤ p.1 ∧ p.1 < oc) ∧ (0 ≤ p.2 ∧ p.2 < nc)
def sp_are_whole_pairs (K : PySem.W.Frag) : Sp := fun vs H Q _ => ∃ a ns oc nc, vs = [.ref a, .int oc, .int nc] ∧ SqL K H a (ns.map V.int) ∧ ns.length ≤ 1000 ∧
  ∀ (b : Bool) H', Same H H' → (b = true ↔ ns.length % 2 = 0 ∧ ∀ p ∈ pairUp ns, InB oc nc p) → Q (.bl b) H'
theorem ok_are_whole_pairs (T : Tops mg) (C_paired : CalX P w K mg base CX0 1 "paired" (sp_paired K)) (C_is_there : CalX P w K mg base CX0 1 "is_there" sp_is_there)
    (F : Fun K "are_whole_pairs" "are_whole_pairs" s_are_whole_pairs f fd) : FnOk P w K mg base CX0 2 f fd ["numbers", "old_count", "new_count"] (sp_are_whole_pairs K) := by
  refine F.ok sc_are_whole_pairs (fun vs H Q E h => ?_) (fun cdv A outer s H vs Q E hr h => ⟨_, (pss_cons (ps_if (pt_cmpR op_neI (pe_op op_modN (pe_callB (lenK K) (by rfl) T.n_len PySem.boot_len (pa_cons (pv 0) pa_nil)) pe_int) pe_int (nomark _))
   (pss_one (ps_ret pe_bl)) pss_nil)
  (pss_cons (ps_for PassesOwn.never rfl (lstK K (pe_k C_paired hr (by decide) (by rfl) (fun _ => quiet) (pa_cons (pv 0) pa_nil))) (tupK K (n := 2) (pgs_cons (pg_name (i := 3) sc_are_whole_pairs.nd rfl (Or.inl rfl)) (pgs_cons (pg_name (i := 4) sc_are_whole_pairs.nd rfl (Or.inl rfl)) pgs_nil)))
   (pss_one (ps_if (PW.pt (pw_or (pt_not (pt_val (pe_k C_is_there hr (by decide) (by rfl) (fun _ => quiet) (pa_cons (pv 3) (pa_cons (pv 1) pa_nil))))) (pw_or1 (pt_not (pt_val (pe_k C_is_there hr (by decide) (by rfl) (fun _ => quiet) (pa_cons (pv 4) (pa_cons (pv 2) pa_nil))))))))
   (pss_one (ps_ret pe_bl)) pss_nil)))
  (pss_one (ps_ret pe_bl)))), ?_⟩)
  · obtain ⟨a, ns, oc, nc, rfl, _⟩ := h
    rfl
  obtain ⟨a, ns, oc, nc, rfl, hs, hl, h⟩ := h
  refine ⟨_, rfl, _, _, rfl, .inl hs, _, _, rfl, rfl, (by show (2 : Int) ≠ 0; decide), _, _, rfl, rfl, _, rfl, ?_⟩
  have e2 : (((ns.map V.int).length : Int).fmod 2) = ((ns.length % 2 : Nat) : Int) := by
    rw [Int.fmod_eq_emod_of_nonneg _ (by decide), List.length_map]
    omega
  rw [e2]
  refine ite_dec (c := ¬ (ns.length % 2 = 0)) ?_ (fun z => ?_) (fun z => ?_)
  · rw [← decide_not]
    exact decide_eq_decide.mpr (by omega)
  · exact h false _ (Same.refl H) ⟨fun e => Bool.noConfusion e, fun e => absurd e.1 z⟩
  have z : ns.length % 2 = 0 := by omega
  refine ⟨_, rfl, a, ns, rfl, hs, hl, z, fun v H1 s1 d1 => ?_⟩
  obtain ⟨p, xs, rfl, hp, hx⟩ := Dp.list d1
  refine ⟨p, rfl, ⟨xs, nw_in.seq hp⟩, for_list (K := K) (a := p) (xs := xs) (fun i σ H' => Same H1 H' ∧ (∃ u v, σ = [some (.ref a), some (.int oc), some (.int nc), u, v]) ∧ ∀ q ∈ (pairUp ns).take i, InB oc nc q)
    ⟨Same.refl _, ⟨_, _, rfl⟩, fun q hq => by simp at hq⟩ (fun i σ H' _ q => q.1.seq (nw_in.seq hp)) ?_ ?_⟩
  · rintro i x σ H2 hi ⟨s2, ⟨u, v, rfl⟩, q⟩
    obtain ⟨d, hd, dx⟩ := DpAll.get' hx hi
    obtain ⟨r, hr0, rfl⟩ : ∃ r, (pairUp ns)[i]? = some r ∧ d = dP r := by
      rw [List.getElem?_map] at hd
      cases e : (pairUp ns)[i]? with
      | none => rw [e] at hd; cases hd
      | some r => rw [e] at hd; exact ⟨r, rfl, (Option.some.inj hd).symm⟩
    obtain ⟨t, rfl, ht⟩ := Dp.pair dx
    have more : (pairUp ns).take (i + 1) = (pairUp ns).take i ++ [r] := by
      rw [List.take_add_one, hr0]
      rfl
    refine ⟨t, _, rfl, Same.seqT s2 (Same.seqT nw_in ht), rfl, _, _, rfl, _, _, rfl, rfl, ?_⟩
    refine ⟨_, rfl, _, rfl, r.1, oc, rfl, _, rfl, ?_⟩
    by_cases c1 : 0 ≤ r.1 ∧ r.1 < oc
    · rw [decide_eq_true c1]
      refine iteF ⟨_, rfl, _, rfl, r.2, nc, rfl, _, rfl, ?_⟩
      by_cases c2 : 0 ≤ r.2 ∧ r.2 < nc
      · rw [decide_eq_true c2]
        refine iteF ⟨s2, ⟨_, _, rfl⟩, fun y hy => ?_⟩
        rw [more] at hy
        rcases List.mem_append.mp hy with hy | hy
        · exact q y hy
        · rw [List.mem_singleton.mp hy]
          exact ⟨c1, c2⟩
      · rw [decide_eq_false c2]
        refine iteT (h false _ (s1.trans s2) ⟨fun e => Bool.noConfusion e, fun e => absurd (e.2 r (List.mem_of_getElem? hr0)).2 c2⟩)
    · rw [decide_eq_false c1]
      refine iteT (iteT (h false _ (s1.trans s2) ⟨fun e => Bool.noConfusion e, fun e => absurd (e.2 r (List.mem_of_getElem? hr0)).1 c1⟩))
  · rintro σ H2 ⟨s2, ⟨u, v, rfl⟩, q⟩
    refine h true _ (s1.trans s2) ⟨fun _ => ⟨z, fun y hy => q y ?_⟩, fun _ => rfl⟩
    rw [DpAll.length hx, List.length_map, List.take_length]
    exact hy

/-! told_pairs -/
abbrev s_told_pairs : Stmt := topS 38
theorem sc_told_pairs : FnScope ["pairs", "told", "old", "new"] ["pairs"] (defScope s_told_pairs) := ⟨rfl, rfl, rfl, by decide +kernel, rfl, by decide +kernel, by decide +kernel⟩
/-- how many pairs, then the pairs -/
def toldPairs (l : List (Int × Int)) : List Int := (l.length : Int) :: l.flatMap fun p => [p.1, p.2]
def sp_told_pairs (K : PySem.W.Frag) : Sp := fun vs H Q _ => ∃ v l, vs = [v] ∧ Dp K H v (dL dP l) ∧ l.length ≤ 1000 ∧
  ∀ a H', Same H H' → H a = none → H' a = some (.lst ((toldPairs l).map V.int)) → Q (.ref a) H'
theorem ok_told_pairs (T : Tops mg) (F : Fun K "told_pairs" "told_pairs" s_told_pairs f fd) : FnOk P w K mg base CX0 1 f fd ["pairs"] (sp_told_pairs K) := by
  refine F.ok sc_told_pairs (fun vs H Q E h => ?_) (fun cdv A outer s H vs Q E hr h => ⟨_, (pss_cons (ps_set (i := 1) sc_told_pairs.nd rfl (Or.inl rfl) (pe_lst (pa_cons (pe_callB (lenK K) (by rfl) T.n_len PySem.boot_len (pa_cons (pv 0) pa_nil)) pa_nil)))
  (pss_cons (ps_for PassesOwn.never rfl (lstK K (pv 0)) (tupK K (n := 2) (pgs_cons (pg_name (i := 2) sc_told_pairs.nd rfl (Or.inl rfl)) (pgs_cons (pg_name (i := 3) sc_told_pairs.nd rfl (Or.inl rfl)) pgs_nil)))
   (pss_cons (ps_expr (pe_bm PySem.F.plainAttrs_list PySem.F.slot_list_append PySem.F.type_list_append mt_append (pv 1) (pa_cons (pv 2) pa_nil)))
  (pss_one (ps_expr (pe_bm PySem.F.plainAttrs_list PySem.F.slot_list_append PySem.F.type_list_append mt_append (pv 1) (pa_cons (pv 3) pa_nil))))))
  (pss_one (ps_ret (pv 1))))), ?_⟩)
  · obtain ⟨v, l, rfl, _⟩ := h
    rfl
  obtain ⟨v, l, rfl, dv, hl, h⟩ := h
  obtain ⟨p, xs, rfl, hp, hx⟩ := Dp.list dv
  have hxl : xs.length = l.length := by rw [DpAll.length hx, List.length_map]
  refine ⟨_, rfl, _, _, rfl, .inl hp, by show 1 ≤ sizeLine; decide, fun D hD => ?_⟩
  refine ⟨_, rfl, p, rfl, ⟨xs, (Same.made1 hD).seq hp⟩, for_list (K := K) (a := p) (xs := xs) (fun i σ H' => Same H H' ∧ H' D = some (.lst (((l.length : Int) :: (l.take i).flatMap fun p => [p.1, p.2]).map V.int)) ∧ ∃ u v, σ = [some (.ref p), some (.ref D), u, v])
    ⟨Same.made1 hD, ?_, ⟨_, _, rfl⟩⟩ (fun i σ H' _ q => q.1.seq hp) ?_ ?_⟩
  · rw [upd_same, hxl]
    rfl
  · rintro i x σ H2 hi ⟨s2, hD2, ⟨u, v, rfl⟩⟩
    obtain ⟨d, hd, dx⟩ := DpAll.get' hx hi
    obtain ⟨r, hr0, rfl⟩ : ∃ r, l[i]? = some r ∧ d = dP r := by
      rw [List.getElem?_map] at hd
      cases e : l[i]? with
      | none => rw [e] at hd; cases hd
      | some r => rw [e] at hd; exact ⟨r, rfl, (Option.some.inj hd).symm⟩
    obtain ⟨t, rfl, ht⟩ := Dp.pair dx
    have hil : i < l.length := (List.getElem?_eq_some_iff.mp hr0).1
    have len : ∀ m : List (Int × Int), (m.flatMap fun p => [p.1, p.2]).length = 2 * m.length := fun m => by
      induction m with
      | nil => rfl
      | cons a m ih =>
        simp only [List.flatMap_cons, List.length_append, ih, List.length_cons, List.length_nil]
        omega
    have lt : (((l.length : Int) :: (l.take i).flatMap fun p => [p.1, p.2]).map V.int).length ≤ 3000 := by
      rw [List.length_map, List.length_cons, len, List.length_take]
      omega
    have more : (l.take (i + 1)) = l.take i ++ [r] := by
      rw [List.take_add_one, hr0]
      rfl
    refine ⟨t, _, rfl, Same.seqT s2 ht, rfl, _, _, rfl, _, _, rfl, rfl, ?_⟩
    refine ⟨_, rfl, .inl ⟨rfl, _, SqL.of hD2⟩, _, rfl, D, _, _, rfl, rfl, hD2, by rw [sizeLine_eq]; omega, ?_⟩
    refine ⟨_, rfl, .inl ⟨rfl, _, SqL.of upd_same⟩, _, rfl, D, _, _, rfl, rfl, upd_same, by rw [List.length_append, sizeLine_eq, List.length_singleton]; omega, ?_⟩
    rw [upd_upd]
    refine ⟨fun b o e => ?_, ?_, ⟨_, _, rfl⟩⟩
    · rw [upd_ne (ne_of_none e hD)]
      exact s2 b o e
    · rw [upd_same, more, List.flatMap_append]
      simp
  · rintro σ H2 ⟨s2, hD2, ⟨u, v, rfl⟩⟩
    rw [hxl, List.take_length] at hD2
    exact ⟨_, rfl, h D H2 s2 hD hD2⟩
end
end MR

namespace MR
open PySem PySem.Spec PyProof.Rows L2
/-- one side of pairs that are walked as (old, new) -/
theorem lc_side {K : PySem.W.Frag} {vs : List Nat} {σ : L2.St} {H1 : Hp} {D : Addr} {Qd : Hp → Prop} {g : TG} {te : TE} {l : List (Int × Int)} {a : Addr} {xs : List V} (s : Int × Int → Int)
    (hn : l.length < 100000) (hD : H1 D = none) (hp : SqL K H1 a xs) (hx : DpAll K H1 xs (l.map dP))
    (step : ∀ (r : Int × Int) (t : Addr) (H : Hp) (Q : L2.St → Hp → Prop) (Kt : V → Hp → Prop) (Kf : Hp → Prop), SqT K H t [.int r.1, .int r.2] → Kt (.int (s r)) H →
      g (.ref t) (wipe σ vs) H fun σ2 H2 => wipe σ2 vs = wipe σ vs ∧ tYes σ2 H2 fun b H3 => if b = true then te σ2 H3 Kt else Kf H3)
    (fin : ∀ H v, Same H1 H → Dp K (nw H1 H) v (dLI (l.map s)) → v = .ref D → Qd H) : LcGoal (Itl K a) g tYes te vs σ H1 D Qd := by
  refine lc_L (K := K) (enc := dP) (l := l) (fun p => some (dI (s p))) hn hD hp hx ?_ ?_
  · intro i r x H acc hr s1 hacc dx Kt Kf ht hf
    obtain ⟨t, rfl, h2⟩ := Dp.pair dx
    exact step r t H (fun _ _ => True) Kt Kf h2 (ht _ H _ rfl (Same.refl H) (.int _))
  · intro H s1 dd
    rw [filterMap_some_map] at dd
    refine fin H _ s1 ?_ rfl
    rw [show (dLI (l.map s)) = PyData.list (l.map fun p => dI (s p)) from by show PyData.list ((l.map s).map dI) = _; rw [List.map_map]; rfl]
    exact dd
section
variable {P : Program} {w : World} {K : PySem.W.Frag} {mg : Str → Option Value} {base : Heap} {f : Addr} {fd : FuncData} {C : Addr}

/-! read_row_pairs -/
abbrev s_read_row_pairs : Stmt := topS 32
theorem sc_read_row_pairs : FnScope ["numbers", "old_count", "new_count", "pairs", "old", "new"] ["numbers", "old_count", "new_count"] (defScope s_read_row_pairs) := ⟨rfl, rfl, rfl, by decide +kernel, rfl, by decide +kernel, by decide +kernel⟩
def OkRows (oc nc : Int) (ns : List Int) : Prop := (ns.length % 2 = 0 ∧ ∀ p ∈ pairUp ns, InB oc nc p) ∧ Rise ((pairUp ns).map fun p => p.1) ∧ Rise ((pairUp ns).map fun p => p.2)
def sp_read_row_pairs (K : PySem.W.Frag) (C : Addr) : Sp := fun vs H Q E => ∃ a ns oc nc, vs = [.ref a, .int oc, .int nc] ∧ SqL K H a (ns.map V.int) ∧ ns.length ≤ 1000 ∧
  (¬ OkRows oc nc ns → ∀ H', Same H H' → E (.ref C) none H') ∧ (OkRows oc nc ns → New K H Q (dL dP (pairUp ns)))
theorem pairUp_len (ns : List Int) : (pairUp ns).length = ns.length / 2 := by
  unfold pairUp
  rw [List.length_map, List.length_range]
theorem ok_read_row_pairs (T : Tops mg) (C_paired : CalX P w K mg base CX0 1 "paired" (sp_paired K)) (C_rises : CalX P w K mg base CX0 1 "rises" (sp_rises K)) (C_are_whole_pairs : CalX P w K mg base CX0 2 "are_whole_pairs" (sp_are_whole_pairs K))
    (X_NotRowPairs : ErrX K mg "NotRowPairs" C) (F : Fun K "read_row_pairs" "read_row_pairs" s_read_row_pairs f fd) : FnOk P w K mg base (L2.CX P w) 3 f fd ["numbers", "old_count", "new_count"] (sp_read_row_pairs K C) := by
  refine F.okX sc_read_row_pairs (fun vs H Q E h => ?_) (fun cdv A outer s H vs Q E hr h => ⟨_, (pss_cons (ps_if (pt_not (pt_val (pe_k C_are_whole_pairs hr (by decide) (by rfl) (fun _ => quiet) (pa_cons (pv 0) (pa_cons (pv 1) (pa_cons (pv 2) pa_nil))))))
   (pss_one (ps_raise rfl (takes_of rfl rfl rfl rfl) (pmk_own0 PySem.F.excBase_Exception X_NotRowPairs.q X_NotRowPairs.g X_NotRowPairs.kp (raises_own X_NotRowPairs.b X_NotRowPairs.t) (by rfl)))) pss_nil)
  (pss_cons (ps_set (i := 3) sc_read_row_pairs.nd rfl (Or.inl rfl) (pe_k C_paired hr (by decide) (by rfl) (fun _ => quiet) (pa_cons (pv 0) pa_nil)))
  (pss_cons (ps_if (PW.pt (pw_or (pt_not (pt_val (pe_k C_rises hr (by decide) (by rfl) (fun _ => quiet) (pa_cons (pe_lc (own := [("old", 4), ("new", 5)]) rfl sc_read_row_pairs.nd (lstK K (pv 3)) (blkOk_by (N := ["numbers", "old_count", "new_count", "pairs", "old", "new"]) (sc := defScope s_read_row_pairs) (by decide +kernel)) (fun _ _ _ _ _ => (tupK K (n := 2) (pgs_cons (pg_name (i := 4) sc_read_row_pairs.nd rfl (Or.inl rfl)) (pgs_cons (pg_name (i := 5) sc_read_row_pairs.nd rfl (Or.inl rfl)) pgs_nil)))) (fun _ _ _ _ _ => pts_nil) (fun _ _ _ _ _ => (pv 4))) pa_nil)))) (pw_or1 (pt_not (pt_val (pe_k C_rises hr (by decide) (by rfl) (fun _ => quiet) (pa_cons (pe_lc (own := [("old", 4), ("new", 5)]) rfl sc_read_row_pairs.nd (lstK K (pv 3)) (blkOk_by (N := ["numbers", "old_count", "new_count", "pairs", "old", "new"]) (sc := defScope s_read_row_pairs) (by decide +kernel)) (fun _ _ _ _ _ => (tupK K (n := 2) (pgs_cons (pg_name (i := 4) sc_read_row_pairs.nd rfl (Or.inl rfl)) (pgs_cons (pg_name (i := 5) sc_read_row_pairs.nd rfl (Or.inl rfl)) pgs_nil)))) (fun _ _ _ _ _ => pts_nil) (fun _ _ _ _ _ => (pv 5))) pa_nil)))))))
   (pss_one (ps_raise rfl (takes_of rfl rfl rfl rfl) (pmk_own0 PySem.F.excBase_Exception X_NotRowPairs.q X_NotRowPairs.g X_NotRowPairs.kp (raises_own X_NotRowPairs.b X_NotRowPairs.t) (by rfl)))) pss_nil)
  (pss_one (ps_ret (pv 3)))))), ?_⟩)
  · obtain ⟨a, ns, oc, nc, rfl, _⟩ := h
    rfl
  obtain ⟨a, ns, oc, nc, rfl, hs, hl, hE, h⟩ := h
  refine ⟨_, rfl, _, rfl, _, rfl, a, ns, oc, nc, rfl, hs, hl, fun b H1 s1 hb => ?_⟩
  refine ⟨b, rfl, ?_⟩
  cases b with
  | false => exact iteT (hE (fun q => Bool.noConfusion (hb.mpr q.1)) _ s1)
  | true =>
  refine iteF ?_
  obtain ⟨z, inb⟩ := hb.mp rfl
  refine ⟨_, rfl, a, ns, rfl, s1.seq hs, hl, z, fun v H2 s2 d2 => ?_⟩
  obtain ⟨p, xs, rfl, hp, hx⟩ := Dp.list (dmono nw_in d2)
  have len : (pairUp ns).length ≤ 500 := by rw [pairUp_len]; omega
  refine ⟨_, rfl, p, rfl, ⟨xs, hp⟩, fun D hD => lc_side (K := K) (fun r => r.1) (by omega) hD hp hx (fun r t H Q Kt Kf h2 k => ⟨t, _, rfl, h2, rfl, _, _, rfl, _, _, rfl, rfl, rfl, lc_yes ⟨_, rfl, k⟩⟩) fun H3 v s3 d3 ev => ?_⟩
  subst ev
  obtain ⟨q, eq, hq⟩ := Dp.ints (dmono nw_in d3)
  refine ⟨q, _, congrArg (fun x => [x]) eq, hq, by rw [List.length_map]; omega, fun b hb => ⟨b, rfl, ?_⟩⟩
  cases b with
  | false => exact iteT (iteT (hE (fun q => Bool.noConfusion (hb.mpr q.2.1)) _ ((s1.trans s2).trans s3)))
  | true =>
  refine iteF ?_
  have hp3 := s3.seq hp
  have hx3 := dmonoAll s3 hx
  refine ⟨_, rfl, p, rfl, ⟨xs, hp3⟩, fun D2 hD2 => lc_side (K := K) (fun r => r.2) (by omega) hD2 hp3 hx3 (fun r t H Q Kt Kf h2 k => ⟨t, _, rfl, h2, rfl, _, _, rfl, _, _, rfl, rfl, rfl, lc_yes ⟨_, rfl, k⟩⟩) fun H4 v s4 d4 ev => ?_⟩
  subst ev
  obtain ⟨q2, eq2, hq2⟩ := Dp.ints (dmono nw_in d4)
  refine ⟨q2, _, congrArg (fun x => [x]) eq2, hq2, by rw [List.length_map]; omega, fun b hb2 => ⟨b, rfl, ?_⟩⟩
  cases b with
  | false => exact iteT (hE (fun q => Bool.noConfusion (hb2.mpr q.2.2)) _ (((s1.trans s2).trans s3).trans s4))
  | true =>
  refine iteF ⟨_, rfl, h ⟨⟨z, inb⟩, hb.mp rfl, hb2.mp rfl⟩ _ _ (((s1.trans s2).trans s3).trans s4) ?_⟩
  exact dmono ((nw_right0 (s3.trans s4))) (dmono (nw_left (Same.tk s1)) d2)
end
end MR

namespace MR
open PySem PySem.Spec PyProof.Rows L2
/-- the greatest of some numbers, 0 of none -/
def mx (l : List Nat) : Nat := l.foldl Nat.max 0
theorem mx_from : ∀ (l : List Nat) (a : Nat), a ≤ l.foldl Nat.max a ∧ (∀ x ∈ l, x ≤ l.foldl Nat.max a) ∧ (l.foldl Nat.max a = a ∨ l.foldl Nat.max a ∈ l)
  | [], a => ⟨Nat.le_refl _, fun x h => (by simp at h), .inl rfl⟩
  | y :: l, a => by
    obtain ⟨h1, h2, h3⟩ := mx_from l (Nat.max a y)
    have e : (y :: l).foldl Nat.max a = l.foldl Nat.max (Nat.max a y) := rfl
    rw [e]
    have ha : a ≤ Nat.max a y := Nat.le_max_left a y
    have hy : y ≤ Nat.max a y := Nat.le_max_right a y
    refine ⟨Nat.le_trans ha h1, fun x hx => ?_, ?_⟩
    · rcases List.mem_cons.mp hx with q | q
      · rw [q]
        exact Nat.le_trans hy h1
      · exact h2 x q
    · rcases h3 with q | q
      · rcases Nat.le_total a y with z | z
        · have e2 : Nat.max a y = y := Nat.max_eq_right z
          rw [e2] at q ⊢
          exact .inr (by rw [q]; exact List.mem_cons_self)
        · have e2 : Nat.max a y = a := Nat.max_eq_left z
          rw [e2] at q ⊢
          exact .inl q
      · exact .inr (List.mem_cons_of_mem _ q)
theorem mx_le {l : List Nat} {x : Nat} (h : x ∈ l) : x ≤ mx l := (mx_from l 0).2.1 x h
theorem mx_in (l : List Nat) : mx l = 0 ∨ mx l ∈ l := (mx_from l 0).2.2
theorem mx_eq {l : List Nat} {m : Nat} (h1 : ∀ x ∈ l, x ≤ m) (h2 : m = 0 ∨ m ∈ l) : mx l = m := by
  have a : mx l ≤ m := by
    rcases mx_in l with q | q
    · omega
    · exact h1 _ q
  have b : m ≤ mx l := by
    rcases h2 with q | q
    · omega
    · exact mx_le q
  omega
/-- the greatest of a list, as max(.., default=0) tells it -/
theorem maxOr_nat {K : PySem.W.Frag} {H : Hp} {a : Addr} {l : List Nat} {Q : VK} (h : SqL K H a ((l.map Int.ofNat).map V.int)) (q : Q (.int (mx l : Nat)) H) :
    ∃ (a' : Addr) (ns : List Int) (d : V), [V.ref a] = [V.ref a'] ∧ [V.int 0] = [d] ∧ SqL K H a' (ns.map V.int) ∧ (ns = [] → Q d H) ∧ ∀ m, m ∈ ns → (∀ y, y ∈ ns → y ≤ m) → Q (.int m) H := by
  refine ⟨a, l.map Int.ofNat, _, rfl, rfl, h, fun e => ?_, fun m hm hy => ?_⟩
  · have e : l = [] := List.map_eq_nil_iff.mp e
    subst e
    exact q
  · obtain ⟨n, hn, rfl⟩ := List.mem_map.mp hm
    have e : mx l = n := mx_eq (fun x hx => by have := hy (Int.ofNat x) (List.mem_map.mpr ⟨x, hx, rfl⟩); exact Int.ofNat_le.mp this) (.inr hn)
    rw [e] at q
    exact q
/-- one more length -/
def lrStep (l : List Nat) (b : List Nat) (x : Nat × Nat) : List Nat := b ++ [((List.range x.2).map fun j => if (l[j]?).getD 0 < x.1 then (b[j]?).getD 0 else 0).foldl Nat.max 0 + 1]
def lrTo (l : List Nat) (i : Nat) : List Nat := (l.zipIdx.take i).foldl (lrStep l) []
theorem lrTo_succ {l : List Nat} {i : Nat} {x : Nat} (h : l[i]? = some x) : lrTo l (i + 1) = lrStep l (lrTo l i) (x, i) := by
  unfold lrTo
  have e : l.zipIdx[i]? = some (x, i) := by rw [List.getElem?_zipIdx, h]; simp
  rw [List.take_add_one, e, List.foldl_append]
  rfl
theorem lrTo_len (l : List Nat) : ∀ i, i ≤ l.length → (lrTo l i).length = i
  | 0, _ => rfl
  | i + 1, h => by
    have e : l[i]? = some l[i] := List.getElem?_eq_getElem h
    rw [lrTo_succ e]
    show (lrTo l i ++ [_]).length = i + 1
    rw [List.length_append, lrTo_len l i (by omega)]
    rfl
theorem lrTo_all (l : List Nat) : VatdfBase.longest l = mx (lrTo l l.length) := by
  unfold VatdfBase.longest VatdfBase.longestTo lrTo mx
  have e : l.zipIdx.take l.length = l.zipIdx := List.take_of_length_le (by rw [List.length_zipIdx]; exact Nat.le_refl _)
  rw [e]
  rfl
/-- those that are less, of the ones ahead -/
theorem lr_ahead (l b : List Nat) (x i : Nat) : (((List.range i).filterMap fun k => if (l[k]?).getD 0 < x then some ((b[k]?).getD 0) else none)).foldl Nat.max 0 = ((List.range i).map fun j => if (l[j]?).getD 0 < x then (b[j]?).getD 0 else 0).foldl Nat.max 0 := by
  refine mx_eq (l := (List.range i).filterMap _) (fun y hy => ?_) ?_
  · obtain ⟨k, hk, e⟩ := List.mem_filterMap.mp hy
    refine mx_le (l := (List.range i).map _) (List.mem_map.mpr ⟨k, hk, ?_⟩)
    by_cases c : (l[k]?).getD 0 < x
    · rw [if_pos c] at e ⊢
      exact Option.some.inj e
    · rw [if_neg c] at e
      cases e
  · rcases mx_in ((List.range i).map fun j => if (l[j]?).getD 0 < x then (b[j]?).getD 0 else 0) with q | q
    · exact .inl q
    · obtain ⟨k, hk, e⟩ := List.mem_map.mp q
      by_cases c : (l[k]?).getD 0 < x
      · refine .inr (List.mem_filterMap.mpr ⟨k, hk, ?_⟩)
        rw [if_pos c] at e ⊢
        rw [e]
        rfl
      · rw [if_neg c] at e
        exact .inl e.symm

/-! Longest rising parts, from behind -/
/-- of each number, how long a longest rising part is that begins with it -/
def rl : List Nat → List Nat
  | [] => []
  | x :: l => (mx ((l.zip (rl l)).map fun z => if x < z.1 then z.2 else 0) + 1) :: rl l
theorem rl_len : ∀ l : List Nat, (rl l).length = l.length
  | [] => rfl
  | x :: l => by
    unfold rl
    rw [List.length_cons, List.length_cons, rl_len l]
theorem rl_drop : ∀ (l : List Nat) (i : Nat), (rl l).drop i = rl (l.drop i)
  | [], i => by
    rw [List.drop_nil]
    unfold rl
    exact List.drop_nil
  | x :: l, 0 => rfl
  | x :: l, i + 1 => by
    rw [List.drop_succ_cons]
    conv => lhs; unfold rl
    rw [List.drop_succ_cons]
    exact rl_drop l i
/-- each length is that of some rising part -/
theorem rl_sound : ∀ (l : List Nat) (y r : Nat), (y, r) ∈ l.zip (rl l) → ∃ s, (y :: s).Sublist l ∧ (y :: s).Pairwise (· < ·) ∧ s.length + 1 = r
  | [], y, r, h => by simp at h
  | x :: l, y, r, h => by
    have e : (x :: l).zip (rl (x :: l)) = (x, mx ((l.zip (rl l)).map fun z => if x < z.1 then z.2 else 0) + 1) :: l.zip (rl l) := rfl
    rw [e] at h
    rcases List.mem_cons.mp h with q | q
    · obtain ⟨rfl, rfl⟩ := Prod.mk.inj q
      have none_ : ∀ k : Nat, k = 0 → ∃ s, (y :: s).Sublist (y :: l) ∧ (y :: s).Pairwise (· < ·) ∧ s.length + 1 = k + 1 := fun k hk => ⟨[], List.Sublist.cons_cons y (List.nil_sublist l), List.pairwise_singleton _ _, by rw [hk]; rfl⟩
      rcases mx_in ((l.zip (rl l)).map fun z => if y < z.1 then z.2 else 0) with z | z
      · exact none_ _ z
      · obtain ⟨⟨u, v⟩, hm, ev⟩ := List.mem_map.mp z
        by_cases c : y < u
        · have ev : v = mx ((l.zip (rl l)).map fun z => if y < z.1 then z.2 else 0) := by
            have : (if y < u then v else 0) = _ := ev
            rwa [if_pos c] at this
          obtain ⟨s, h1, h2, h3⟩ := rl_sound l u v hm
          refine ⟨u :: s, List.Sublist.cons_cons y h1, List.pairwise_cons.mpr ⟨fun a ha => ?_, h2⟩, by rw [List.length_cons, h3, ev]⟩
          rcases List.mem_cons.mp ha with q | q
          · rw [q]
            exact c
          · exact Nat.lt_trans c ((List.pairwise_cons.mp h2).1 a q)
        · have ev : 0 = mx ((l.zip (rl l)).map fun z => if y < z.1 then z.2 else 0) := by
            have : (if y < u then v else 0) = _ := ev
            rwa [if_neg c] at this
          exact none_ _ ev.symm
    · obtain ⟨s, h1, h2, h3⟩ := rl_sound l y r q
      exact ⟨s, List.Sublist.cons x h1, h2, h3⟩
/-- no rising part is longer -/
theorem rl_full : ∀ (l : List Nat) (y : Nat) (s : List Nat), (y :: s).Sublist l → (y :: s).Pairwise (· < ·) → ∃ r, (y, r) ∈ l.zip (rl l) ∧ s.length + 1 ≤ r
  | [], y, s, h, _ => by cases h
  | x :: l, y, s, h, hp => by
    have e : (x :: l).zip (rl (x :: l)) = (x, mx ((l.zip (rl l)).map fun z => if x < z.1 then z.2 else 0) + 1) :: l.zip (rl l) := rfl
    rw [e]
    cases h with
    | cons _ h =>
      obtain ⟨r, h1, h2⟩ := rl_full l y s h hp
      exact ⟨r, List.mem_cons_of_mem _ h1, h2⟩
    | cons_cons _ h =>
      refine ⟨_, List.mem_cons_self, ?_⟩
      cases s with
      | nil => exact Nat.le_add_left _ _
      | cons u s =>
        obtain ⟨h1, h2⟩ := List.pairwise_cons.mp hp
        obtain ⟨r, h3, h4⟩ := rl_full l u s h h2
        have : r ≤ mx ((l.zip (rl l)).map fun z => if x < z.1 then z.2 else 0) := mx_le (List.mem_map.mpr ⟨(u, r), h3, if_pos (h1 u List.mem_cons_self)⟩)
        rw [List.length_cons]
        omega
/-- the same of the lengths from ahead -/
theorem lrTo_at {l : List Nat} : ∀ {i j : Nat}, i ≤ l.length → j < i → (lrTo l i)[j]? = (lrTo l (j + 1))[j]?
  | 0, j, _, h => absurd h (Nat.not_lt_zero _)
  | i + 1, j, hi, hj => by
    have ei : l[i]? = some l[i] := List.getElem?_eq_getElem hi
    by_cases c : j = i
    · rw [c]
    · rw [lrTo_succ ei]
      unfold lrStep
      rw [List.getElem?_append_left (by rw [lrTo_len l i (by omega)]; omega)]
      exact lrTo_at (by omega) (by omega)
theorem lrTo_new {l : List Nat} {j : Nat} (hj : j < l.length) : (lrTo l (j + 1))[j]? = some (mx ((List.range j).map fun k => if (l[k]?).getD 0 < l[j] then ((lrTo l j)[k]?).getD 0 else 0) + 1) := by
  have ej : l[j]? = some l[j] := List.getElem?_eq_getElem hj
  rw [lrTo_succ ej]
  unfold lrStep
  rw [List.getElem?_append_right (by rw [lrTo_len l j (by omega)]; exact Nat.le_refl _), lrTo_len l j (by omega), Nat.sub_self]
  rfl
theorem take_snoc {l : List Nat} {j : Nat} (hj : j < l.length) : l.take (j + 1) = l.take j ++ [l[j]] := by
  rw [List.take_add_one, List.getElem?_eq_getElem hj]
  rfl
theorem pair_snoc {s : List Nat} {y : Nat} : (s ++ [y]).Pairwise (· < ·) ↔ s.Pairwise (· < ·) ∧ ∀ a ∈ s, a < y := by
  rw [List.pairwise_append]
  constructor
  · exact fun ⟨h1, _, h3⟩ => ⟨h1, fun a ha => h3 a ha y List.mem_cons_self⟩
  · exact fun ⟨h1, h2⟩ => ⟨h1, List.pairwise_singleton _ _, fun a ha b hb => by rw [List.mem_singleton.mp hb]; exact h2 a ha⟩
theorem lr_sound (l : List Nat) : ∀ (n j : Nat), j < n → (hj : j < l.length) → ∃ s r, (lrTo l l.length)[j]? = some r ∧ (s ++ [l[j]]).Sublist (l.take (j + 1)) ∧ (s ++ [l[j]]).Pairwise (· < ·) ∧ s.length + 1 = r
  | 0, j, h, _ => absurd h (Nat.not_lt_zero _)
  | n + 1, j, hn, hj => by
    have e : (lrTo l l.length)[j]? = some (mx ((List.range j).map fun k => if (l[k]?).getD 0 < l[j] then ((lrTo l j)[k]?).getD 0 else 0) + 1) := by
      rw [lrTo_at (Nat.le_refl _) hj, lrTo_new hj]
    rw [e, take_snoc hj]
    have none_ : ∀ k : Nat, k = 0 → ∃ s r, some (k + 1) = some r ∧ (s ++ [l[j]]).Sublist (l.take j ++ [l[j]]) ∧ (s ++ [l[j]]).Pairwise (· < ·) ∧ s.length + 1 = r := fun k hk => ⟨[], k + 1, rfl, List.Sublist.append (List.nil_sublist _) (List.Sublist.refl _), List.pairwise_singleton _ _, by rw [hk]; rfl⟩
    rcases mx_in ((List.range j).map fun k => if (l[k]?).getD 0 < l[j] then ((lrTo l j)[k]?).getD 0 else 0) with z | z
    · exact none_ _ z
    · obtain ⟨k, hk, ev⟩ := List.mem_map.mp z
      have hk := List.mem_range.mp hk
      have hkl : k < l.length := by omega
      have ek : (l[k]?).getD 0 = l[k] := by rw [List.getElem?_eq_getElem hkl]; rfl
      rw [ek] at ev
      by_cases c : l[k] < l[j]
      · rw [if_pos c] at ev
        obtain ⟨s, r, h1, h2, h3, h4⟩ := lr_sound l n k (by omega) hkl
        have h1 : (lrTo l j)[k]? = some r := by
          rw [lrTo_at (by omega) hk, ← lrTo_at (Nat.le_refl _) hkl]
          exact h1
        rw [h1] at ev
        have ev : r = _ := ev
        refine ⟨s ++ [l[k]], r + 1, by rw [ev], List.Sublist.append (h2.trans ?_) (List.Sublist.refl _), pair_snoc.mpr ⟨h3, fun a ha => ?_⟩, by rw [List.length_append, List.length_singleton, h4]⟩
        · have : l.take (k + 1) = (l.take j).take (k + 1) := by rw [List.take_take, Nat.min_eq_left (by omega)]
          rw [this]
          exact List.take_sublist _ _
        · rcases List.mem_append.mp ha with q | q
          · exact Nat.lt_trans ((pair_snoc.mp h3).2 a q) c
          · rw [List.mem_singleton.mp q]
            exact c
      · rw [if_neg c] at ev
        exact none_ _ ev.symm
theorem lr_full (l : List Nat) : ∀ (n i : Nat) (s : List Nat) (y : Nat), i ≤ n → i ≤ l.length → (s ++ [y]).Sublist (l.take i) → (s ++ [y]).Pairwise (· < ·) → ∃ j r, j < i ∧ l[j]? = some y ∧ (lrTo l l.length)[j]? = some r ∧ s.length + 1 ≤ r
  | n, 0, s, y, _, _, h, _ => by
    rw [List.take_zero] at h
    have := h.length_le
    simp at this
  | 0, i + 1, s, y, h0, _, _, _ => absurd h0 (by omega)
  | n + 1, i + 1, s, y, hn, hi, h, hp => by
    rw [take_snoc hi] at h
    obtain ⟨l1, l2, e, h1, h2⟩ := List.sublist_append_iff.mp h
    rcases l2 with _ | ⟨b, l2⟩
    · rw [List.append_nil] at e
      rw [← e] at h1
      obtain ⟨j, r, q1, q2⟩ := lr_full l n i s y (by omega) (by omega) h1 hp
      exact ⟨j, r, by omega, q2⟩
    · have hb : (b :: l2) = [l[i]] := by
        have h3 := h2.length_le
        have h4 : l2 = [] := by
          rw [List.length_cons, List.length_singleton] at h3
          exact List.length_eq_zero_iff.mp (by omega)
        subst h4
        have := h2.subset List.mem_cons_self
        rw [List.mem_singleton.mp this]
      rw [hb] at e
      obtain ⟨e1, e2⟩ := List.append_inj' e rfl
      have e2 : y = l[i] := List.head_eq_of_cons_eq e2
      rw [← e1] at h1
      refine ⟨i, _, Nat.lt_succ_self _, by rw [e2]; exact List.getElem?_eq_getElem hi, by rw [lrTo_at (Nat.le_refl _) hi, lrTo_new hi], ?_⟩
      rcases List.eq_nil_or_concat s with q | ⟨t, z, q⟩
      · rw [q]
        exact Nat.le_add_left _ _
      · have q : s = t ++ [z] := by rw [q, List.concat_eq_append]
        rw [q] at h1 hp ⊢
        obtain ⟨p1, p2⟩ := pair_snoc.mp hp
        obtain ⟨j, r, q1, q2, q3, q4⟩ := lr_full l n i t z (by omega) (by omega) h1 p1
        have hjl : j < l.length := by omega
        have zy : z < l[i] := by rw [← e2]; exact p2 z (List.mem_append_right _ List.mem_cons_self)
        have : r ≤ mx ((List.range i).map fun k => if (l[k]?).getD 0 < l[i] then ((lrTo l i)[k]?).getD 0 else 0) := by
          refine mx_le (List.mem_map.mpr ⟨j, List.mem_range.mpr q1, ?_⟩)
          rw [q2]
          show (if z < l[i] then _ else _) = _
          rw [if_pos zy, lrTo_at (by omega) q1, ← lrTo_at (Nat.le_refl _) hjl, q3]
          rfl
        rw [List.length_append, List.length_singleton]
        omega
/-- **a longest rising part is as long from behind as from ahead** -/
theorem rl_longest (l : List Nat) : mx (rl l) = VatdfBase.longest l := by
  rw [lrTo_all]
  have hlen := lrTo_len l l.length (Nat.le_refl _)
  refine Nat.le_antisymm ?_ ?_
  · rcases mx_in (rl l) with q | q
    · omega
    · obtain ⟨i, hi, e⟩ := List.mem_iff_getElem.mp q
      have hl : i < l.length := by rw [← rl_len l]; exact hi
      obtain ⟨s, h1, h2, h3⟩ := rl_sound l l[i] (rl l)[i] (by
        rw [← List.getElem_zip (h := by rw [List.length_zip]; omega)]
        exact List.getElem_mem _)
      rw [e] at h3
      obtain ⟨t, z, hz⟩ : ∃ t z, l[i] :: s = t ++ [z] := by
        rcases List.eq_nil_or_concat (l[i] :: s) with q | ⟨t, z, q⟩
        · cases q
        · exact ⟨t, z, by rw [q, List.concat_eq_append]⟩
      have hlz := congrArg List.length hz
      rw [List.length_append, List.length_singleton, List.length_cons] at hlz
      rw [hz] at h1 h2
      obtain ⟨j, r, q1, q2, q3, q4⟩ := lr_full l l.length l.length t z (Nat.le_refl _) (Nat.le_refl _) (by rw [List.take_length]; exact h1) h2
      have := mx_le (List.mem_of_getElem? q3)
      omega
  · rcases mx_in (lrTo l l.length) with q | q
    · omega
    · obtain ⟨i, hi, e⟩ := List.mem_iff_getElem.mp q
      have hl : i < l.length := by omega
      obtain ⟨s, r, h1, h2, h3, h4⟩ := lr_sound l (i + 1) i (Nat.lt_succ_self _) hl
      rw [List.getElem?_eq_getElem hi, e] at h1
      have h1 := Option.some.inj h1
      obtain ⟨y, t, hy⟩ : ∃ y t, s ++ [l[i]] = y :: t := by
        cases s with
        | nil => exact ⟨_, _, rfl⟩
        | cons a s => exact ⟨_, _, rfl⟩
      have hly := congrArg List.length hy
      rw [List.length_append, List.length_singleton, List.length_cons] at hly
      rw [hy] at h2 h3
      obtain ⟨r', q1, q2⟩ := rl_full l y t (h2.trans (List.take_sublist _ _)) h3
      have : r' ∈ rl l := (List.of_mem_zip q1).2
      have := mx_le this
      omega
/-- the specification's lengths -/
theorem rl_from : ∀ l : List (Nat × Nat), Vatdfb.risingFrom l = rl (l.map fun p => p.2)
  | [] => rfl
  | p :: l => by
    have ih := rl_from l
    unfold Vatdfb.risingFrom
    rw [List.map_cons]
    unfold rl
    rw [← ih]
    have this : ∀ (l : List (Nat × Nat)) (r : List Nat), ((l.zip r).map fun x => if p.2 < x.1.2 then x.2 else 0) = (((l.map fun p => p.2).zip r).map fun z => if p.2 < z.1 then z.2 else 0) := by
      intro l
      induction l with
      | nil => exact fun r => rfl
      | cons a l ih =>
        intro r
        cases r with
        | nil => rfl
        | cons b r =>
          rw [List.map_cons, List.zip_cons_cons, List.zip_cons_cons, List.map_cons, List.map_cons, ih r]
    show ((((l.zip (Vatdfb.risingFrom l)).map fun x => if p.2 < x.1.2 then x.2 else 0).foldl Nat.max 0 + 1) :: Vatdfb.risingFrom l) = _
    rw [this]
    rfl
/-- the greatest of those behind that are more -/
theorem rl_behind (x : Nat) : ∀ (l r : List Nat), r.length = l.length → ((List.range l.length).filterMap fun t => if x < (l[t]?).getD 0 then some ((r[t]?).getD 0) else none).foldl Nat.max 0 = mx ((l.zip r).map fun z => if x < z.1 then z.2 else 0) := by
  intro l r h
  have el : (l.zip r).map (fun z => if x < z.1 then z.2 else 0) = (List.range l.length).map fun t => if x < (l[t]?).getD 0 then (r[t]?).getD 0 else 0 := by
    refine List.ext_getElem (by rw [List.length_map, List.length_map, List.length_zip, List.length_range]; omega) fun i h1 h2 => ?_
    rw [List.length_map, List.length_range] at h2
    rw [List.getElem_map, List.getElem_map, List.getElem_zip, List.getElem_range, List.getElem?_eq_getElem h2, List.getElem?_eq_getElem (by omega)]
    rfl
  rw [el]
  refine mx_eq (l := (List.range l.length).filterMap _) (fun y hy => ?_) ?_
  · obtain ⟨k, hk, e⟩ := List.mem_filterMap.mp hy
    refine mx_le (List.mem_map.mpr ⟨k, hk, ?_⟩)
    by_cases c : x < (l[k]?).getD 0
    · rw [if_pos c] at e ⊢
      exact Option.some.inj e
    · rw [if_neg c] at e
      cases e
  · rcases mx_in ((List.range l.length).map fun t => if x < (l[t]?).getD 0 then (r[t]?).getD 0 else 0) with q | q
    · exact .inl q
    · obtain ⟨k, hk, e⟩ := List.mem_map.mp q
      by_cases c : x < (l[k]?).getD 0
      · refine .inr (List.mem_filterMap.mpr ⟨k, hk, ?_⟩)
        rw [if_pos c] at e ⊢
        rw [e]
      · rw [if_neg c] at e
        exact .inl e.symm
end MR

namespace MR
open PySem PySem.Spec PyProof.Rows L2
theorem getD_nat {l : List Nat} {i : Nat} (h : i < l.length) : ((l.map Int.ofNat).map V.int)[i]? = some (.int ((l[i]?).getD 0 : Nat)) := by
  rw [List.getElem?_map, List.getElem?_map, List.getElem?_eq_getElem h]
  rfl
theorem ixN_nat {n j : Nat} (h : j < n) : ixN n ((j : Nat) : Int) = some j := by
  unfold ixN
  simp [h]
theorem rl_at {l : List Nat} {q : Nat} (hq : q < l.length) : rl (l.drop q) = (mx (((l.drop (q + 1)).zip (rl (l.drop (q + 1)))).map fun z => if (l[q]?).getD 0 < z.1 then z.2 else 0) + 1) :: rl (l.drop (q + 1)) := by
  rw [List.drop_eq_getElem_cons hq, List.getElem?_eq_getElem hq]
  rfl
theorem set_last {α : Type} : ∀ (q : Nat) (z v : α) (R : List α), (List.replicate (q + 1) z ++ R).set q v = List.replicate q z ++ v :: R
  | 0, z, v, R => rfl
  | q + 1, z, v, R => by
    rw [List.replicate_succ (n := q + 1), List.cons_append, List.set_cons_succ, set_last q z v R]
    rfl
/-- data is handed back, all else stays -/
abbrev Ans (K : PySem.W.Frag) (H : Hp) (Q : VK) (d : PyData) : Prop := ∀ v H', Same H H' → Dp K H' v d → Q v H'
section
variable {P : Program} {w : World} {K : PySem.W.Frag} {mg : Str → Option Value} {base : Heap} {f : Addr} {fd : FuncData} {C : Addr}

/-! rising_lengths -/
abbrev s_rising_lengths : Stmt := topS 2
theorem sc_rising_lengths : FnScope ["numbers", "lengths", "place", "behind", "k"] ["numbers"] (defScope s_rising_lengths) := ⟨rfl, rfl, rfl, by decide +kernel, rfl, by decide +kernel, by decide +kernel⟩
def sp_rising_lengths (K : PySem.W.Frag) : Sp := fun vs H Q _ => ∃ (a : Addr) (l : List Nat), vs = [.ref a] ∧ SqL K H a ((l.map Int.ofNat).map V.int) ∧ l.length ≤ 1000 ∧ ∀ p H', Same H H' → H p = none → H' p = some (.lst (((rl l).map Int.ofNat).map V.int)) → Q (.ref p) H'
theorem ok_rising_lengths (T : Tops mg) (F : Fun K "rising_lengths" "rising_lengths" s_rising_lengths f fd) : FnOk P w K mg base CX0 1 f fd ["numbers"] (sp_rising_lengths K) := by
  refine F.ok sc_rising_lengths (fun vs H Q E h => ?_) (fun cdv A outer s H vs Q E hr h => ⟨_, (pss_cons (ps_set (i := 1) sc_rising_lengths.nd rfl (Or.inr rfl) (pe_op op_rep (pe_lst (pa_cons pe_int pa_nil)) (pe_callB (lenK K) (by rfl) T.n_len PySem.boot_len (pa_cons (pv 0) pa_nil))))
  (pss_cons (ps_for PassesOwn.never rfl (pi_range3 (by rfl) T.n_range (pa_cons (pe_op op_sub (pe_callB (lenK K) (by rfl) T.n_len PySem.boot_len (pa_cons (pv 0) pa_nil)) pe_int) (pa_cons (pe_un un_neg pe_int) (pa_cons (pe_un un_neg pe_int) pa_nil)))) (pg_name (i := 2) sc_rising_lengths.nd rfl (Or.inr rfl))
   (pss_cons (ps_setLc (i := 3) (own := [("k", 4)]) rfl sc_rising_lengths.nd rfl rfl (sw_true rfl rfl rfl (by decide +kernel)) (pi_range2 (by rfl) T.n_range (pa_cons (pe_op op_add (pv 2) pe_int) (pa_cons (pe_callB (lenK K) (by rfl) T.n_len PySem.boot_len (pa_cons (pv 0) pa_nil)) pa_nil))) (blkOk_by (N := ["numbers", "lengths", "place", "behind", "k"]) (sc := defScope s_rising_lengths) (by decide +kernel)) (fun _ _ _ _ _ => (pg_name (i := 4) sc_rising_lengths.nd rfl (Or.inl rfl))) (fun _ _ _ _ _ => (pts_one (pt_cmpR op_gt (pe_ix (ixL K) (pv 0) (pv 4) (fun _ _ => rfl)) (pe_ix (ixL K) (pv 0) (pv 2) (fun _ _ => rfl)) (nomark _)))) (fun _ _ _ _ _ => (pe_ix (ixL K) (pv 1) (pv 4) (fun _ _ => rfl))))
  (pss_one (ps_asg (pe_op op_add pe_int (pe_callBK (maxK K (hu_of hr)) (by rfl) T.n_max (by decide +kernel) (pa_cons (pv 3) pa_nil) (pk_cons pe_int pk_nil))) (pg_sub (pv 1) (pv 2) set_list)))))
  (pss_one (ps_ret (pv 1))))), ?_⟩)
  · obtain ⟨a, l, rfl, _⟩ := h
    rfl
  obtain ⟨a, l, rfl, hs, hl, h⟩ := h
  have ell : ((l.map Int.ofNat).map V.int).length = l.length := by rw [List.length_map, List.length_map]
  have szl : (2000 : Nat) ≤ sizeLine := by decide
  refine ⟨by show 1 ≤ sizeLine; decide, fun L hL => ⟨_, rfl, a, _, rfl, .inl ((Same.made1 hL).seq hs), L, _, _, rfl, rfl, upd_same, by omega, by omega, by rw [ell, Int.toNat_natCast]; show 1 * _ ≤ _; omega, fun D hD => ?_⟩⟩
  have sL : Same H (upd H L (.lst [.int 0])) := Same.made1 hL
  generalize upd H L (.lst [.int 0]) = H1 at sL hD ⊢
  have hD0 : H D = none := sL.free hD
  have s1 : Same H (upd H1 D (.lst (List.replicate (Int.toNat (((l.map Int.ofNat).map V.int).length : Nat)) [V.int 0]).flatten)) := sL.trans (Same.made1 hD)
  refine ⟨_, rfl, a, _, rfl, .inl (s1.seq hs), _, _, rfl, rfl, _, rfl, _, rfl, (l.length : Int) - 1, -1, -1, l.length, by rw [ell], ?_, ?_⟩
  · have e := RgC.neg (i := (l.length : Int) - 1) (j := -1) (by omega) (by omega) (by omega) (by omega)
    rwa [show ((l.length : Int) - 1 - -1).toNat = l.length from by omega] at e
  refine for_rangeC (lo := (l.length : Int) - 1) (c := -1) (n := l.length) (fun i σ H' => Same H H' ∧ H' D = some (.lst (((List.replicate (l.length - i) 0 ++ rl (l.drop (l.length - i))).map Int.ofNat).map V.int)) ∧ ∃ u v, σ = [some (.ref a), some (.ref D), u, v, none]) ⟨s1, ?_, ⟨_, _, rfl⟩⟩ ?_ ?_
  · rw [upd_same, ell, Int.toNat_natCast]
    have e0 : rl (l.drop (l.length - 0)) = [] := by rw [Nat.sub_zero, List.drop_length]; rfl
    rw [e0, List.append_nil, Nat.sub_zero]
    have : ∀ n, (List.replicate n [V.int 0]).flatten = ((List.replicate n (0 : Nat)).map Int.ofNat).map V.int := fun n => by
      induction n with
      | zero => rfl
      | succ n ih =>
        rw [List.replicate_succ, List.replicate_succ, List.flatten_cons, ih]
        rfl
    rw [this]
  · rintro i σ H2 hi ⟨s2, hD2, ⟨u, v, rfl⟩⟩
    obtain ⟨q, hq⟩ : ∃ q, q = l.length - 1 - i := ⟨_, rfl⟩
    have hql : q < l.length := by omega
    have eq1 : l.length - i = q + 1 := by omega
    have ep : (l.length : Int) - 1 + (i : Nat) * -1 = (q : Nat) := by omega
    rw [ep]
    rw [eq1] at hD2
    have eRl : (rl (l.drop (q + 1))).length = l.length - (q + 1) := by rw [rl_len, List.length_drop]
    refine ⟨_, rfl, _, _, rfl, rfl, _, rfl, a, _, rfl, .inl (s2.seq hs), ((q + 1 : Nat) : Int), (l.length : Int), by rw [ell]; rfl, ⟨by omega, by omega, by omega, by omega⟩, fun B hB => ?_⟩
    refine lc_R (K := K) (lo := ((q + 1 : Nat) : Int)) (fun t => if (l[q]?).getD 0 < (((l.drop (q + 1))[t]?).getD 0) then some (dI (((rl (l.drop (q + 1)))[t]?).getD 0 : Nat)) else none) (by omega) hB ?_ ?_
    · intro t H4 acc ht s4 hacc Kt Kf hkt hkf
      have ht : t < l.length - (q + 1) := by omega
      have ed : ((l.drop (q + 1))[t]?).getD 0 = (l[q + 1 + t]?).getD 0 := by rw [List.getElem?_drop]
      refine ⟨rfl, _, rfl, _, rfl, a, _, _, _, rfl, rfl, (s2.trans s4).seq hs, at_of (j := q + 1 + t) (by omega) (getD_nat (by omega)), _, rfl, _, rfl, a, _, _, _, rfl, rfl, (s2.trans s4).seq hs, at_of (j := q) rfl (getD_nat hql), _, _, rfl, rfl, _, rfl, ?_⟩
      refine ite_dec (c := (l[q]?).getD 0 < ((l.drop (q + 1))[t]?).getD 0) (decide_eq_decide.mpr (by rw [ed]; omega)) (fun c => ?_) (fun c => ?_)
      · refine ⟨_, rfl, _, rfl, D, _, _, .int (((rl (l.drop (q + 1)))[t]?).getD 0 : Nat), rfl, rfl, SqL.of (s4 _ _ hD2), at_of (j := q + 1 + t) (by omega) ?_, hkt _ _ _ (if_pos c) (Same.refl _) (.int _)⟩
        rw [List.getElem?_map, List.getElem?_map, List.getElem?_append_right (by rw [List.length_replicate]; omega), List.length_replicate, show q + 1 + t - (q + 1) = t from by omega, List.getElem?_eq_getElem (by rw [eRl]; exact ht)]
        rfl
      · exact hkf _ (if_neg c) (Same.refl _)
    · intro H4 s4 dd
      have en : ((l.length : Int) - ((q + 1 : Nat) : Int)).toNat = (l.drop (q + 1)).length := by rw [List.length_drop]; omega
      rw [en] at dd
      have e1 : ((List.range (l.drop (q + 1)).length).filterMap fun t => if (l[q]?).getD 0 < (((l.drop (q + 1))[t]?).getD 0) then some (dI (((rl (l.drop (q + 1)))[t]?).getD 0 : Nat)) else none) =
          (((List.range (l.drop (q + 1)).length).filterMap fun t => if (l[q]?).getD 0 < (((l.drop (q + 1))[t]?).getD 0) then some (((rl (l.drop (q + 1)))[t]?).getD 0) else none).map Int.ofNat).map dI := by
        rw [List.map_map, List.map_filterMap]
        congr 1
        funext k
        by_cases c : (l[q]?).getD 0 < (((l.drop (q + 1))[k]?).getD 0)
        · rw [if_pos c, if_pos c]
          rfl
        · rw [if_neg c, if_neg c]
          rfl
      rw [e1] at dd
      obtain ⟨b, eb, hb⟩ := Dp.ints (dmono nw_in dd)
      cases eb
      have hD4 := s4 _ _ hD2
      refine ⟨_, rfl, ?_⟩
      refine maxOr_nat (Q := fun y_1 H2 => rI0 (fun i j => V.int (i + j)) (V.int 1) y_1 H2 _) hb ?_
      refine ⟨_, _, rfl, rfl, _, rfl, _, rfl, D, _, _, q, rfl, rfl, hD4, ixN_nat ?_, ?_⟩
      · rw [List.length_map, List.length_map, List.length_append, List.length_replicate]
        omega
      refine ⟨fun b o e => ?_, ?_, ⟨_, _, rfl⟩⟩
      · rw [upd_ne (ne_of_none e hD0)]
        exact (s2.trans s4) b o e
      · rw [upd_same, show l.length - (i + 1) = q from by omega, rl_at hql]
        have eb := rl_behind ((l[q]?).getD 0) (l.drop (q + 1)) (rl (l.drop (q + 1))) (rl_len _)
        unfold mx at eb ⊢
        rw [← eb]
        rw [← List.map_set]
        generalize List.foldl Nat.max 0 (List.filterMap _ (List.range (l.drop (q + 1)).length)) = M
        rw [show (1 : Int) + (M : Nat) = Int.ofNat (M + 1) from by rw [Int.ofNat_eq_natCast]; omega, ← List.map_set]
        congr 4
        exact set_last q _ _ _
  · rintro σ H2 ⟨s2, hD2, ⟨u, v, rfl⟩⟩
    rw [Nat.sub_self] at hD2
    exact ⟨_, rfl, h D _ s2 hD0 hD2⟩

/-! longest_rising -/
abbrev s_longest_rising : Stmt := topS 3
theorem sc_longest_rising : FnScope ["numbers"] ["numbers"] (defScope s_longest_rising) := ⟨rfl, rfl, rfl, by decide +kernel, rfl, by decide +kernel, by decide +kernel⟩
def sp_longest_rising (K : PySem.W.Frag) : Sp := fun vs H Q _ => ∃ (a : Addr) (l : List Nat), vs = [.ref a] ∧ SqL K H a ((l.map Int.ofNat).map V.int) ∧ l.length ≤ 1000 ∧ ∀ H', Same H H' → Q (.int (VatdfBase.longest l : Nat)) H'
theorem ok_longest_rising (T : Tops mg) (C_rising_lengths : CalX P w K mg base CX0 1 "rising_lengths" (sp_rising_lengths K)) (F : Fun K "longest_rising" "longest_rising" s_longest_rising f fd) : FnOk P w K mg base CX0 2 f fd ["numbers"] (sp_longest_rising K) := by
  refine F.ok sc_longest_rising (fun vs H Q E h => ?_) (fun cdv A outer s H vs Q E hr h => ⟨_, (pss_one (ps_ret (pe_callBK (maxK K (hu_of hr)) (by rfl) T.n_max (by decide +kernel) (pa_cons (pe_k C_rising_lengths hr (by decide) (by rfl) (fun _ => quiet) (pa_cons (pv 0) pa_nil)) pa_nil) (pk_cons pe_int pk_nil)))), ?_⟩)
  · obtain ⟨a, l, rfl, _⟩ := h
    rfl
  obtain ⟨a, l, rfl, hs, hl, h⟩ := h
  refine ⟨_, rfl, a, l, rfl, hs, hl, fun p H' s' np hp => maxOr_nat (SqL.of hp) ?_⟩
  rw [rl_longest]
  exact h _ s'

/-! out_of_order -/
abbrev s_out_of_order : Stmt := topS 4
theorem sc_out_of_order : FnScope ["numbers"] ["numbers"] (defScope s_out_of_order) := ⟨rfl, rfl, rfl, by decide +kernel, rfl, by decide +kernel, by decide +kernel⟩
def sp_out_of_order (K : PySem.W.Frag) : Sp := fun vs H Q _ => ∃ (a : Addr) (l : List Nat), vs = [.ref a] ∧ SqL K H a ((l.map Int.ofNat).map V.int) ∧ l.length ≤ 1000 ∧ ∀ H', Same H H' → Q (.int ((l.length : Int) - (VatdfBase.longest l : Nat))) H'
theorem ok_out_of_order (T : Tops mg) (C_longest_rising : CalX P w K mg base CX0 2 "longest_rising" (sp_longest_rising K)) (F : Fun K "out_of_order" "out_of_order" s_out_of_order f fd) : FnOk P w K mg base CX0 3 f fd ["numbers"] (sp_out_of_order K) := by
  refine F.ok sc_out_of_order (fun vs H Q E h => ?_) (fun cdv A outer s H vs Q E hr h => ⟨_, (pss_one (ps_ret (pe_op op_sub (pe_callB (lenK K) (by rfl) T.n_len PySem.boot_len (pa_cons (pv 0) pa_nil)) (pe_k C_longest_rising hr (by decide) (by rfl) (fun _ => quiet) (pa_cons (pv 0) pa_nil))))), ?_⟩)
  · obtain ⟨a, l, rfl, _⟩ := h
    rfl
  obtain ⟨a, l, rfl, hs, hl, h⟩ := h
  refine ⟨_, rfl, _, _, rfl, .inl hs, _, rfl, a, l, rfl, hs, hl, fun H' s' => ⟨_, _, rfl, rfl, ?_⟩⟩
  rw [List.length_map, List.length_map]
  exact h _ s'
end
end MR

namespace MR
open PySem PySem.Spec PyProof.Rows L2
section
variable {P : Program} {w : World} {K : PySem.W.Frag} {mg : Str → Option Value} {base : Heap} {f : Addr} {fd : FuncData} {C : Addr}

/-! read_column_pairs -/
abbrev s_read_column_pairs : Stmt := topS 31
theorem sc_read_column_pairs : FnScope ["numbers", "old_count", "new_count", "pairs", "olds", "news", "old", "new"] ["numbers", "old_count", "new_count"] (defScope s_read_column_pairs) := ⟨rfl, rfl, rfl, by decide +kernel, rfl, by decide +kernel, by decide +kernel⟩
def OkCols (oc nc : Int) (ns : List Int) : Prop := (ns.length % 2 = 0 ∧ ∀ p ∈ pairUp ns, InB oc nc p) ∧ Rise ((pairUp ns).map fun p => p.2) ∧ ((pairUp ns).map fun p => p.1).Nodup
def sp_read_column_pairs (K : PySem.W.Frag) (C : Addr) : Sp := fun vs H Q E => ∃ a ns oc nc, vs = [.ref a, .int oc, .int nc] ∧ SqL K H a (ns.map V.int) ∧ ns.length ≤ 1000 ∧
  (¬ OkCols oc nc ns → ∀ H', Same H H' → E (.ref C) none H') ∧ (OkCols oc nc ns → New K H Q (dL dP (pairUp ns)))
theorem ok_read_column_pairs (T : Tops mg) (C_paired : CalX P w K mg base CX0 1 "paired" (sp_paired K)) (C_rises : CalX P w K mg base CX0 1 "rises" (sp_rises K)) (C_are_whole_pairs : CalX P w K mg base CX0 2 "are_whole_pairs" (sp_are_whole_pairs K))
    (X_NotColumnPairs : ErrX K mg "NotColumnPairs" C) (F : Fun K "read_column_pairs" "read_column_pairs" s_read_column_pairs f fd) : FnOk P w K mg base (L2.CX P w) 3 f fd ["numbers", "old_count", "new_count"] (sp_read_column_pairs K C) := by
  refine F.okX sc_read_column_pairs (fun vs H Q E h => ?_) (fun cdv A outer s H vs Q E hr h => ⟨_, (pss_cons (ps_if (pt_not (pt_val (pe_k C_are_whole_pairs hr (by decide) (by rfl) (fun _ => quiet) (pa_cons (pv 0) (pa_cons (pv 1) (pa_cons (pv 2) pa_nil))))))
   (pss_one (ps_raise rfl (takes_of rfl rfl rfl rfl) (pmk_own0 PySem.F.excBase_Exception X_NotColumnPairs.q X_NotColumnPairs.g X_NotColumnPairs.kp (raises_own X_NotColumnPairs.b X_NotColumnPairs.t) (by rfl)))) pss_nil)
  (pss_cons (ps_set (i := 3) sc_read_column_pairs.nd rfl (Or.inl rfl) (pe_k C_paired hr (by decide) (by rfl) (fun _ => quiet) (pa_cons (pv 0) pa_nil)))
  (pss_cons (ps_setLc (i := 4) (own := [("old", 6), ("new", 7)]) rfl sc_read_column_pairs.nd rfl rfl (sw_true rfl rfl rfl (by decide +kernel)) (lstK K (pv 3)) (blkOk_by (N := ["numbers", "old_count", "new_count", "pairs", "olds", "news", "old", "new"]) (sc := defScope s_read_column_pairs) (by decide +kernel)) (fun _ _ _ _ _ => (tupK K (n := 2) (pgs_cons (pg_name (i := 6) sc_read_column_pairs.nd rfl (Or.inl rfl)) (pgs_cons (pg_name (i := 7) sc_read_column_pairs.nd rfl (Or.inl rfl)) pgs_nil)))) (fun _ _ _ _ _ => pts_nil) (fun _ _ _ _ _ => (pv 6)))
  (pss_cons (ps_setLc (i := 5) (own := [("old", 6), ("new", 7)]) rfl sc_read_column_pairs.nd rfl rfl (sw_true rfl rfl rfl (by decide +kernel)) (lstK K (pv 3)) (blkOk_by (N := ["numbers", "old_count", "new_count", "pairs", "olds", "news", "old", "new"]) (sc := defScope s_read_column_pairs) (by decide +kernel)) (fun _ _ _ _ _ => (tupK K (n := 2) (pgs_cons (pg_name (i := 6) sc_read_column_pairs.nd rfl (Or.inl rfl)) (pgs_cons (pg_name (i := 7) sc_read_column_pairs.nd rfl (Or.inl rfl)) pgs_nil)))) (fun _ _ _ _ _ => pts_nil) (fun _ _ _ _ _ => (pv 7)))
  (pss_cons (ps_if (PW.pt (pw_or (pt_not (pt_val (pe_k C_rises hr (by decide) (by rfl) (fun _ => quiet) (pa_cons (pv 5) pa_nil)))) (pw_or1 (pt_cmpR op_lt (lenSetK K (by rfl) T.n_len (by rfl) T.n_set (pv 4)) (pe_callB (lenK K) (by rfl) T.n_len PySem.boot_len (pa_cons (pv 4) pa_nil)) (nomark _)))))
   (pss_one (ps_raise rfl (takes_of rfl rfl rfl rfl) (pmk_own0 PySem.F.excBase_Exception X_NotColumnPairs.q X_NotColumnPairs.g X_NotColumnPairs.kp (raises_own X_NotColumnPairs.b X_NotColumnPairs.t) (by rfl)))) pss_nil)
  (pss_one (ps_ret (pv 3)))))))), ?_⟩)
  · obtain ⟨a, ns, oc, nc, rfl, _⟩ := h
    rfl
  obtain ⟨a, ns, oc, nc, rfl, hs, hl, hE, h⟩ := h
  refine ⟨_, rfl, _, rfl, _, rfl, a, ns, oc, nc, rfl, hs, hl, fun b H1 s1 hb => ?_⟩
  refine ⟨b, rfl, ?_⟩
  cases b with
  | false => exact iteT (hE (fun q => Bool.noConfusion (hb.mpr q.1)) _ s1)
  | true =>
  refine iteF ?_
  obtain ⟨z, inb⟩ := hb.mp rfl
  refine ⟨_, rfl, a, ns, rfl, s1.seq hs, hl, z, fun v H2 s2 d2 => ?_⟩
  obtain ⟨p, xs, rfl, hp, hx⟩ := Dp.list (dmono nw_in d2)
  have len : (pairUp ns).length ≤ 500 := by rw [pairUp_len]; omega
  refine ⟨_, rfl, p, rfl, ⟨xs, hp⟩, fun D hD => lc_side (K := K) (fun r => r.1) (by omega) hD hp hx (fun r t H Q Kt Kf h2 k => ⟨t, _, rfl, h2, rfl, _, _, rfl, _, _, rfl, rfl, rfl, lc_yes ⟨_, rfl, k⟩⟩) fun H3 v s3 d3 ev => ?_⟩
  subst ev
  obtain ⟨q, eq, hq⟩ := Dp.ints (dmono nw_in d3)
  cases eq
  have hp3 := s3.seq hp
  have hx3 := dmonoAll s3 hx
  refine ⟨_, rfl, p, rfl, ⟨xs, hp3⟩, fun D2 hD2 => lc_side (K := K) (fun r => r.2) (by omega) hD2 hp3 hx3 (fun r t H Q Kt Kf h2 k => ⟨t, _, rfl, h2, rfl, _, _, rfl, _, _, rfl, rfl, rfl, lc_yes ⟨_, rfl, k⟩⟩) fun H4 v s4 d4 ev => ?_⟩
  subst ev
  obtain ⟨q2, eq2, hq2⟩ := Dp.ints (dmono nw_in d4)
  cases eq2
  have same := ((s1.trans s2).trans s3).trans s4
  refine ⟨_, rfl, D2, _, rfl, hq2, by rw [List.length_map]; omega, fun b hb2 => ⟨b, rfl, ?_⟩⟩
  cases b with
  | false => exact iteT (iteT (hE (fun q => Bool.noConfusion (hb2.mpr q.2.1)) _ same))
  | true =>
  refine iteF ⟨_, rfl, D, _, rfl, s4.seq hq, by rw [List.length_map]; omega, _, rfl, _, _, rfl, .inl (s4.seq hq), _, _, rfl, rfl, _, rfl, ?_⟩
  have e : decide (((dedup ((pairUp ns).map fun r => r.1)).length : Int) < ((((pairUp ns).map fun r => r.1).map V.int).length : Int)) = decide (¬ ((pairUp ns).map fun r => r.1).Nodup) := by
    rw [List.length_map (f := V.int)]
    exact dedup_lt _
  refine ite_dec e (fun c => ?_) (fun c => ?_)
  · exact hE (fun q => c q.2.2) _ same
  · refine ⟨_, rfl, h ⟨⟨z, inb⟩, hb2.mp rfl, Classical.not_not.mp c⟩ _ _ same ?_⟩
    exact dmono ((nw_right0 (s3.trans s4))) (dmono (nw_left (Same.tk s1)) d2)
end
end MR

namespace MR
open PySem PySem.Spec PyProof.Rows L2
theorem eqv_ints : ∀ a b : List Int, PyData.eqvAll (a.map dI) (b.map dI) = decide (a = b)
  | [], [] => rfl
  | [], _ :: _ => rfl
  | _ :: _, [] => rfl
  | x :: a, y :: b => by
    show (PyData.eqv (.int x) (.int y) && PyData.eqvAll (a.map dI) (b.map dI)) = _
    rw [eqv_ints a b]
    show ((x == y) && decide (a = b)) = _
    by_cases h : x = y
    · subst h
      rw [beq_self_eq_true, Bool.true_and]
      exact decide_eq_decide.mpr ⟨fun e => by rw [e], fun e => (List.cons.inj e).2⟩
    · rw [beq_eq_false_iff_ne.mpr h, Bool.false_and]
      exact (decide_eq_false fun e => h (List.cons.inj e).1).symm
theorem eqv_LI (a b : List Int) : PyData.eqv (dLI a) (dLI b) = decide (a = b) := by
  show PyData.eqv (.list (a.map dI)) (.list (b.map dI)) = _
  rw [PyData.eqv]
  exact eqv_ints a b
theorem lay_ints : ∀ a : List Int, PyData.canLayAll0 (a.map dI) = true
  | [] => by simp [PyData.canLayAll0]
  | _ :: a => by simp [PyData.canLayAll0, PyData.canLay0, lay_ints a]
theorem depth_ints : ∀ a : List Int, PyData.depthAll (a.map dI) = 0
  | [] => by simp [PyData.depthAll]
  | _ :: a => by simp [PyData.depthAll, PyData.depth, depth_ints a]
theorem shaped_LI (a : List Int) : SeqAt.shaped (dLI a) = true := by
  show ((PyData.list (a.map dI)).canLay0 && decide ((PyData.list (a.map dI)).depth ≤ 64)) = true
  simp [PyData.canLay0, PyData.depth, lay_ints a, depth_ints a]
theorem lay_LLI : ∀ a : List (List Int), PyData.canLayAll0 (a.map dLI) = true
  | [] => by simp [PyData.canLayAll0]
  | x :: a => by
    have h := SeqAt.canLay_of_shaped (shaped_LI x)
    simp only [List.map_cons, PyData.canLayAll0, lay_LLI a, h, Bool.and_self]
theorem depth_LLI : ∀ a : List (List Int), PyData.depthAll (a.map dLI) ≤ 1
  | [] => by simp [PyData.depthAll]
  | x :: a => by
    have e : (dLI x).depth = 1 := by
      show (PyData.list (x.map dI)).depth = 1
      simp [PyData.depth, depth_ints x]
    have ih := depth_LLI a
    simp only [List.map_cons, PyData.depthAll, e]
    omega
theorem shaped_LLI (a : List (List Int)) : SeqAt.shaped (dL dLI a) = true := by
  show ((PyData.list (a.map dLI)).canLay0 && decide ((PyData.list (a.map dLI)).depth ≤ 64)) = true
  have h := depth_LLI a
  have e : (PyData.list (a.map dLI)).canLay0 = true := by simp only [PyData.canLay0, lay_LLI a]
  have e2 : (PyData.list (a.map dLI)).depth ≤ 64 := by
    simp only [PyData.depth]
    omega
  rw [e, decide_eq_true e2]
  rfl
theorem any_LI (n : List Int) : ∀ l : List (List Int), ((l.map dLI).any fun z => PyData.eqv z (dLI n)) = l.any (· == n)
  | [] => rfl
  | x :: l => by
    rw [List.map_cons, List.any_cons, List.any_cons, any_LI n l, eqv_LI, Bool.beq_eq_decide_eq]
/-- columns of the same name: of each new one the first old one that is called so -/
def sameNames (a b : List (List Int)) : List (Int × Int) := (List.range b.length).filterMap fun (d : Nat) => (b[d]?).bind fun n => (a.findIdx? (· == n)).map fun c => ((c : Int), (d : Int))
section
variable {P : Program} {w : World} {K : PySem.W.Frag} {mg : Str → Option Value} {base : Heap} {f : Addr} {fd : FuncData} {C : Addr}

/-! same_name_pairs -/
abbrev s_same_name_pairs : Stmt := topS 9
theorem sc_same_name_pairs : FnScope ["old_names", "new_names", "new", "name"] ["old_names", "new_names"] (defScope s_same_name_pairs) := ⟨rfl, rfl, rfl, by decide +kernel, rfl, by decide +kernel, by decide +kernel⟩
def sp_same_name_pairs (K : PySem.W.Frag) : Sp := fun vs H Q _ => ∃ u v a b, vs = [u, v] ∧ Dp K H u (dL dLI a) ∧ Dp K H v (dL dLI b) ∧ b.length ≤ 1000 ∧ New K H Q (dL dP (sameNames a b))
theorem ok_same_name_pairs (T : Tops mg) (F : Fun K "same_name_pairs" "same_name_pairs" s_same_name_pairs f fd) : FnOk P w K mg base CX0 1 f fd ["old_names", "new_names"] (sp_same_name_pairs K) := by
  refine F.ok sc_same_name_pairs (fun vs H Q E h => ?_) (fun cdv A outer s H vs Q E hr h => ⟨_, (pss_one (ps_ret (pe_lc (own := [("new", 2), ("name", 3)]) rfl sc_same_name_pairs.nd (enumK K (by rfl) T.n_enumerate (pa_cons (pv 1) pa_nil)) (blkOk_by (N := ["old_names", "new_names", "new", "name"]) (sc := defScope s_same_name_pairs) (by decide +kernel)) (fun _ _ _ _ _ => (tupK K (n := 2) (pgs_cons (pg_name (i := 2) sc_same_name_pairs.nd rfl (Or.inl rfl)) (pgs_cons (pg_name (i := 3) sc_same_name_pairs.nd rfl (Or.inl rfl)) pgs_nil)))) (fun _ _ _ _ _ => (pts_one (pt_cmpR (inD K (units65 hr)) (pv 3) (pv 0) (by rfl)))) (fun _ _ _ _ _ => (pe_tup (pa_cons (bmK K PySem.F.plainAttrs_list PySem.F.slot_list_index PySem.F.type_list_index (idxD K (units65 hr)) (pv 0) (pa_cons (pv 3) pa_nil) (pe_bm PySem.F.plainAttrs_list PySem.F.slot_list_index PySem.F.type_list_index (idxD K (units65 hr)) (pv 0) (pa_cons (pv 3) pa_nil))) (pa_cons (pv 2) pa_nil))))))), ?_⟩)
  · obtain ⟨u, v, a, b, rfl, _⟩ := h
    rfl
  obtain ⟨u, v, a, b, rfl, du, dv, hl, h⟩ := h
  obtain ⟨p, xs, rfl, hp, hx⟩ := Dp.list dv
  obtain ⟨q, ys, rfl, hq, hy⟩ := Dp.list du
  refine ⟨_, rfl, p, xs, rfl, hp, fun D hD => ?_⟩
  refine lc_E (K := K) (enc := dLI) (l := b) (fun i n => ((a.findIdx? (· == n)).map fun c => ((c : Int), (i : Int))).map dP) (by omega) hD hp hx ?_ ?_
  · rintro i n x H2 _ acc tT hi s2 hacc dx hT rfl Kt Kf ht hf
    have s3 : Same H2 (upd H2 tT (.tup [.int (i : Nat), x])) := Same.made1 hT
    have dq := dmono (s2.trans s3) du
    have dx3 := dmono s3 dx
    refine ⟨tT, _, rfl, .inl (.inl upd_same), rfl, _, _, rfl, _, _, rfl, rfl, rfl, _, rfl, _, rfl, _, _, dx3, dq, shaped_LI n, shaped_LLI a, _, rfl, ?_⟩
    rw [any_LI]
    by_cases c : a.any (· == n) = true
    · rw [c]
      refine iteT ?_
      obtain ⟨j, hj⟩ : ∃ j, a.findIdx? (· == n) = some j := by
        cases e : a.findIdx? (· == n) with
        | some j => exact ⟨j, rfl⟩
        | none =>
          rw [List.findIdx?_eq_none_iff] at e
          obtain ⟨y, hy, ey⟩ := List.any_eq_true.mp c
          rw [e y hy] at ey
          cases ey
      obtain ⟨hlt, hj1, hj2⟩ := List.findIdx?_eq_some_iff_getElem.mp hj
      have hj1 : a[j] = n := eq_of_beq hj1
      refine ⟨_, rfl, .inl ⟨rfl, _, (s2.trans s3).seq hq⟩, _, rfl, q, x, dLI n, _, j, dLI n, rfl, rfl, dq, dx3, shaped_LLI a, shaped_LI n, ?_, ?_, fun m z' hm hz => ?_, _, rfl, by show 2 ≤ sizeLine; decide, fun r hr0 => ?_⟩
      · rw [List.getElem?_map, List.getElem?_eq_getElem hlt, hj1]
        rfl
      · rw [eqv_LI]
        exact decide_eq_true rfl
      · have hml : m < a.length := by omega
        rw [List.getElem?_map, List.getElem?_eq_getElem hml] at hz
        cases hz
        rw [eqv_LI]
        have := hj2 m hm
        refine decide_eq_false fun e => ?_
        rw [e] at this
        simp at this
      · refine ht _ _ (dP (j, i)) (by rw [hj]; rfl) (s3.trans (Same.made1 hr0)) ?_
        refine dmono (hd_nw (Same.tk s2) hacc) (.tup (.inl (.inl ?_)) (.cons (.int _) (.cons (.int _) .nil)))
        refine nw_of ?_ upd_same
        exact s3.free hr0
    · have c : a.any (· == n) = false := Bool.eq_false_iff.mpr c
      rw [c]
      refine iteF (hf _ ?_ s3)
      have e : a.findIdx? (· == n) = none := by
        rw [List.findIdx?_eq_none_iff]
        intro y hy
        cases ey : y == n with
        | false => rfl
        | true =>
          have := (List.any_eq_true (p := (· == n))).mpr ⟨y, hy, ey⟩
          rw [c] at this
          cases this
      rw [e]
      rfl
  · intro H2 s2 dd
    refine h _ _ s2 ?_
    have e : dL dP (sameNames a b) = .list ((List.range b.length).filterMap fun (i : Nat) => (b[i]?).bind fun n => ((a.findIdx? (· == n)).map fun c => ((c : Int), (i : Int))).map dP) := by
      show PyData.list ((sameNames a b).map dP) = _
      unfold sameNames
      rw [List.map_filterMap]
      congr 2
      funext i
      cases b[i]? <;> rfl
    rw [e]
    exact dd

/-! lone_numbers -/
abbrev s_lone_numbers : Stmt := topS 36
theorem sc_lone_numbers : FnScope ["taken", "count", "number"] ["taken", "count"] (defScope s_lone_numbers) := ⟨rfl, rfl, rfl, by decide +kernel, rfl, by decide +kernel, by decide +kernel⟩
def loneCols (m : List Int) (n : Nat) : List Int := ((List.range n).filter fun (c : Nat) => !m.contains (c : Int)).map fun (c : Nat) => (c : Int)
def sp_lone_numbers (K : PySem.W.Frag) : Sp := fun vs H Q _ => ∃ (a : Addr) (m : List Int) (n : Nat), vs = [.ref a, .int n] ∧ SqL K H a (m.map V.int) ∧ n ≤ 1000 ∧ New K H Q (dLI (loneCols m n))
theorem inV_ints (m : List Int) (c : Int) : inV (.int c) (m.map V.int) = m.contains c := by
  unfold inV
  induction m with
  | nil => rfl
  | cons a m ih =>
    rw [List.map_cons, List.any_cons, ih, List.contains_cons]
    congr 1
    show (a == c) = (c == a)
    by_cases h : a = c
    · subst h
      rfl
    · rw [beq_eq_false_iff_ne.mpr h, beq_eq_false_iff_ne.mpr (Ne.symm h)]
theorem flat_ints (m : List Int) : (m.map V.int).all flatV = true := by
  rw [List.all_eq_true]
  intro x hx
  obtain ⟨i, _, rfl⟩ := List.mem_map.mp hx
  rfl
theorem ok_lone_numbers (T : Tops mg) (F : Fun K "lone_numbers" "lone_numbers" s_lone_numbers f fd) : FnOk P w K mg base CX0 1 f fd ["taken", "count"] (sp_lone_numbers K) := by
  refine F.ok sc_lone_numbers (fun vs H Q E h => ?_) (fun cdv A outer s H vs Q E hr h => ⟨_, (pss_one (ps_ret (pe_lc (own := [("number", 2)]) rfl sc_lone_numbers.nd (pi_range1 (by rfl) T.n_range (pa_cons (pv 1) pa_nil)) (blkOk_by (N := ["taken", "count", "number"]) (sc := defScope s_lone_numbers) (by decide +kernel)) (fun _ _ _ _ _ => (pg_name (i := 2) sc_lone_numbers.nd rfl (Or.inl rfl))) (fun _ _ _ _ _ => (pts_one (pt_cmpR (notInK K) (pv 2) (pv 0) (by rfl)))) (fun _ _ _ _ _ => (pv 2))))), ?_⟩)
  · obtain ⟨a, m, n, rfl, _⟩ := h
    rfl
  obtain ⟨a, m, n, rfl, hs, hl, h⟩ := h
  refine ⟨_, rfl, _, rfl, by omega, by omega, fun D hD => ?_⟩
  refine lc_R (K := K) (lo := 0) (fun c => if m.contains (c : Int) then none else some (dI (c : Int))) (by omega) hD ?_ ?_
  · intro c H2 acc hc s2 hacc Kt Kf ht hf
    refine ⟨rfl, _, rfl, _, rfl, a, _, rfl, .inl (s2.seq hs), rfl, flat_ints m, _, rfl, ?_⟩
    have ez : (0 : Int) + (c : Int) = (c : Int) := by omega
    rw [ez]
    show if (!inV (.int (c : Int)) (m.map V.int)) = true then _ else _
    rw [inV_ints]
    cases e : m.contains (c : Int) with
    | true => exact iteF (hf _ (by rw [if_pos e]) (Same.refl _))
    | false => exact iteT ⟨_, rfl, ht _ _ _ (by rw [if_neg (by rw [e]; exact Bool.false_ne_true)]) (Same.refl _) (.int _)⟩
  · intro H2 s2 dd
    refine h _ _ s2 ?_
    have e : dLI (loneCols m n) = .list ((List.range (Int.toNat (n : Int))).filterMap fun (c : Nat) => if m.contains (c : Int) then none else some (dI (c : Int))) := by
      show PyData.list ((loneCols m n).map dI) = _
      unfold loneCols
      rw [List.map_map, Int.toNat_natCast]
      congr 1
      induction List.range n with
      | nil => rfl
      | cons c l ih =>
        rw [List.filter_cons, List.filterMap_cons]
        cases e : m.contains (c : Int) with
        | true => simpa using ih
        | false => simpa using ih
    rw [e]
    exact dd
end
end MR

namespace MR
open PySem PySem.Spec PyProof.Rows L2
/-- a pair of numbers as ints -/
abbrev pN (p : Nat × Nat) : Int × Int := ((p.1 : Int), (p.2 : Int))
theorem dP_pN (l : List (Nat × Nat)) : dL dP (l.map pN) = .list (l.map fun p => dP (pN p)) := by
  show PyData.list ((l.map pN).map dP) = _
  rw [List.map_map]
  rfl
section
variable {P : Program} {w : World} {K : PySem.W.Frag} {mg : Str → Option Value} {base : Heap} {f : Addr} {fd : FuncData} {C : Addr}

/-! columns_cost -/
abbrev s_columns_cost : Stmt := topS 10
theorem sc_columns_cost : FnScope ["old_names", "new_names", "pairs", "unlike", "moved", "lone", "old", "new"] ["old_names", "new_names", "pairs"] (defScope s_columns_cost) := ⟨rfl, rfl, rfl, by decide +kernel, rfl, by decide +kernel, by decide +kernel⟩
def colCost (a b : List (List Int)) (l : List (Nat × Nat)) : Int :=
  2 * ((l.countP fun p => a[p.1]? != b[p.2]? : Nat) : Int) + ((l.length : Int) - (VatdfBase.longest (l.map fun p => p.1) : Nat)) + 4 * ((a.length : Int) + b.length - 2 * l.length)
def sp_columns_cost (K : PySem.W.Frag) : Sp := fun vs H Q _ => ∃ (u v y : V) (a b : List (List Int)) (l : List (Nat × Nat)), vs = [u, v, y] ∧ Dp K H u (dL dLI a) ∧ Dp K H v (dL dLI b) ∧ Dp K H y (dL dP (l.map pN)) ∧
  l.length ≤ 1000 ∧ (∀ p ∈ l, p.1 < a.length ∧ p.2 < b.length) ∧ ∀ H', Same H H' → Q (.int (colCost a b l)) H'
theorem filterMap_len_countP {α β : Type} (p : α → Bool) (g : α → β) : ∀ l : List α, (l.filterMap fun x => if p x = true then some (g x) else none).length = l.countP p
  | [] => rfl
  | x :: l => by
    rw [List.filterMap_cons, List.countP_cons]
    by_cases h : p x = true
    · rw [if_pos h]
      simp only [List.length_cons, filterMap_len_countP p g l, h, if_true]
    · rw [if_neg h]
      simp only [filterMap_len_countP p g l]
      simp [h]
theorem ok_columns_cost (T : Tops mg) (C_out_of_order : CalX P w K mg base CX0 3 "out_of_order" (sp_out_of_order K)) (F : Fun K "columns_cost" "columns_cost" s_columns_cost f fd) : FnOk P w K mg base CX0 4 f fd ["old_names", "new_names", "pairs"] (sp_columns_cost K) := by
  refine F.ok sc_columns_cost (fun vs H Q E h => ?_) (fun cdv A outer s H vs Q E hr h => ⟨_, (pss_cons (ps_setLc (i := 3) (own := [("old", 6), ("new", 7)]) rfl sc_columns_cost.nd rfl rfl (sw_true rfl rfl rfl (by decide +kernel)) (lstK K (pv 2)) (blkOk_by (N := ["old_names", "new_names", "pairs", "unlike", "moved", "lone", "old", "new"]) (sc := defScope s_columns_cost) (by decide +kernel)) (fun _ _ _ _ _ => (tupK K (n := 2) (pgs_cons (pg_name (i := 6) sc_columns_cost.nd rfl (Or.inl rfl)) (pgs_cons (pg_name (i := 7) sc_columns_cost.nd rfl (Or.inl rfl)) pgs_nil)))) (fun _ _ _ _ _ => (pts_one (pt_cmpR (neD K hr.units) (pe_ix (ixL K) (pv 0) (pv 6) (fun _ _ => rfl)) (pe_ix (ixL K) (pv 1) (pv 7) (fun _ _ => rfl)) (nomark _)))) (fun _ _ _ _ _ => (pv 6)))
  (pss_cons (ps_set (i := 4) sc_columns_cost.nd rfl (Or.inl rfl) (pe_k C_out_of_order hr (by decide) (by rfl) (fun _ => quiet) (pa_cons (pe_lc (own := [("old", 6), ("new", 7)]) rfl sc_columns_cost.nd (lstK K (pv 2)) (blkOk_by (N := ["old_names", "new_names", "pairs", "unlike", "moved", "lone", "old", "new"]) (sc := defScope s_columns_cost) (by decide +kernel)) (fun _ _ _ _ _ => (tupK K (n := 2) (pgs_cons (pg_name (i := 6) sc_columns_cost.nd rfl (Or.inl rfl)) (pgs_cons (pg_name (i := 7) sc_columns_cost.nd rfl (Or.inl rfl)) pgs_nil)))) (fun _ _ _ _ _ => pts_nil) (fun _ _ _ _ _ => (pv 6))) pa_nil)))
  (pss_cons (ps_set (i := 5) sc_columns_cost.nd rfl (Or.inl rfl) (pe_op op_sub (pe_op op_add (pe_callB (lenK K) (by rfl) T.n_len PySem.boot_len (pa_cons (pv 0) pa_nil)) (pe_callB (lenK K) (by rfl) T.n_len PySem.boot_len (pa_cons (pv 1) pa_nil))) (pe_op op_mul pe_int (pe_callB (lenK K) (by rfl) T.n_len PySem.boot_len (pa_cons (pv 2) pa_nil)))))
  (pss_one (ps_ret (pe_op op_add (pe_op op_add (pe_op op_mul (pe_gi (by rfl) T.i_UNLIKE_NAMES_COST) (pe_callB (lenK K) (by rfl) T.n_len PySem.boot_len (pa_cons (pv 3) pa_nil))) (pv 4)) (pe_op op_mul (pe_gi (by rfl) T.i_LONE_COLUMN_COST) (pv 5)))))))), ?_⟩)
  · obtain ⟨u, v, y, a, b, l, rfl, _⟩ := h
    rfl
  obtain ⟨u, v, y, a, b, l, rfl, du, dv, dy, hl, hin, h⟩ := h
  obtain ⟨pa, xa, rfl, hpa, hxa⟩ := Dp.list du
  obtain ⟨pb, xb, rfl, hpb, hxb⟩ := Dp.list dv
  rw [dP_pN] at dy
  obtain ⟨p, xs, rfl, hp, hx⟩ := Dp.list dy
  have la : xa.length = a.length := by rw [DpAll.length hxa, List.length_map]
  have lb : xb.length = b.length := by rw [DpAll.length hxb, List.length_map]
  have lx : xs.length = l.length := by rw [DpAll.length hx, List.length_map]
  refine ⟨_, rfl, p, rfl, ⟨xs, hp⟩, fun D hD => ?_⟩
  refine lc_L (K := K) (enc := fun q => dP (pN q)) (l := l) (fun q => if (a[q.1]? != b[q.2]?) = true then some (dI q.1) else none) (by omega) hD hp hx ?_ ?_
  · intro i r x H2 acc hr2 s2 hacc dx Kt Kf ht hf
    obtain ⟨t, rfl, hT⟩ := Dp.pair dx
    obtain ⟨h1, h2⟩ := hin r (List.mem_of_getElem? hr2)
    obtain ⟨va, ea, da⟩ := DpAll.get hxa (show (a.map dLI)[r.1]? = some (dLI a[r.1]) from by rw [List.getElem?_map, List.getElem?_eq_getElem h1]; rfl)
    obtain ⟨vb, eb, db⟩ := DpAll.get hxb (show (b.map dLI)[r.2]? = some (dLI b[r.2]) from by rw [List.getElem?_map, List.getElem?_eq_getElem h2]; rfl)
    refine ⟨t, _, rfl, hT, rfl, _, _, rfl, _, _, rfl, rfl, rfl, _, rfl, _, rfl, pa, _, _, _, rfl, rfl, s2.seq hpa, at_of (j := r.1) rfl ea, _, rfl, _, rfl, pb, _, _, _, rfl, rfl, s2.seq hpb, at_of (j := r.2) rfl eb, _, _, dmono s2 da, dmono s2 db, shaped_LI _, shaped_LI _, _, rfl, ?_⟩
    rw [eqv_LI]
    refine ite_dec (c := (a[r.1]? != b[r.2]?) = true) ?_ (fun c => ?_) (fun c => ?_)
    · rw [List.getElem?_eq_getElem h1, List.getElem?_eq_getElem h2, ← decide_not]
      refine decide_eq_decide.mpr ?_
      simp
    · exact ⟨_, rfl, ht _ _ _ (if_pos c) (Same.refl _) (.int _)⟩
    · exact hf _ (if_neg c) (Same.refl _)
  intro H2 s2 d2
  obtain ⟨q, ys, eq, hq, hy⟩ := Dp.list (dmono nw_in d2)
  cases eq
  have ly : ys.length = l.countP fun p => a[p.1]? != b[p.2]? := by rw [DpAll.length hy, filterMap_len_countP (fun p : Nat × Nat => a[p.1]? != b[p.2]?)]
  have hp2 := s2.seq hp
  have hx2 := dmonoAll s2 hx
  refine ⟨_, rfl, p, rfl, ⟨xs, hp2⟩, fun D2 hD2 => ?_⟩
  refine lc_L (K := K) (enc := fun q => dP (pN q)) (l := l) (fun q => some (dI q.1)) (by omega) hD2 hp2 hx2 ?_ ?_
  · intro i r x H3 acc hr2 s3 hacc dx Kt Kf ht hf
    obtain ⟨t, rfl, hT⟩ := Dp.pair dx
    exact ⟨t, _, rfl, hT, rfl, _, _, rfl, _, _, rfl, rfl, rfl, lc_yes ⟨_, rfl, ht _ _ _ rfl (Same.refl _) (.int _)⟩⟩
  intro H3 s3 d3
  have e3 : PyData.list (l.filterMap fun q => some (dI q.1)) = dLI ((l.map fun p => p.1).map Int.ofNat) := by
    rw [filterMap_some_map]
    show _ = PyData.list (((l.map fun p => p.1).map Int.ofNat).map dI)
    rw [List.map_map, List.map_map]
    rfl
  rw [e3] at d3
  obtain ⟨q3, eq3, hq3⟩ := Dp.ints (dmono nw_in d3)
  cases eq3
  refine ⟨D2, _, rfl, hq3, by rw [List.length_map]; omega, fun H4 s4 => ?_⟩
  have s24 := s3.trans s4
  refine ⟨_, rfl, _, _, rfl, .inl ((s2.trans s24).seq hpa), _, rfl, _, _, rfl, .inl ((s2.trans s24).seq hpb), _, _, rfl, rfl, _, rfl, _, _, rfl, .inl ((s2.trans s24).seq hp), _, _, rfl, rfl, .inl ⟨by omega, by omega⟩, _, _, rfl, rfl, ?_⟩
  refine ⟨_, rfl, _, _, rfl, .inl (s24.seq hq), _, _, rfl, rfl, .inl ⟨by omega, by omega⟩, _, rfl, _, _, rfl, rfl, _, rfl, _, _, rfl, rfl, .inl ⟨by omega, by omega⟩, _, _, rfl, rfl, ?_⟩
  have := h H4 (s2.trans s24)
  unfold colCost at this
  rw [ly, la, lb, lx, List.length_map]
  exact this
end
end MR

namespace MR
open PySem PySem.Spec PyProof.Rows L2
/-! ### reading, as a function of what is left -/
abbrev Rdr (α : Type) := List Int → Option (α × List Int)
def rInt (lo hi : Int) : Rdr Int := fun x => match x with
  | [] => none
  | z :: r => if lo ≤ z ∧ z ≤ hi then some (z, r) else none
/-- so many of something, told by what comes first -/
def rTimes {α : Type} (rd : Rdr α) : Nat → Rdr (List α)
  | 0, x => some ([], x)
  | n + 1, x => (rTimes rd n x).bind fun u => (rd u.2).map fun v => (u.1 ++ [v.1], v.2)
def rBytes : Rdr (List Int) := fun x => (rInt 1 8 x).bind fun u => rTimes (rInt 32 126) u.1.toNat u.2
def isSmallI (z : Int) : Bool := decide (97 ≤ z ∧ z ≤ 122)
def isDigitI (z : Int) : Bool := decide (48 ≤ z ∧ z ≤ 57)
def goodName (w : List Int) : Bool := isSmallI (w.headD 0) && w.all fun z => isSmallI z || isDigitI z
def rName : Rdr (List Int) := fun x => (rBytes x).bind fun u => if goodName u.1 = true then some u else none
/-- so many names, none like one ahead -/
def rNamesN : Nat → Rdr (List (List Int))
  | 0, x => some ([], x)
  | n + 1, x => (rNamesN n x).bind fun u => (rName u.2).bind fun v => if u.1.contains v.1 = true then none else some (u.1 ++ [v.1], v.2)
def rNames : Rdr (List (List Int)) := fun x => (rInt 1 5 x).bind fun u => rNamesN u.1.toNat u.2
def rCell : Rdr (List Int) := fun x => (rInt 0 2 x).bind fun u =>
  if u.1 = 1 then (rInt (-1000000) 1000000 u.2).map fun v => ([1, v.1], v.2)
  else if u.1 = 2 then (rBytes u.2).map fun v => (2 :: (v.1.length : Int) :: v.1, v.2)
  else some ([0], u.2)
def rRow (n : Nat) : Rdr (List (List Int)) := rTimes rCell n
def rTable (x : List Int) : Option (List (List Int) × List (List (List Int))) := (rNames x).bind fun u => (rInt 0 12 u.2).bind fun c => (rTimes (rRow u.1.length) c.1.toNat c.2).bind fun v => if v.2 = [] then some (u.1, v.1) else none
theorem rTimes_len {α : Type} {rd : Rdr α} : ∀ {n : Nat} {x r : List Int} {l : List α}, rTimes rd n x = some (l, r) → l.length = n
  | 0, x, r, l, h => by cases h; rfl
  | n + 1, x, r, l, h => by
    unfold rTimes at h
    cases e : rTimes rd n x with
    | none => rw [e] at h; cases h
    | some u =>
      rw [e] at h
      cases e2 : rd u.2 with
      | none => simp [e2] at h
      | some v =>
        simp only [Option.bind_some, e2, Option.map_some, Option.some.injEq, Prod.mk.injEq] at h
        rw [← h.1, List.length_append, rTimes_len e]
        rfl
theorem rTimes_mono {α : Type} {rd : Rdr α} {x : List Int} : ∀ {m n : Nat}, m ≤ n → rTimes rd m x = none → rTimes rd n x = none
  | m, 0, h, e => by
    have : m = 0 := by omega
    rw [this] at e
    exact e
  | m, n + 1, h, e => by
    by_cases c : m = n + 1
    · rw [← c]
      exact e
    · have ih := rTimes_mono (m := m) (n := n) (by omega) e
      unfold rTimes
      rw [ih]
      rfl
theorem rTimes_more {α : Type} {rd : Rdr α} {x : List Int} {i : Nat} {l : List α} {r : List Int} (h : rTimes rd i x = some (l, r)) : rTimes rd (i + 1) x = (rd r).map fun v => (l ++ [v.1], v.2) := by
  show ((rTimes rd i x).bind fun u => (rd u.2).map fun v => (u.1 ++ [v.1], v.2)) = _
  rw [h]
  rfl
/-- the i-th of them -/
def rAt {α : Type} (rd : Rdr α) (x : List Int) (i : Nat) : Option α := (rTimes rd (i + 1) x).bind fun u => u.1.getLast?
theorem rAt_more {α : Type} {rd : Rdr α} {x : List Int} {i : Nat} {l : List α} {r r' : List Int} {a : α} (h : rTimes rd i x = some (l, r)) (e : rd r = some (a, r')) : rAt rd x i = some a := by
  unfold rAt
  rw [rTimes_more h, e]
  simp
theorem rAt_all {α : Type} {rd : Rdr α} {x : List Int} : ∀ {n : Nat} {l : List α} {r : List Int}, rTimes rd n x = some (l, r) → (List.range n).filterMap (rAt rd x) = l
  | 0, l, r, h => by cases h; rfl
  | n + 1, l, r, h => by
    have h2 := h
    unfold rTimes at h
    cases e : rTimes rd n x with
    | none => rw [e] at h; cases h
    | some u =>
      obtain ⟨u1, u2⟩ := u
      rw [e] at h
      cases e2 : rd u2 with
      | none => simp [e2] at h
      | some v =>
        obtain ⟨v1, v2⟩ := v
        simp only [Option.bind_some, e2, Option.map_some, Option.some.injEq, Prod.mk.injEq] at h
        rw [List.range_succ, List.filterMap_append, rAt_all e, ← h.1]
        simp [rAt_more e e2]

/-! ### the source: an object that tells how far the numbers are read -/
def srcF (q : Addr) (i : Nat) : List (Str × V) := [("numbers", .ref q), ("place", .int (i : Nat))]
/-- what is wanted of a def that reads at s: nothing but s is changed -/
structure Rds {α : Type} (K : PySem.W.Frag) (C dx s q : Addr) (ns : List Int) (rd : Rdr α) (i : Nat) (H : Hp) (Err : Hp → Prop) (Ok : α → V → Hp → Prop) : Prop where
  no : rd (ns.drop i) = none → ∀ H', Kp (· = s) H H' → Tk H H' → Err H'
  yes : ∀ a r, rd (ns.drop i) = some (a, r) → ∀ v H' j, j ≤ ns.length → ns.drop j = r → Kp (· = s) H H' → Tk H H' → H' s = some (.ins C dx (srcF q j)) → Ok a v H'
theorem Kp.tk1 {H H' : Hp} (h : Same H H') (s : Addr) : Kp (· = s) H H' := Kp.same h
section
variable {K : PySem.W.Frag} {g : TG} {tt : TT} {te : TE} {vs : List Nat} {σ : L2.St} {H1 : Hp} {D : Addr} {Qd : Hp → Prop} {α : Type}
/-- so many are read in a comprehension over a range -/
theorem lc_reads {C dx s q : Addr} {ns : List Int} {i0 : Nat} (rd : Rdr α) (enc : α → PyData) (n : Nat) (Err : Hp → Prop) (hn : n < 100000) (hD : H1 D = none) (hi0 : i0 ≤ ns.length) (hs : H1 s = some (.ins C dx (srcF q i0)))
    (step : ∀ (i : Nat) (H : Hp) (j : Nat) (Kt : V → Hp → Prop) (Kf : Hp → Prop), i < n → j ≤ ns.length → Kp (· = s) H1 H → Tk H1 H → H s = some (.ins C dx (srcF q j)) →
      Rds K C dx s q ns rd j H Err (fun a y H' => Dp K (nw H H') y (enc a) → Kt y H') →
      g (.int (0 + (i : Nat))) (wipe σ vs) H fun σ2 H2 => wipe σ2 vs = wipe σ vs ∧ tt σ2 H2 fun b H3 => if b = true then te σ2 H3 Kt else Kf H3)
    (fin : Rds K C dx s q ns (rTimes rd n) i0 H1 Err (fun l v H' => Dp K (nw H1 H') v (dL enc l) → v = .ref D → (∃ xs, H' D = some (.lst xs) ∧ DpAll K (nw H1 H') xs (l.map enc)) → Qd H')) : LcGoal (Itr 0 n) g tt te vs σ H1 D Qd := by
  have sD : s ≠ D := fun z => by rw [z, hD] at hs; cases hs
  refine lc_data (K := K) n (· = s) (fun i H => ∃ l j, rTimes rd i (ns.drop i0) = some (l, ns.drop j) ∧ j ≤ ns.length ∧ H s = some (.ins C dx (srcF q j)))
    (fun i => (rAt rd (ns.drop i0) i).map enc) hn hD (fun b z => by rw [z, hs]; exact fun e => nomatch e) (fun i H o ⟨l, j, h1, h2, h3⟩ => ⟨l, j, h1, h2, by rw [upd_ne sD]; exact h3⟩) ⟨[], i0, rfl, hi0, hs⟩ (fun i H _ _ => ⟨id, id⟩) ?_ ?_
  · rintro i H acc hi k t ⟨l, j, h1, h2, h3⟩ hacc x H' ⟨rfl, rfl⟩ Kt Kf ht hf
    refine step i _ j Kt Kf hi h2 k t h3 ⟨fun e H' k' t' => ?_, fun a r e v H' j' hj hd k' t' hs' dv => ?_⟩
    · refine fin.no (rTimes_mono (m := i + 1) (by omega) ?_) _ (k.trans k') (t.trans t')
      rw [rTimes_more h1, e]
      rfl
    · refine ht v H' (enc a) ?_ k' t' ⟨l ++ [a], j', ?_, hj, hs'⟩ (dmono (hd_nw t hacc) dv)
      · rw [rAt_more h1 e]
        rfl
      · rw [rTimes_more h1, e, hd]
        rfl
  · rintro H k t ⟨l, j, h1, h2, h3⟩ dd dx
    have e : (List.range n).filterMap (fun i => (rAt rd (ns.drop i0) i).map enc) = l.map enc := by
      rw [← rAt_all h1, List.map_filterMap]
    rw [e] at dd dx
    exact fin.yes l _ h1 _ _ j h2 rfl k t h3 dd rfl dx
end
end MR

namespace MR
open PySem PySem.Spec PyProof.Rows L2
/-- the class of the source -/
structure SrcC (K : PySem.W.Frag) (C : Addr) : Prop where
  cl : Cls K C
  n1 : NoAttr K C "numbers"
  n2 : NoAttr K C "place"
/-- a def that reads: of the source (its first argument), and more; CE: the error's class -/
def sp_read {α : Type} (K : PySem.W.Frag) (C CE : Addr) (ar : List V) (rd : Rdr α) (enc : α → PyData) : Sp := fun vs H Q E => ∃ (s dx q : Addr) (ns : List Int) (i : Nat), vs = .ref s :: ar ∧ H s = some (.ins C dx (srcF q i)) ∧ H q = some (.lst (ns.map V.int)) ∧ ns.length ≤ 1000 ∧ i ≤ ns.length ∧
  Rds K C dx s q ns rd i H (E (.ref CE) none) (fun a v H' => Dp K (nw H H') v (enc a) → Q v H')
/-- a new list of ints is read -/
def sp_readL (K : PySem.W.Frag) (C CE : Addr) (rd : Rdr (List Int)) : Sp := fun vs H Q E => ∃ (s dx q : Addr) (ns : List Int) (i : Nat), vs = [.ref s] ∧ H s = some (.ins C dx (srcF q i)) ∧ H q = some (.lst (ns.map V.int)) ∧ ns.length ≤ 1000 ∧ i ≤ ns.length ∧
  Rds K C dx s q ns rd i H (E (.ref CE) none) (fun a v H' => ∀ p, v = .ref p → H p = none → H' p = some (.lst (a.map V.int)) → Q v H')
def sp_take (K : PySem.W.Frag) (C CE : Addr) : Sp := fun vs H Q E => ∃ lo hi, sp_read K C CE [.int lo, .int hi] (rInt lo hi) dI vs H Q E
section
variable {P : Program} {w : World} {K : PySem.W.Frag} {mg : Str → Option Value} {base : Heap} {f : Addr} {fd : FuncData} {C CE : Addr}

abbrev s_TableNumbers_is_over : Stmt := inClass (topS 50) 2
theorem sc_TableNumbers_is_over : FnScope ["self"] ["self"] (defScope s_TableNumbers_is_over) := ⟨rfl, rfl, rfl, by decide +kernel, rfl, by decide +kernel, by decide +kernel⟩
def sp_is_over (K : PySem.W.Frag) (C : Addr) : Sp := fun vs H Q _ => ∃ (s dx q : Addr) (ns : List Int) (i : Nat), vs = [.ref s] ∧ H s = some (.ins C dx (srcF q i)) ∧ H q = some (.lst (ns.map V.int)) ∧ Q (.bl (decide (i = ns.length))) H
theorem ok_is_over (T : Tops mg) (S : SrcC K C) (F : Fun K "is_over" "TableNumbers.is_over" s_TableNumbers_is_over f fd) : FnOk P w K mg base CX0 1 f fd ["self"] (sp_is_over K C) := by
  refine F.ok sc_TableNumbers_is_over (fun vs H Q E h => ?_) (fun cdv A outer s H vs Q E hr h => ⟨_, (pss_one (ps_ret (pe_cmpR op_eqI (fldK K (pv 0)) (pe_callB (lenK K) (by rfl) T.n_len PySem.boot_len (pa_cons (fldK K (pv 0)) pa_nil)) (nomark _)))), ?_⟩)
  · obtain ⟨s, dx, q, ns, i, rfl, _⟩ := h
    rfl
  obtain ⟨s, dx, q, ns, i, rfl, hs, hq, h⟩ := h
  refine ⟨_, rfl, s, C, dx, _, _, rfl, hs, S.cl, S.n2, rfl, _, rfl, s, C, dx, _, _, rfl, hs, S.cl, S.n1, rfl, _, _, rfl, .inl (SqL.of hq), _, _, rfl, rfl, ?_⟩
  have e : decide ((i : Int) = (((ns.map V.int).length : Nat) : Int)) = decide (i = ns.length) := decide_eq_decide.mpr (by rw [List.length_map]; omega)
  show Q (.bl (decide ((i : Int) = (((ns.map V.int).length : Nat) : Int)))) H
  rw [e]
  exact h

abbrev s_TableNumbers_take : Stmt := inClass (topS 50) 1
theorem sc_TableNumbers_take : FnScope ["self", "lowest", "highest", "number"] ["self", "lowest", "highest"] (defScope s_TableNumbers_take) := ⟨rfl, rfl, rfl, by decide +kernel, rfl, by decide +kernel, by decide +kernel⟩
theorem ok_take (T : Tops mg) (S : SrcC K C) (C_TableNumbers_is_over : MetX P w K mg base CX0 1 C "is_over" (sp_is_over K C)) (X_NotTable : ErrX K mg "NotTable" CE) (F : Fun K "take" "TableNumbers.take" s_TableNumbers_take f fd) :
    FnOk P w K mg base (L2.CX P w) 2 f fd ["self", "lowest", "highest"] (sp_take K C CE) := by
  refine F.okX sc_TableNumbers_take (fun vs H Q E h => ?_) (fun cdv A outer s H vs Q E hr h => ⟨_, (pss_cons (ps_if (pt_val (pe_m0 (pv 0) C_TableNumbers_is_over hr (by decide) (fun _ => quiet)))
   (pss_one (ps_raise rfl (takes_of rfl rfl rfl rfl) (pmk_own0 PySem.F.excBase_Exception X_NotTable.q X_NotTable.g X_NotTable.kp (raises_own X_NotTable.b X_NotTable.t) (by rfl)))) pss_nil)
  (pss_cons (ps_set (i := 3) sc_TableNumbers_take.nd rfl (Or.inl rfl) (pe_ix (ixL K) (fldK K (pv 0)) (fldK K (pv 0)) (fun _ _ => rfl)))
  (pss_cons (ps_if (PW.pt (pw_or (pt_cmpR op_lt (pv 3) (pv 1) (nomark _)) (pw_or1 (pt_cmpR op_gt (pv 3) (pv 2) (nomark _)))))
   (pss_one (ps_raise rfl (takes_of rfl rfl rfl rfl) (pmk_own0 PySem.F.excBase_Exception X_NotTable.q X_NotTable.g X_NotTable.kp (raises_own X_NotTable.b X_NotTable.t) (by rfl)))) pss_nil)
  (pss_cons (ps_fldaug (pv 0) pe_int in_add)
  (pss_one (ps_ret (pv 3))))))), ?_⟩)
  · obtain ⟨lo, hi, s, dx, q, ns, i, rfl, _⟩ := h
    rfl
  obtain ⟨lo, hi, s, dx, q, ns, i, rfl, hs, hq, hl, hil, h⟩ := h
  refine ⟨_, rfl, s, dx, _, rfl, hs, rfl, s, dx, q, ns, i, rfl, hs, hq, _, rfl, ?_⟩
  refine ite_dec rfl (fun c => ?_) (fun c => ?_)
  · refine h.no ?_ H (Kp.refl H) (fun _ e => e)
    rw [c, List.drop_length]
    rfl
  have lt : i < ns.length := by omega
  have ed : ns.drop i = ns[i] :: ns.drop (i + 1) := List.drop_eq_getElem_cons lt
  refine ⟨_, rfl, s, C, dx, _, _, rfl, hs, S.cl, S.n1, rfl, _, rfl, s, C, dx, _, _, rfl, hs, S.cl, S.n2, rfl, q, _, _, _, rfl, rfl, SqL.of hq, at_int (i := i) lt rfl, ?_⟩
  have eg : ns.getD i 0 = ns[i] := by simp [lt]
  rw [eg]
  refine ⟨_, rfl, _, rfl, _, _, rfl, rfl, _, rfl, ?_⟩
  refine ite_dec rfl (fun c1 => ?_) (fun c1 => ?_)
  · refine iteT (h.no ?_ H (Kp.refl H) (fun _ e => e))
    rw [ed]
    exact if_neg (by omega)
  refine ⟨_, rfl, _, rfl, _, _, rfl, rfl, _, rfl, ?_⟩
  refine ite_dec rfl (fun c2 => ?_) (fun c2 => ?_)
  · refine (h.no ?_ H (Kp.refl H) (fun _ e => e))
    rw [ed]
    exact if_neg (by omega)
  refine ⟨_, rfl, s, C, dx, _, _, rfl, hs, S.cl, S.n2, rfl, _, _, rfl, rfl, dx, _, hs, by show 2 < 1000; decide, _, rfl, ?_⟩
  refine h.yes ns[i] (ns.drop (i + 1)) (by rw [ed]; exact if_pos (by omega)) _ _ (i + 1) lt rfl (fun b o e n => ?_) (fun b e => ?_) upd_same (.int _)
  · rw [upd_ne n]
    exact e
  · by_cases z : b = s
    · rw [z, upd_same] at e
      cases e
    · rw [upd_ne z] at e
      exact e

abbrev s_read_bytes : Stmt := topS 56
theorem sc_read_bytes : FnScope ["source", "byte_count", "byte"] ["source"] (defScope s_read_bytes) := ⟨rfl, rfl, rfl, by decide +kernel, rfl, by decide +kernel, by decide +kernel⟩
theorem ok_read_bytes (T : Tops mg) (C_TableNumbers_take : MetX P w K mg base (L2.CX P w) 2 C "take" (sp_take K C CE)) (F : Fun K "read_bytes" "read_bytes" s_read_bytes f fd) :
    FnOk P w K mg base (L2.CX P w) 3 f fd ["source"] (sp_readL K C CE rBytes) := by
  refine F.okX sc_read_bytes (fun vs H Q E h => ?_) (fun cdv A outer s H vs Q E hr h => ⟨_, (pss_cons (ps_set (i := 1) sc_read_bytes.nd rfl (Or.inl rfl) (pe_m (pv 0) C_TableNumbers_take hr (by decide) (loud (takes_of rfl rfl rfl rfl)) (pa_cons pe_int (pa_cons (pe_gi (by rfl) T.i_MOST_BYTES) pa_nil))))
  (pss_one (ps_ret (pe_lcX rfl rfl (takes_of rfl rfl rfl rfl) (own := [("byte", 2)]) rfl sc_read_bytes.nd (pi_range1 (by rfl) T.n_range (pa_cons (pv 1) pa_nil)) (blkOk_by (N := ["source", "byte_count", "byte"]) (sc := defScope s_read_bytes) (by decide +kernel)) (fun _ _ _ _ _ => (pg_name (i := 2) sc_read_bytes.nd rfl (Or.inl rfl))) (fun _ _ _ _ _ => pts_nil) (fun _ _ _ _ _ => (pe_m (pv 0) C_TableNumbers_take hr (by decide) (fun _ => pass_blk) (pa_cons (pe_gi (by rfl) T.i_FIRST_BYTE) (pa_cons (pe_gi (by rfl) T.i_LAST_BYTE) pa_nil)))))))), ?_⟩)
  · obtain ⟨s, dx, q, ns, i, rfl, _⟩ := h
    rfl
  obtain ⟨s, dx, q, ns, i, rfl, hs, hq, hl, hil, h⟩ := h
  refine ⟨_, rfl, s, dx, _, rfl, hs, rfl, 1, 8, s, dx, q, ns, i, rfl, hs, hq, hl, hil, ⟨fun e H1 k1 t1 => ?_, fun n r e v H1 j hj hr1 k1 t1 hs1 dv => ?_⟩⟩
  · refine h.no ?_ H1 k1 t1
    unfold rBytes
    rw [e]
    rfl
  cases dv
  have hn : 1 ≤ n ∧ n ≤ 8 := by
    unfold rInt at e
    cases ed : ns.drop i with
    | nil => rw [ed] at e; cases e
    | cons z r' =>
      rw [ed] at e
      by_cases c : 1 ≤ z ∧ z ≤ 8
      · have e : some (z, r') = some (n, r) := (if_pos c).symm.trans e
        cases e
        exact c
      · have e : none = some (n, r) := (if_neg c).symm.trans e
        cases e
  have sq : q ≠ s := ne_of hq hs (by intro z; cases z)
  refine ⟨_, rfl, n, rfl, by omega, by omega, fun D hD => ?_⟩
  refine lc_reads (K := K) (rInt 32 126) dI n.toNat (E (.ref CE) none) (by omega) hD hj hs1 ?_ ?_
  · intro i2 H2 j2 Kt Kf hi2 hj2 k2 t2 hs2 R
    exact ⟨rfl, lc_yes ⟨_, rfl, s, dx, _, rfl, hs2, rfl, 32, 126, s, dx, q, ns, j2, rfl, hs2, k2 _ _ (k1 _ _ hq sq) sq, hl, hj2, R⟩⟩
  · refine ⟨fun e2 H2 k2 t2 => h.no ?_ H2 (k1.trans k2) (t1.trans t2), fun l r2 e2 v H2 j2 hj2 hr2 k2 t2 hs2 dv ev ⟨xs, hx, dx⟩ => h.yes l r2 ?_ _ H2 j2 hj2 hr2 (k1.trans k2) (t1.trans t2) hs2 D rfl (t1 D hD) ?_⟩
    · unfold rBytes
      rw [e, Option.bind_some, ← hr1]
      exact e2
    · unfold rBytes
      rw [e, Option.bind_some, ← hr1]
      exact e2
    · rw [hx, of_dint l dx]
end
end MR

namespace MR
open PySem PySem.Spec PyProof.Rows L2
theorem rInt_some {lo hi : Int} {x r : List Int} {z : Int} (h : rInt lo hi x = some (z, r)) : lo ≤ z ∧ z ≤ hi := by
  unfold rInt at h
  cases x with
  | nil => cases h
  | cons y r' =>
    by_cases c : lo ≤ y ∧ y ≤ hi
    · have e : some (y, r') = some (z, r) := (if_pos c).symm.trans h
      cases e
      exact c
    · have e : none = some (z, r) := (if_neg c).symm.trans h
      cases e
theorem rBytes_some {x r : List Int} {w : List Int} (h : rBytes x = some (w, r)) : 1 ≤ w.length ∧ w.length ≤ 8 := by
  unfold rBytes at h
  cases e : rInt 1 8 x with
  | none => rw [e] at h; cases h
  | some u =>
    obtain ⟨z, r'⟩ := u
    rw [e] at h
    have := rInt_some e
    have := rTimes_len h
    omega
theorem rNamesN_len : ∀ {n : Nat} {x r : List Int} {l : List (List Int)}, rNamesN n x = some (l, r) → l.length = n
  | 0, x, r, l, h => by cases h; rfl
  | n + 1, x, r, l, h => by
    unfold rNamesN at h
    cases e : rNamesN n x with
    | none => rw [e] at h; cases h
    | some u =>
      rw [e, Option.bind_some] at h
      cases e2 : rName u.2 with
      | none => rw [e2] at h; cases h
      | some v =>
        rw [e2, Option.bind_some] at h
        by_cases c : u.1.contains v.1 = true
        · rw [if_pos c] at h; cases h
        · rw [if_neg c] at h
          cases h
          rw [List.length_append, rNamesN_len e]
          rfl
theorem rNamesN_mono {x : List Int} : ∀ {m n : Nat}, m ≤ n → rNamesN m x = none → rNamesN n x = none
  | m, 0, h, e => by
    have : m = 0 := by omega
    rw [this] at e
    exact e
  | m, n + 1, h, e => by
    by_cases c : m = n + 1
    · rw [← c]
      exact e
    · have ih := rNamesN_mono (m := m) (n := n) (by omega) e
      unfold rNamesN
      rw [ih]
      rfl
theorem rNamesN_more {x : List Int} {i : Nat} {l : List (List Int)} {r : List Int} (h : rNamesN i x = some (l, r)) : rNamesN (i + 1) x = (rName r).bind fun v => if l.contains v.1 = true then none else some (l ++ [v.1], v.2) := by
  show ((rNamesN i x).bind fun u => (rName u.2).bind fun v => if u.1.contains v.1 = true then none else some (u.1 ++ [v.1], v.2)) = _
  rw [h]
  rfl
section
variable {P : Program} {w : World} {K : PySem.W.Frag} {mg : Str → Option Value} {base : Heap} {f : Addr} {fd : FuncData} {C CE : Addr}

abbrev s_is_small_letter : Stmt := topS 57
theorem sc_is_small_letter : FnScope ["byte"] ["byte"] (defScope s_is_small_letter) := ⟨rfl, rfl, rfl, by decide +kernel, rfl, by decide +kernel, by decide +kernel⟩
def sp_is_small_letter : Sp := fun vs H Q _ => ∃ z : Int, vs = [.int z] ∧ Q (.bl (isSmallI z)) H
theorem ok_is_small_letter (T : Tops mg) (F : Fun K "is_small_letter" "is_small_letter" s_is_small_letter f fd) : FnOk P w K mg base CX0 1 f fd ["byte"] sp_is_small_letter := by
  refine F.ok sc_is_small_letter (fun vs H Q E h => ?_) (fun cdv A outer s H vs Q E hr h => ⟨_, (pss_one (ps_ret (pe_chain op_le op_le (pe_callB call_ord (by rfl) T.n_ord (by decide +kernel) (pa_cons pe_str pa_nil)) (pv 0) (pe_callB call_ord (by rfl) T.n_ord (by decide +kernel) (pa_cons pe_str pa_nil))))), ?_⟩)
  · obtain ⟨z, rfl, _⟩ := h
    rfl
  obtain ⟨z, rfl, h⟩ := h
  refine ⟨_, rfl, by decide, _, rfl, 97, z, rfl, rfl, _, rfl, ?_⟩
  refine ite_dec rfl (fun c => ⟨_, rfl, by decide, z, 122, rfl, rfl, ?_⟩) (fun c => ?_)
  · have e : decide (z ≤ 122) = isSmallI z := decide_eq_decide.mpr ⟨fun q => ⟨c, q⟩, fun q => q.2⟩
    show Q (.bl (decide (z ≤ 122))) H
    rw [e]
    exact h
  · have e : isSmallI z = false := decide_eq_false fun q => c q.1
    rw [e] at h
    exact h
abbrev s_is_digit : Stmt := topS 58
theorem sc_is_digit : FnScope ["byte"] ["byte"] (defScope s_is_digit) := ⟨rfl, rfl, rfl, by decide +kernel, rfl, by decide +kernel, by decide +kernel⟩
def sp_is_digit : Sp := fun vs H Q _ => ∃ z : Int, vs = [.int z] ∧ Q (.bl (isDigitI z)) H
theorem ok_is_digit (T : Tops mg) (F : Fun K "is_digit" "is_digit" s_is_digit f fd) : FnOk P w K mg base CX0 1 f fd ["byte"] sp_is_digit := by
  refine F.ok sc_is_digit (fun vs H Q E h => ?_) (fun cdv A outer s H vs Q E hr h => ⟨_, (pss_one (ps_ret (pe_chain op_le op_le (pe_callB call_ord (by rfl) T.n_ord (by decide +kernel) (pa_cons pe_str pa_nil)) (pv 0) (pe_callB call_ord (by rfl) T.n_ord (by decide +kernel) (pa_cons pe_str pa_nil))))), ?_⟩)
  · obtain ⟨z, rfl, _⟩ := h
    rfl
  obtain ⟨z, rfl, h⟩ := h
  refine ⟨_, rfl, by decide, _, rfl, 48, z, rfl, rfl, _, rfl, ?_⟩
  refine ite_dec rfl (fun c => ⟨_, rfl, by decide, z, 57, rfl, rfl, ?_⟩) (fun c => ?_)
  · have e : decide (z ≤ 57) = isDigitI z := decide_eq_decide.mpr ⟨fun q => ⟨c, q⟩, fun q => q.2⟩
    show Q (.bl (decide (z ≤ 57))) H
    rw [e]
    exact h
  · have e : isDigitI z = false := decide_eq_false fun q => c q.1
    rw [e] at h
    exact h

abbrev s_read_name : Stmt := topS 53
theorem sc_read_name : FnScope ["source", "name", "byte"] ["source"] (defScope s_read_name) := ⟨rfl, rfl, rfl, by decide +kernel, rfl, by decide +kernel, by decide +kernel⟩
theorem ok_read_name (T : Tops mg) (C_read_bytes : CalX P w K mg base (L2.CX P w) 3 "read_bytes" (sp_readL K C CE rBytes)) (C_is_small_letter : CalX P w K mg base CX0 1 "is_small_letter" sp_is_small_letter)
    (C_is_digit : CalX P w K mg base CX0 1 "is_digit" sp_is_digit) (X_NotTable : ErrX K mg "NotTable" CE) (F : Fun K "read_name" "read_name" s_read_name f fd) :
    FnOk P w K mg base (L2.CX P w) 4 f fd ["source"] (sp_read K C CE [] rName dLI) := by
  refine F.okX sc_read_name (fun vs H Q E h => ?_) (fun cdv A outer s H vs Q E hr h => ⟨_, (pss_cons (ps_set (i := 1) sc_read_name.nd rfl (Or.inl rfl) (pe_k C_read_bytes hr (by decide) (by rfl) (loud (takes_of rfl rfl rfl rfl)) (pa_cons (pv 0) pa_nil)))
  (pss_cons (ps_if (pt_not (pt_val (pe_k C_is_small_letter hr (by decide) (by rfl) (fun _ => quiet) (pa_cons (pe_ix (ixL K) (pv 1) pe_int (fun _ _ => rfl)) pa_nil))))
   (pss_one (ps_raise rfl (takes_of rfl rfl rfl rfl) (pmk_own0 PySem.F.excBase_Exception X_NotTable.q X_NotTable.g X_NotTable.kp (raises_own X_NotTable.b X_NotTable.t) (by rfl)))) pss_nil)
  (pss_cons (ps_for (passes_of rfl) rfl (lstK K (pv 1)) (pg_name (i := 2) sc_read_name.nd rfl (Or.inl rfl))
   (pss_one (ps_if (PW.pt (pw_and (pt_not (pt_val (pe_k C_is_small_letter hr (by decide) (by rfl) (fun _ => quiet) (pa_cons (pv 2) pa_nil)))) (pw_and1 (pt_not (pt_val (pe_k C_is_digit hr (by decide) (by rfl) (fun _ => quiet) (pa_cons (pv 2) pa_nil)))))))
   (pss_one (ps_raise rfl (takes_of rfl rfl rfl rfl) (pmk_own0 PySem.F.excBase_Exception X_NotTable.q X_NotTable.g X_NotTable.kp (raises_own X_NotTable.b X_NotTable.t) (by rfl)))) pss_nil)))
  (pss_one (ps_ret (pv 1)))))), ?_⟩)
  · obtain ⟨s, dx, q, ns, i, rfl, _⟩ := h
    rfl
  obtain ⟨s, dx, q, ns, i, rfl, hs, hq, hl, hil, h⟩ := h
  refine ⟨_, rfl, s, dx, q, ns, i, rfl, hs, hq, hl, hil, ⟨fun e H1 k1 t1 => ?_, fun wd r e v H1 j hj hr1 k1 t1 hs1 p ev np hpt => ?_⟩⟩
  · refine h.no ?_ H1 k1 t1
    unfold rName
    rw [e]
    rfl
  subst ev
  have hp : SqL K H1 p (wd.map V.int) := SqL.of hpt
  have dv : Dp K (nw H H1) (.ref p) (dLI wd) := ints_dp (.inl (.inl (nw_of np hpt)))
  have hlen := rBytes_some e
  have em : rName (ns.drop i) = if goodName wd = true then some (wd, r) else none := by
    unfold rName
    rw [e]
    rfl
  refine ⟨_, rfl, _, _, _, _, rfl, rfl, hp, at_int (i := 0) (by omega) rfl, wd.getD 0 0, rfl, _, rfl, ?_⟩
  have eh : wd.headD 0 = wd.getD 0 0 := by cases wd <;> rfl
  cases c : isSmallI (wd.getD 0 0) with
  | false =>
    refine iteT (h.no ?_ H1 k1 t1)
    rw [em]
    unfold goodName
    rw [eh, c, Bool.false_and]
    rfl
  | true =>
  refine iteF ⟨_, rfl, p, rfl, ⟨_, hp⟩, for_list (K := K) (a := p) (xs := wd.map V.int) (fun n σ H' => H' = H1 ∧ (∃ u, σ = [some (.ref s), some (.ref p), u]) ∧ ∀ z ∈ wd.take n, (isSmallI z || isDigitI z) = true) ⟨rfl, ⟨_, rfl⟩, fun z hz => by simp at hz⟩ (fun n σ H' _ z => by rw [z.1]; exact hp) ?_ ?_⟩
  · rintro n x σ H2 hn ⟨rfl, ⟨u, rfl⟩, z⟩
    rw [List.getElem?_map] at hn
    cases e2 : wd[n]? with
    | none => rw [e2] at hn; cases hn
    | some y =>
      rw [e2] at hn
      cases hn
      have more : wd.take (n + 1) = wd.take n ++ [y] := by
        rw [List.take_add_one, e2]
        rfl
      have bad : (isSmallI y || isDigitI y) = false → goodName wd = false := fun z => by
        unfold goodName
        have : (wd.all fun z => isSmallI z || isDigitI z) = false := by
          rw [Bool.eq_false_iff]
          intro q
          have := List.all_eq_true.mp q y (List.mem_of_getElem? e2)
          rw [z] at this
          cases this
        rw [this, Bool.and_false]
      refine ⟨_, rfl, y, rfl, _, rfl, ?_⟩
      cases c1 : isSmallI y with
      | true =>
        refine iteF ⟨rfl, ⟨_, rfl⟩, fun y' hy' => ?_⟩
        rw [more] at hy'
        rcases List.mem_append.mp hy' with q1 | q1
        · exact z y' q1
        · rw [List.mem_singleton.mp q1, c1]
          rfl
      | false =>
        refine iteT ⟨_, rfl, y, rfl, _, rfl, ?_⟩
        cases c2 : isDigitI y with
        | true =>
          refine iteF ⟨rfl, ⟨_, rfl⟩, fun y' hy' => ?_⟩
          rw [more] at hy'
          rcases List.mem_append.mp hy' with q1 | q1
          · exact z y' q1
          · rw [List.mem_singleton.mp q1, c1, c2]
            rfl
        | false =>
          refine iteT (h.no ?_ H2 k1 t1)
          rw [em, bad (by rw [c1, c2]; rfl)]
          rfl
  · rintro σ H2 ⟨rfl, ⟨u, rfl⟩, z⟩
    rw [List.length_map, List.take_length] at z
    refine ⟨_, rfl, h.yes wd r ?_ _ _ j hj hr1 k1 t1 hs1 dv⟩
    rw [em]
    refine if_pos ?_
    unfold goodName
    rw [eh, c, Bool.true_and]
    exact List.all_eq_true.mpr z

abbrev s_read_names : Stmt := topS 52
theorem sc_read_names : FnScope ["source", "names", "column_count", "column", "name"] ["source"] (defScope s_read_names) := ⟨rfl, rfl, rfl, by decide +kernel, rfl, by decide +kernel, by decide +kernel⟩
theorem ok_read_names (T : Tops mg) (C_TableNumbers_take : MetX P w K mg base (L2.CX P w) 2 C "take" (sp_take K C CE)) (C_read_name : CalX P w K mg base (L2.CX P w) 4 "read_name" (sp_read K C CE [] rName dLI))
    (X_NotTable : ErrX K mg "NotTable" CE) (F : Fun K "read_names" "read_names" s_read_names f fd) :
    FnOk P w K mg base (L2.CX P w) 5 f fd ["source"] (sp_read K C CE [] rNames (dL dLI)) := by
  refine F.okX sc_read_names (fun vs H Q E h => ?_) (fun cdv A outer s H vs Q E hr h => ⟨_, (pss_cons (ps_set (i := 1) sc_read_names.nd rfl (Or.inl rfl) (pe_lst pa_nil))
  (pss_cons (ps_set (i := 2) sc_read_names.nd rfl (Or.inl rfl) (pe_m (pv 0) C_TableNumbers_take hr (by decide) (loud (takes_of rfl rfl rfl rfl)) (pa_cons pe_int (pa_cons (pe_gi (by rfl) T.i_MOST_COLUMNS) pa_nil))))
  (pss_cons (ps_for (passes_of rfl) rfl (pi_range1 (by rfl) T.n_range (pa_cons (pv 2) pa_nil)) (pg_name (i := 3) sc_read_names.nd rfl (Or.inl rfl))
   (pss_cons (ps_set (i := 4) sc_read_names.nd rfl (Or.inl rfl) (pe_k C_read_name hr (by decide) (by rfl) (loud (takes_of rfl rfl rfl rfl)) (pa_cons (pv 0) pa_nil)))
  (pss_cons (ps_if (pt_cmpR (inD K (units65 hr)) (pv 4) (pv 1) (by rfl))
   (pss_one (ps_raise rfl (takes_of rfl rfl rfl rfl) (pmk_own0 PySem.F.excBase_Exception X_NotTable.q X_NotTable.g X_NotTable.kp (raises_own X_NotTable.b X_NotTable.t) (by rfl)))) pss_nil)
  (pss_one (ps_expr (pe_bm PySem.F.plainAttrs_list PySem.F.slot_list_append PySem.F.type_list_append mt_append (pv 1) (pa_cons (pv 4) pa_nil)))))))
  (pss_one (ps_ret (pv 1)))))), ?_⟩)
  · obtain ⟨s, dx, q, ns, i, rfl, _⟩ := h
    rfl
  obtain ⟨s, dx, q, ns, i, rfl, hs, hq, hl, hil, h⟩ := h
  have sq : q ≠ s := ne_of hq hs (by intro z; cases z)
  refine ⟨Nat.zero_le _, fun D hD => ?_⟩
  have sD : s ≠ D := ne_of_none hs hD
  have s0 : Same H (upd H D (.lst [])) := Same.made1 hD
  refine ⟨_, rfl, s, dx, _, rfl, s0 _ _ hs, rfl, 1, 5, s, dx, q, ns, i, rfl, s0 _ _ hs, s0 _ _ hq, hl, hil, ⟨fun e H1 k1 t1 => ?_, fun n r e v H1 j hj hr1 k1 t1 hs1 dv => ?_⟩⟩
  · refine h.no ?_ H1 ((Kp.same s0).trans k1) ((Same.tk s0).trans t1)
    unfold rNames
    rw [e]
    rfl
  cases dv
  have hn := rInt_some e
  have k1' := (Kp.same (S := (· = s)) s0).trans k1
  have t1' := (Same.tk s0).trans t1
  have em : rNames (ns.drop i) = rNamesN n.toNat (ns.drop j) := by
    unfold rNames
    rw [e, Option.bind_some, hr1]
  have nD : ∀ b o, H b = some o → b ≠ D := fun b o e => ne_of_none e hD
  refine ⟨_, rfl, n, rfl, by omega, by omega, for_range (lo := 0) (n := n.toNat) (fun m σ H' => Kp (· = s) H H' ∧ Tk H H' ∧ (∃ u v, σ = [some (.ref s), some (.ref D), some (.int n), u, v]) ∧
      ∃ l j', rNamesN m (ns.drop j) = some (l, ns.drop j') ∧ j' ≤ ns.length ∧ H' s = some (.ins C dx (srcF q j')) ∧ ∃ acc, H' D = some (.lst acc) ∧ DpAll K (hd D (nw H H')) acc (l.map dLI))
    ⟨k1', t1', ⟨_, _, rfl⟩, [], j, rfl, hj, hs1, [], ?_, .nil⟩ ?_ ?_⟩
  · exact k1 D _ upd_same (Ne.symm sD)
  · rintro m σ H2 hm ⟨k2, t2, ⟨u, v, rfl⟩, l, j2, hrd, hj2, hs2, acc, hD2, hacc⟩
    have hll := rNamesN_len hrd
    have hal := DpAll.length hacc
    rw [List.length_map] at hal
    refine ⟨_, rfl, s, dx, q, ns, j2, rfl, hs2, k2 _ _ hq sq, hl, hj2, ⟨fun e2 H3 k3 t3 => ?_, fun wd r2 e2 v2 H3 j3 hj3 hr3 k3 t3 hs3 dv => ?_⟩⟩
    · refine h.no ?_ H3 (k2.trans k3) (t2.trans t3)
      rw [em]
      refine rNamesN_mono (m := m + 1) (by omega) ?_
      rw [rNamesN_more hrd, e2]
      rfl
    have hD3 := k3 D _ hD2 (Ne.symm sD)
    have dv3 := dmono nw_in dv
    have up : Same (hd D (nw H H2)) (hd D (nw H H3)) := fun b o e =>
      hd_of (hd_ne e).1 (nw_of (nw_some (hd_ne e).2).1 (k3 b o (nw_some (hd_ne e).2).2 fun z => by rw [z] at e; rw [(nw_some (hd_ne e).2).1] at hs; cases hs))
    have hacc3 := dmonoAll up hacc
    have dl3 : Dp K H3 (.ref D) (dL dLI l) := .lst (SqL.of hD3) (dmonoAll (fun b o e => nw_in b o (hd_in b o e)) hacc3)
    refine ⟨_, rfl, _, rfl, _, _, dv3, dl3, shaped_LI wd, shaped_LLI l, _, rfl, ?_⟩
    rw [any_LI]
    have ec : l.any (· == wd) = l.contains wd := by
      clear hrd hll hal hacc hacc3 dl3
      induction l with
      | nil => rfl
      | cons a l ih =>
        rw [List.any_cons, List.contains_cons, ih]
        congr 1
        exact Bool.beq_comm
    rw [ec]
    have em1 : rNamesN (m + 1) (ns.drop j) = if l.contains wd = true then none else some (l ++ [wd], r2) := by
      rw [rNamesN_more hrd, e2]
      rfl
    cases c : l.contains wd with
    | true =>
      refine iteT (h.no ?_ H3 (k2.trans k3) (t2.trans t3))
      rw [em]
      refine rNamesN_mono (m := m + 1) (by omega) ?_
      rw [em1, c]
      rfl
    | false =>
      refine iteF ⟨_, rfl, .inl ⟨rfl, _, SqL.of hD3⟩, _, rfl, D, _, _, rfl, rfl, hD3, by rw [sizeLine_eq]; omega, ?_⟩
      refine ⟨fun b o e n => ?_, fun b e => ?_, ⟨_, _, rfl⟩, l ++ [wd], j3, ?_, hj3, ?_, _, upd_same, ?_⟩
      · rw [upd_ne (nD b o e)]
        exact k3 b o (k2 b o e n) n
      · by_cases z : b = D
        · rw [z, upd_same] at e
          cases e
        · rw [upd_ne z] at e
          exact t2 b (t3 b e)
      · rw [em1, c, if_neg Bool.false_ne_true, hr3]
      · rw [upd_ne sD]
        exact hs3
      · rw [List.map_append]
        have up2 : ∀ {G : HO}, Same (hd D (nw H H3)) (hd D (nw H (upd H3 D G))) := fun {G} b o e =>
          hd_of (hd_ne e).1 (nw_of (nw_some (hd_ne e).2).1 (by rw [upd_ne (hd_ne e).1]; exact (nw_some (hd_ne e).2).2))
        exact DpAll.snoc (dmonoAll up2 hacc3) (dmono up2 (dmono (hd_nw t2 hD2) dv))
  · rintro σ H2 ⟨k2, t2, ⟨u, v, rfl⟩, l, j2, hrd, hj2, hs2, acc, hD2, hacc⟩
    exact ⟨_, rfl, h.yes l _ (em.trans hrd) _ H2 j2 hj2 rfl k2 t2 hs2 (.lst (.inl (.inl (nw_of hD hD2))) (dmonoAll hd_in hacc))⟩
end
end MR

namespace MR
open PySem PySem.Spec PyProof.Rows L2
/-- the class of tables -/
structure TabC (K : PySem.W.Frag) (C : Addr) : Prop where
  cl : Cls K C
  n1 : NoAttr K C "names"
  n2 : NoAttr K C "rows"
def tabF (u v : V) : List (Str × V) := [("names", u), ("rows", v)]
section
variable {P : Program} {w : World} {K : PySem.W.Frag} {mg : Str → Option Value} {base : Heap} {f : Addr} {fd : FuncData} {C CE CT : Addr}

abbrev s_TableNumbers_init : Stmt := inClass (topS 50) 0
theorem sc_TableNumbers_init : FnScope ["self", "numbers"] ["self", "numbers"] (defScope s_TableNumbers_init) := ⟨rfl, rfl, rfl, by decide +kernel, rfl, by decide +kernel, by decide +kernel⟩
def sp_src_init (C : Addr) : Sp := fun vs H Q _ => ∃ (s dx q : Addr), vs = [.ref s, .ref q] ∧ H s = some (.ins C dx []) ∧ Q .non (upd H s (.ins C dx (srcF q 0)))
theorem ok_src_init (S : SrcC K C) (F : Fun K "__init__" "TableNumbers.__init__" s_TableNumbers_init f fd) : FnOk P w K mg base CX0 1 f fd ["self", "numbers"] (sp_src_init C) := by
  refine F.ok sc_TableNumbers_init (fun vs H Q E h => ?_) (fun cdv A outer s H vs Q E hr h => ⟨_, (pss_cons (ps_fld (pv 0) (pv 1) rfl)
  (pss_one (ps_fld (pv 0) pe_int rfl))), ?_⟩)
  · obtain ⟨s, dx, q, rfl, _⟩ := h
    rfl
  obtain ⟨s, dx, q, rfl, hs, h⟩ := h
  refine ⟨_, rfl, _, rfl, s, C, dx, _, rfl, hs, S.cl, S.n1, by show 0 < 1000; decide, ?_⟩
  refine ⟨_, rfl, s, C, dx, _, rfl, upd_same, S.cl, S.n2, by show 1 < 1000; decide, ?_⟩
  rw [upd_upd]
  exact h

abbrev s_Table_init : Stmt := inClass (topS 49) 0
theorem sc_Table_init : FnScope ["self", "names", "rows"] ["self", "names", "rows"] (defScope s_Table_init) := ⟨rfl, rfl, rfl, by decide +kernel, rfl, by decide +kernel, by decide +kernel⟩
def sp_tab_init (CT : Addr) : Sp := fun vs H Q _ => ∃ (s dx : Addr) (u v : V), vs = [.ref s, u, v] ∧ H s = some (.ins CT dx []) ∧ Q .non (upd H s (.ins CT dx (tabF u v)))
theorem ok_tab_init (S : TabC K CT) (F : Fun K "__init__" "Table.__init__" s_Table_init f fd) : FnOk P w K mg base CX0 1 f fd ["self", "names", "rows"] (sp_tab_init CT) := by
  refine F.ok sc_Table_init (fun vs H Q E h => ?_) (fun cdv A outer s H vs Q E hr h => ⟨_, (pss_cons (ps_fld (pv 0) (pv 1) rfl)
  (pss_one (ps_fld (pv 0) (pv 2) rfl))), ?_⟩)
  · obtain ⟨s, dx, u, v, rfl, _⟩ := h
    rfl
  obtain ⟨s, dx, u, v, rfl, hs, h⟩ := h
  refine ⟨_, rfl, _, rfl, s, CT, dx, _, rfl, hs, S.cl, S.n1, by show 0 < 1000; decide, ?_⟩
  refine ⟨_, rfl, _, rfl, s, CT, dx, _, rfl, upd_same, S.cl, S.n2, by show 1 < 1000; decide, ?_⟩
  rw [upd_upd]
  exact h

abbrev s_read_cell : Stmt := topS 55
theorem sc_read_cell : FnScope ["source", "kind", "word"] ["source"] (defScope s_read_cell) := ⟨rfl, rfl, rfl, by decide +kernel, rfl, by decide +kernel, by decide +kernel⟩
theorem ok_read_cell (T : Tops mg) (C_TableNumbers_take : MetX P w K mg base (L2.CX P w) 2 C "take" (sp_take K C CE)) (C_read_bytes : CalX P w K mg base (L2.CX P w) 3 "read_bytes" (sp_readL K C CE rBytes)) (F : Fun K "read_cell" "read_cell" s_read_cell f fd) :
    FnOk P w K mg base (L2.CX P w) 4 f fd ["source"] (sp_read K C CE [] rCell dLI) := by
  refine F.okX sc_read_cell (fun vs H Q E h => ?_) (fun cdv A outer s H vs Q E hr h => ⟨_, (pss_cons (ps_set (i := 1) sc_read_cell.nd rfl (Or.inl rfl) (pe_m (pv 0) C_TableNumbers_take hr (by decide) (loud (takes_of rfl rfl rfl rfl)) (pa_cons (pe_gi (by rfl) T.i_EMPTY) (pa_cons (pe_gi (by rfl) T.i_WORD) pa_nil))))
  (pss_cons (ps_if (pt_cmpR op_eqI (pv 1) (pe_gi (by rfl) T.i_NUMBER) (nomark _))
   (pss_one (ps_ret (pe_lst (pa_cons (pe_gi (by rfl) T.i_NUMBER) (pa_cons (pe_m (pv 0) C_TableNumbers_take hr (by decide) (loud (takes_of rfl rfl rfl rfl)) (pa_cons (pe_un un_neg (pe_gi (by rfl) T.i_BIGGEST_NUMBER)) (pa_cons (pe_gi (by rfl) T.i_BIGGEST_NUMBER) pa_nil))) pa_nil))))) pss_nil)
  (pss_cons (ps_if (pt_cmpR op_eqI (pv 1) (pe_gi (by rfl) T.i_WORD) (nomark _))
   (pss_cons (ps_set (i := 2) sc_read_cell.nd rfl (Or.inl rfl) (pe_k C_read_bytes hr (by decide) (by rfl) (loud (takes_of rfl rfl rfl rfl)) (pa_cons (pv 0) pa_nil)))
  (pss_one (ps_ret (pe_op op_cat (pe_lst (pa_cons (pe_gi (by rfl) T.i_WORD) (pa_cons (pe_callB (lenK K) (by rfl) T.n_len PySem.boot_len (pa_cons (pv 2) pa_nil)) pa_nil))) (pv 2))))) pss_nil)
  (pss_one (ps_ret (pe_lst (pa_cons (pe_gi (by rfl) T.i_EMPTY) pa_nil))))))), ?_⟩)
  · obtain ⟨s, dx, q, ns, i, rfl, _⟩ := h
    rfl
  obtain ⟨s, dx, q, ns, i, rfl, hs, hq, hl, hil, h⟩ := h
  have sq : q ≠ s := ne_of hq hs (by intro z; cases z)
  have hs0 : ∀ b, b = s → H b ≠ none := fun b z => by rw [z, hs]; exact fun e => nomatch e
  have one : ∀ {H1 H' : Hp} {a : Addr} {ys : List V}, Tk H H1 → H1 a = none → ys.length ≤ 100 → ∀ (z : List Int), ys = z.map V.int → Dp K (nw H (upd H1 a (.lst ys))) (.ref a) (dLI z) := fun {H1 H' a ys} t ha _ z e => by
    rw [e]
    exact ints_dp (.inl (.inl (nw_of (t _ ha) upd_same)))
  refine ⟨_, rfl, s, dx, _, rfl, hs, rfl, 0, 2, s, dx, q, ns, i, rfl, hs, hq, hl, hil, ⟨fun e H1 k1 t1 => ?_, fun n r e v H1 j hj hr1 k1 t1 hs1 dv => ?_⟩⟩
  · refine h.no ?_ H1 k1 t1
    unfold rCell
    rw [e]
    rfl
  cases dv
  have hn := rInt_some e
  have em : rCell (ns.drop i) = if n = 1 then (rInt (-1000000) 1000000 r).map fun v => ([1, v.1], v.2) else if n = 2 then (rBytes r).map fun v => (2 :: (v.1.length : Int) :: v.1, v.2) else some ([0], r) := by
    unfold rCell
    rw [e]
    rfl
  have fresh : ∀ {H2 : Hp} {a : Addr} {o : HO}, Kp (· = s) H H2 → Tk H H2 → H2 a = none → Kp (· = s) H (upd H2 a o) ∧ Tk H (upd H2 a o) := fun {H2 a o} k t ha =>
    ⟨k.trans (Kp.same (Same.made1 ha)), t.trans (Same.tk (Same.made1 ha))⟩
  refine ⟨_, rfl, _, _, rfl, rfl, _, rfl, ?_⟩
  refine ite_dec rfl (fun c => ?_) (fun c => ?_)
  · refine ⟨_, rfl, s, dx, _, rfl, hs1, rfl, _, rfl, -1000000, 1000000, s, dx, q, ns, j, rfl, hs1, k1 _ _ hq sq, hl, hj, ⟨fun e2 H2 k2 t2 => ?_, fun z r2 e2 v2 H2 j2 hj2 hr2 k2 t2 hs2 dv => ?_⟩⟩
    · refine h.no ?_ H2 (k1.trans k2) (t1.trans t2)
      rw [em, if_pos c, ← hr1, e2]
      rfl
    · cases dv
      refine ⟨by show 2 ≤ sizeLine; decide, fun a ha => ?_⟩
      obtain ⟨k3, t3⟩ := fresh (o := .lst [.int 1, .int z]) (k1.trans k2) (t1.trans t2) ha
      refine h.yes [1, z] r2 ?_ _ _ j2 hj2 hr2 k3 t3 ?_ (one (H' := H2) (t1.trans t2) ha (by show 2 ≤ 100; decide) [1, z] rfl)
      · rw [em, if_pos c, ← hr1, e2]
        rfl
      · rw [upd_ne (ne_of_none hs2 ha)]
        exact hs2
  refine ⟨_, rfl, _, _, rfl, rfl, _, rfl, ?_⟩
  refine ite_dec rfl (fun c2 => ?_) (fun c2 => ?_)
  · refine ⟨_, rfl, s, dx, q, ns, j, rfl, hs1, k1 _ _ hq sq, hl, hj, ⟨fun e2 H2 k2 t2 => ?_, fun wd r2 e2 v2 H2 j2 hj2 hr2 k2 t2 hs2 p ev np hp => ?_⟩⟩
    · refine h.no ?_ H2 (k1.trans k2) (t1.trans t2)
      rw [em, if_neg c, if_pos c2, ← hr1, e2]
      rfl
    · have hw := rBytes_some e2
      subst ev
      refine ⟨_, rfl, _, _, rfl, .inl (SqL.of hp), by show 2 ≤ sizeLine; decide, fun a ha => ⟨_, rfl, a, p, _, wd.map V.int, rfl, rfl, upd_same, ?_, ?_, fun b hb => ?_⟩⟩
      · rw [upd_ne (ne_of_none hp ha)]
        exact hp
      · rw [List.length_map, sizeLine_eq]
        show 2 + wd.length ≤ _
        omega
      · obtain ⟨k3, t3⟩ := fresh (o := .lst [.int 2, .int ((wd.map V.int).length : Nat)]) (k1.trans k2) (t1.trans t2) ha
        obtain ⟨k4, t4⟩ := fresh (o := .lst ([.int 2, .int ((wd.map V.int).length : Nat)] ++ wd.map V.int)) k3 t3 hb
        refine h.yes (2 :: (wd.length : Int) :: wd) r2 ?_ _ _ j2 hj2 hr2 k4 t4 ?_ ?_
        · rw [em, if_neg c, if_pos c2, ← hr1, e2]
          rfl
        · rw [upd_ne (fun z => by rw [z] at hs2; rw [upd_ne (fun z2 => by rw [z2, ha] at hs2; cases hs2), hs2] at hb; cases hb), upd_ne (ne_of_none hs2 ha)]
          exact hs2
        · refine one (H' := H2) t3 hb ?_ _ ?_
          · rw [List.length_append, List.length_map]
            show 2 + wd.length ≤ _
            omega
          · rw [List.length_map]
            rfl
  · refine ⟨by show 1 ≤ sizeLine; decide, fun a ha => ?_⟩
    obtain ⟨k3, t3⟩ := fresh (o := .lst [.int 0]) k1 t1 ha
    refine h.yes [0] r ?_ _ _ j hj hr1 k3 t3 ?_ (one (H' := H1) t1 ha (by show 1 ≤ 100; decide) [0] rfl)
    · rw [em, if_neg c, if_neg c2]
    · rw [upd_ne (ne_of_none hs1 ha)]
      exact hs1

abbrev s_read_row : Stmt := topS 54
theorem sc_read_row : FnScope ["source", "column_count", "column"] ["source", "column_count"] (defScope s_read_row) := ⟨rfl, rfl, rfl, by decide +kernel, rfl, by decide +kernel, by decide +kernel⟩
def sp_read_row (K : PySem.W.Frag) (C CE : Addr) : Sp := fun vs H Q E => ∃ n : Nat, n ≤ 1000 ∧ sp_read K C CE [.int n] (rRow n) (dL dLI) vs H Q E
theorem ok_read_row (T : Tops mg) (C_read_cell : CalX P w K mg base (L2.CX P w) 4 "read_cell" (sp_read K C CE [] rCell dLI)) (F : Fun K "read_row" "read_row" s_read_row f fd) :
    FnOk P w K mg base (L2.CX P w) 5 f fd ["source", "column_count"] (sp_read_row K C CE) := by
  refine F.okX sc_read_row (fun vs H Q E h => ?_) (fun cdv A outer s H vs Q E hr h => ⟨_, (pss_one (ps_ret (pe_lcX rfl rfl (takes_of rfl rfl rfl rfl) (own := [("column", 2)]) rfl sc_read_row.nd (pi_range1 (by rfl) T.n_range (pa_cons (pv 1) pa_nil)) (blkOk_by (N := ["source", "column_count", "column"]) (sc := defScope s_read_row) (by decide +kernel)) (fun _ _ _ _ _ => (pg_name (i := 2) sc_read_row.nd rfl (Or.inl rfl))) (fun _ _ _ _ _ => pts_nil) (fun _ _ _ _ _ => (pe_k C_read_cell hr (by decide) (by rfl) (fun _ => pass_blk) (pa_cons (pv 0) pa_nil)))))), ?_⟩)
  · obtain ⟨n, _, s, dx, q, ns, i, rfl, _⟩ := h
    rfl
  obtain ⟨n, hn, s, dx, q, ns, i, rfl, hs, hq, hl, hil, h⟩ := h
  have sq : q ≠ s := ne_of hq hs (by intro z; cases z)
  refine ⟨_, rfl, _, rfl, by omega, by omega, fun D hD => ?_⟩
  rw [Int.toNat_natCast]
  refine lc_reads (K := K) rCell dLI n (E (.ref CE) none) (by omega) hD hil hs ?_ ?_
  · intro i2 H2 j2 Kt Kf hi2 hj2 k2 t2 hs2 R
    exact ⟨rfl, lc_yes ⟨_, rfl, s, dx, q, ns, j2, rfl, hs2, k2 _ _ hq sq, hl, hj2, R⟩⟩
  · exact ⟨h.no, fun l r2 e2 v H2 j2 hj2 hr2 k2 t2 hs2 dv ev _ => h.yes l r2 e2 _ H2 j2 hj2 hr2 k2 t2 hs2 (by rw [← ev]; exact dv)⟩
end
end MR

namespace MR
open PySem PySem.Spec PyProof.Rows L2
theorem rNames_some {x r : List Int} {l : List (List Int)} (h : rNames x = some (l, r)) : l.length ≤ 5 := by
  unfold rNames at h
  cases e : rInt 1 5 x with
  | none => rw [e] at h; cases h
  | some u =>
    obtain ⟨z, r'⟩ := u
    rw [e] at h
    have := rInt_some e
    have := rNamesN_len h
    omega
section
variable {P : Program} {w : World} {K : PySem.W.Frag} {mg : Str → Option Value} {base : Heap} {f : Addr} {fd : FuncData} {C CE CT : Addr}
abbrev s_read_table : Stmt := topS 51
theorem sc_read_table : FnScope ["numbers", "source", "names", "row_count", "rows", "row"] ["numbers"] (defScope s_read_table) := ⟨rfl, rfl, rfl, by decide +kernel, rfl, by decide +kernel, by decide +kernel⟩
def sp_read_table (K : PySem.W.Frag) (CE CT : Addr) : Sp := fun vs H Q E => ∃ (a : Addr) (ns : List Int), vs = [.ref a] ∧ H a = some (.lst (ns.map V.int)) ∧ ns.length ≤ 1000 ∧
  (rTable ns = none → ∀ H', Same H H' → E (.ref CE) none H') ∧
  ∀ nm rw_, rTable ns = some (nm, rw_) → ∀ t dx u v H', Same H H' → H t = none → H' t = some (.ins CT dx (tabF u v)) → Dp K (nw H H') u (dL dLI nm) → Dp K (nw H H') v (dL (dL dLI) rw_) → Q (.ref t) H'
theorem ok_read_table (T : Tops mg) (S : SrcC K C) (C_TableNumbers : MakX P w K mg base CX0 1 "TableNumbers" C (sp_src_init C)) (C_Table : MakX P w K mg base CX0 1 "Table" CT (sp_tab_init CT))
    (C_TableNumbers_take : MetX P w K mg base (L2.CX P w) 2 C "take" (sp_take K C CE)) (C_TableNumbers_is_over : MetX P w K mg base CX0 1 C "is_over" (sp_is_over K C))
    (C_read_names : CalX P w K mg base (L2.CX P w) 5 "read_names" (sp_read K C CE [] rNames (dL dLI))) (C_read_row : CalX P w K mg base (L2.CX P w) 5 "read_row" (sp_read_row K C CE))
    (X_NotTable : ErrX K mg "NotTable" CE) (F : Fun K "read_table" "read_table" s_read_table f fd) :
    FnOk P w K mg base (L2.CX P w) 6 f fd ["numbers"] (sp_read_table K CE CT) := by
  refine F.okX sc_read_table (fun vs H Q E h => ?_) (fun cdv A outer s H vs Q E hr h => ⟨_, (pss_cons (ps_set (i := 1) sc_read_table.nd rfl (Or.inr rfl) (pe_n C_TableNumbers hr (by decide) (by rfl) pass0 (pa_cons (pv 0) pa_nil)))
  (pss_cons (ps_set (i := 2) sc_read_table.nd rfl (Or.inr rfl) (pe_k C_read_names hr (by decide) (by rfl) (loud (takes_of rfl rfl rfl rfl)) (pa_cons (pv 1) pa_nil)))
  (pss_cons (ps_set (i := 3) sc_read_table.nd rfl (Or.inl rfl) (pe_m (pv 1) C_TableNumbers_take hr (by decide) (loud (takes_of rfl rfl rfl rfl)) (pa_cons pe_int (pa_cons (pe_gi (by rfl) T.i_MOST_ROWS) pa_nil))))
  (pss_cons (ps_setLcX (i := 4) (own := [("row", 5)]) rfl rfl (takes_of rfl rfl rfl rfl) rfl sc_read_table.nd rfl rfl (sw_true rfl rfl rfl (by decide +kernel)) (pi_range1 (by rfl) T.n_range (pa_cons (pv 3) pa_nil)) (blkOk_by (N := ["numbers", "source", "names", "row_count", "rows", "row"]) (sc := defScope s_read_table) (by decide +kernel)) (fun _ _ _ _ _ => (pg_name (i := 5) sc_read_table.nd rfl (Or.inl rfl))) (fun _ _ _ _ _ => pts_nil) (fun _ _ _ _ _ => (pe_k C_read_row hr (by decide) (by rfl) (fun _ => pass_blk) (pa_cons (pv 1) (pa_cons (pe_callB (lenK K) (by rfl) T.n_len PySem.boot_len (pa_cons (pv 2) pa_nil)) pa_nil)))))
  (pss_cons (ps_if (pt_not (pt_val (pe_m0 (pv 1) C_TableNumbers_is_over hr (by decide) (fun _ => quiet))))
   (pss_one (ps_raise rfl (takes_of rfl rfl rfl rfl) (pmk_own0 PySem.F.excBase_Exception X_NotTable.q X_NotTable.g X_NotTable.kp (raises_own X_NotTable.b X_NotTable.t) (by rfl)))) pss_nil)
  (pss_one (ps_ret (pe_n C_Table hr (by decide) (by rfl) pass0 (pa_cons (pv 2) (pa_cons (pv 4) pa_nil)))))))))), ?_⟩)
  · obtain ⟨a, ns, rfl, _⟩ := h
    rfl
  obtain ⟨a, ns, rfl, ha, hl, hno, hyes⟩ := h
  refine ⟨_, rfl, fun x dx nx ndx ne => ?_⟩
  have s0 : ∀ {G : HO}, Same H (upd (upd H dx (.own x)) x G) := fun {G} b o e => by
    rw [upd_ne (ne_of_none e nx), upd_ne (ne_of_none e ndx)]
    exact e
  refine ⟨x, dx, a, rfl, upd_same, rfl, ?_⟩
  rw [upd_upd]
  generalize hH0 : upd (upd H dx (.own x)) x (.ins C dx (srcF a 0)) = H0
  have s0 : Same H H0 := hH0 ▸ s0
  have hx0 : H0 x = some (.ins C dx (srcF a 0)) := by rw [← hH0]; exact upd_same
  -- what is kept but the source
  have sm : ∀ {H'}, Kp (· = x) H0 H' → Same H H' := fun {H'} k b o e => k b o (s0 b o e) (ne_of_none e nx)
  have ax : a ≠ x := ne_of_none ha nx
  refine ⟨_, rfl, x, dx, a, ns, 0, rfl, hx0, s0 _ _ ha, hl, Nat.zero_le _, ⟨fun e H1 k1 t1 => ?_, fun nm r e v H1 j hj hr1 k1 t1 hs1 dv => ?_⟩⟩
  · refine hno ?_ H1 (sm k1)
    unfold rTable
    rw [show rNames ns = none from e]
    rfl
  have em1 : rNames ns = some (nm, r) := e
  have hnl := rNames_some e
  refine ⟨_, rfl, x, dx, _, rfl, hs1, rfl, 0, 12, x, dx, a, ns, j, rfl, hs1, k1 _ _ (s0 _ _ ha) ax, hl, hj, ⟨fun e2 H2 k2 t2 => ?_, fun c r2 e2 v2 H2 j2 hj2 hr2 k2 t2 hs2 dv2 => ?_⟩⟩
  · refine hno ?_ H2 (sm (k1.trans k2))
    unfold rTable
    rw [em1, Option.bind_some, ← hr1, e2]
    rfl
  cases dv2
  have hc := rInt_some e2
  obtain ⟨pn, xn, ev, hpn, hxn⟩ := Dp.list dv
  have nS : ∀ b, b = x → H0 b ≠ none := fun b z => by rw [z, hx0]; exact fun q => nomatch q
  refine ⟨_, rfl, c, rfl, by omega, by omega, fun D hD => ?_⟩
  have dvu : ∀ {H'}, Kp (· = x) H2 H' → Dp K (nw H0 H') v (dL dLI nm) := fun {H'} k => dmono (nw_right (k2.trans k) nS) dv
  refine lc_reads (K := K) (rRow nm.length) (dL dLI) c.toNat (E (.ref CE) none) (by omega) hD hj2 hs2 ?_ ?_
  · intro i3 H3 j3 Kt Kf hi3 hj3 k3 t3 hs3 R
    subst ev
    have hpn3 := nw_in.seq (show SqL K (nw H0 H3) pn xn from by
      have z := dvu k3
      exact (nw_right (k2.trans k3) nS).seq hpn)
    refine ⟨rfl, lc_yes ⟨_, rfl, _, rfl, pn, xn, rfl, .inl hpn3, ?_⟩⟩
    have exl : xn.length = nm.length := by rw [DpAll.length hxn, List.length_map]
    rw [exl]
    exact ⟨nm.length, by omega, x, dx, a, ns, j3, rfl, hs3, k3 _ _ (k2 _ _ (k1 _ _ (s0 _ _ ha) ax) ax) ax, hl, hj3, R⟩
  refine ⟨fun e3 H3 k3 t3 => hno ?_ H3 (sm ((k1.trans k2).trans k3)), fun rws r3 e3 v3 H3 j3 hj3 hr3 k3 t3 hs3 dv3 ev3 _ => ?_⟩
  · unfold rTable
    rw [em1, Option.bind_some, ← hr1, e2, Option.bind_some, ← hr2, e3]
    rfl
  have em : rTable ns = if r3 = [] then some (nm, rws) else none := by
    unfold rTable
    rw [em1, Option.bind_some, ← hr1, e2, Option.bind_some, ← hr2, e3]
    rfl
  subst ev3
  have k13 := (k1.trans k2).trans k3
  refine ⟨_, rfl, x, dx, _, rfl, hs3, rfl, x, dx, a, ns, j3, rfl, hs3, k13 _ _ (s0 _ _ ha) ax, _, rfl, ?_⟩
  have er : r3 = [] ↔ j3 = ns.length := by
    rw [← hr3]
    constructor
    · intro z
      have := congrArg List.length z
      rw [List.length_drop] at this
      simp at this
      omega
    · intro z
      rw [z, List.drop_length]
  by_cases c3 : j3 = ns.length
  · rw [decide_eq_true c3]
    refine iteF ⟨_, rfl, _, rfl, fun t dt nt ndt net => ⟨t, dt, _, _, rfl, upd_same, rfl, ?_⟩⟩
    rw [upd_upd]
    have s4 : Same H3 (upd (upd H3 dt (.own t)) t (.ins CT dt (tabF v (.ref D)))) := fun b o e => by
      rw [upd_ne (ne_of_none e nt), upd_ne (ne_of_none e ndt)]
      exact e
    have s03 := sm k13
    refine hyes nm rws (by rw [em, if_pos (er.mpr c3)]) t dt v (.ref D) _ (s03.trans s4) (s03.free nt) upd_same ?_ ?_
    · exact dmono (nw_right0 s4) (dmono (nw_left (Same.tk s0)) (dvu k3))
    · exact dmono (nw_right0 s4) (dmono (nw_left (Same.tk (sm (k1.trans k2)))) dv3)
  · rw [decide_eq_false c3]
    refine iteT (hno ?_ H3 (sm k13))
    rw [em, if_neg fun z => c3 (er.mp z)]
end
end MR

/-! The program's reading of a table is the specification's. -/
namespace MR
open VatdfBase (Cell Row Table Bytes)
theorem snoc_of {α : Type} {l : List α} {n : Nat} (h : l.length = n + 1) : ∃ l1 a, l = l1 ++ [a] := by
  refine ⟨l.take n, l[n]'(by omega), ?_⟩
  have e : l.drop n = [l[n]'(by omega)] := by
    rw [List.drop_eq_getElem_cons (by omega), List.drop_of_length_le (by omega)]
  rw [← e, List.take_append_drop]
/-- rd reads just what enc writes of the good ones -/
def Dec {α : Type} (rd : List Int → Option (α × List Int)) (enc : α → List Int) (ok : α → Prop) : Prop := ∀ x a r, rd x = some (a, r) ↔ ok a ∧ x = enc a ++ r
theorem dec_rInt (lo hi : Int) : Dec (rInt lo hi) (fun z => [z]) (fun z => lo ≤ z ∧ z ≤ hi) := by
  intro x a r
  constructor
  · intro h
    refine ⟨rInt_some h, ?_⟩
    cases x with
    | nil => cases h
    | cons y r' =>
      have h2 : (if lo ≤ y ∧ y ≤ hi then some (y, r') else none) = some (a, r) := h
      by_cases c : lo ≤ y ∧ y ≤ hi
      · rw [if_pos c] at h2
        cases h2
        rfl
      · rw [if_neg c] at h2
        cases h2
  · rintro ⟨c, rfl⟩
    exact if_pos c
theorem rInt_head {lo hi z : Int} {r : List Int} (h : lo ≤ z ∧ z ≤ hi) : rInt lo hi (z :: r) = some (z, r) := if_pos h
theorem dec_rTimes {α : Type} {rd : Rdr α} {enc : α → List Int} {ok : α → Prop} (d : Dec rd enc ok) : ∀ n, Dec (rTimes rd n) (fun l => l.flatMap enc) (fun l => l.length = n ∧ ∀ a ∈ l, ok a)
  | 0, x, l, r => by
    constructor
    · intro h
      cases h
      exact ⟨⟨rfl, fun a h => by simp at h⟩, rfl⟩
    · rintro ⟨⟨h1, _⟩, h2⟩
      have : l = [] := List.length_eq_zero_iff.mp h1
      subst this
      rw [h2]
      rfl
  | n + 1, x, l, r => by
    have ih := dec_rTimes d n
    constructor
    · intro h
      unfold rTimes at h
      cases e : rTimes rd n x with
      | none => rw [e] at h; cases h
      | some u =>
        obtain ⟨u1, u2⟩ := u
        rw [e, Option.bind_some] at h
        cases e2 : rd u2 with
        | none => simp [e2] at h
        | some v =>
          obtain ⟨v1, v2⟩ := v
          simp only [e2, Option.map_some, Option.some.injEq, Prod.mk.injEq] at h
          obtain ⟨h1, h2⟩ := h
          subst h1
          subst h2
          obtain ⟨⟨l1, o1⟩, x1⟩ := (ih x u1 u2).mp e
          obtain ⟨o2, x2⟩ := (d u2 v1 v2).mp e2
          refine ⟨⟨by rw [List.length_append, l1]; rfl, fun a ha => ?_⟩, ?_⟩
          · rcases List.mem_append.mp ha with q | q
            · exact o1 a q
            · rw [List.mem_singleton.mp q]
              exact o2
          · rw [x1, x2]
            simp
    · rintro ⟨⟨h1, h2⟩, h3⟩
      obtain ⟨l1, a, rfl⟩ := snoc_of h1
      have e1 : rTimes rd n x = some (l1, enc a ++ r) := (ih x l1 (enc a ++ r)).mpr ⟨⟨by rw [List.length_append] at h1; exact Nat.succ.inj h1, fun b hb => h2 b (List.mem_append_left _ hb)⟩, by rw [h3]; simp⟩
      have e2 : rd (enc a ++ r) = some (a, r) := (d _ a r).mpr ⟨h2 a (List.mem_append_right _ List.mem_cons_self), rfl⟩
      unfold rTimes
      rw [e1, Option.bind_some, e2]
      rfl
/-- a number, then what it tells -/
theorem dec_bind {α β : Type} {rd : Rdr α} {enc : α → List Int} {ok : α → Prop} (d : Dec rd enc ok) {rd2 : α → Rdr β} {enc2 : β → List Int} {ok2 : α → β → Prop} (d2 : ∀ a, ok a → Dec (rd2 a) enc2 (ok2 a)) (x : List Int) (b : β) (r : List Int) :
    ((rd x).bind fun u => rd2 u.1 u.2) = some (b, r) ↔ ∃ a, ok a ∧ ok2 a b ∧ x = enc a ++ (enc2 b ++ r) := by
  constructor
  · intro h
    cases e : rd x with
    | none => rw [e] at h; cases h
    | some u =>
      obtain ⟨a, y⟩ := u
      rw [e, Option.bind_some] at h
      obtain ⟨o1, e1⟩ := (d x a y).mp e
      obtain ⟨o2, e2⟩ := (d2 a o1 y b r).mp h
      exact ⟨a, o1, o2, by rw [e1, e2]⟩
  · rintro ⟨a, o1, o2, rfl⟩
    rw [(d _ a _).mpr ⟨o1, rfl⟩, Option.bind_some]
    exact (d2 a o1 _ b r).mpr ⟨o2, rfl⟩
def okB (w : List Int) : Prop := 1 ≤ w.length ∧ w.length ≤ 8 ∧ ∀ z ∈ w, 32 ≤ z ∧ z ≤ 126
def encB (w : List Int) : List Int := (w.length : Int) :: w
theorem flatMap_one (w : List Int) : w.flatMap (fun z => [z]) = w := by
  induction w with
  | nil => rfl
  | cons a w ih => rw [List.flatMap_cons, ih]; rfl
theorem dec_rBytes : Dec rBytes encB okB := by
  intro x w r
  unfold rBytes
  rw [dec_bind (dec_rInt 1 8) (rd2 := fun n => rTimes (rInt 32 126) n.toNat) fun n _ => dec_rTimes (dec_rInt 32 126) n.toNat]
  constructor
  · rintro ⟨n, h1, ⟨h2, h3⟩, h4⟩
    have : n = (w.length : Int) := by omega
    subst this
    refine ⟨⟨by omega, by omega, h3⟩, ?_⟩
    rw [h4, flatMap_one]
    rfl
  · rintro ⟨⟨h1, h2, h3⟩, h4⟩
    refine ⟨(w.length : Int), by omega, ⟨by omega, h3⟩, ?_⟩
    rw [h4, flatMap_one]
    rfl
theorem dec_rName : Dec rName encB (fun w => okB w ∧ goodName w = true) := by
  intro x w r
  unfold rName
  constructor
  · intro h
    cases e : rBytes x with
    | none => rw [e] at h; cases h
    | some u =>
      rw [e, Option.bind_some] at h
      by_cases c : goodName u.1 = true
      · rw [if_pos c] at h
        cases h
        obtain ⟨h1, h2⟩ := (dec_rBytes x w r).mp e
        exact ⟨⟨h1, c⟩, h2⟩
      · rw [if_neg c] at h
        cases h
  · rintro ⟨⟨h1, h2⟩, h3⟩
    rw [(dec_rBytes x w r).mpr ⟨h1, h3⟩, Option.bind_some, if_pos h2]
theorem dec_rNamesN : ∀ n, Dec (rNamesN n) (fun l => l.flatMap encB) (fun l => l.length = n ∧ (∀ w ∈ l, okB w ∧ goodName w = true) ∧ l.Nodup)
  | 0, x, l, r => by
    constructor
    · intro h
      cases h
      exact ⟨⟨rfl, (fun w h => by simp at h), List.nodup_nil⟩, rfl⟩
    · rintro ⟨⟨h1, _, _⟩, h2⟩
      have : l = [] := List.length_eq_zero_iff.mp h1
      subst this
      rw [h2]
      rfl
  | n + 1, x, l, r => by
    have ih := dec_rNamesN n
    constructor
    · intro h
      unfold rNamesN at h
      cases e : rNamesN n x with
      | none => rw [e] at h; cases h
      | some u =>
        obtain ⟨u1, u2⟩ := u
        rw [e, Option.bind_some] at h
        cases e2 : rName u2 with
        | none => rw [e2] at h; cases h
        | some v =>
          obtain ⟨v1, v2⟩ := v
          rw [e2, Option.bind_some] at h
          by_cases c : u1.contains v1 = true
          · rw [if_pos c] at h; cases h
          rw [if_neg c] at h
          simp only [Option.some.injEq, Prod.mk.injEq] at h
          obtain ⟨h1, h2⟩ := h
          subst h1
          subst h2
          obtain ⟨⟨l1, o1, n1⟩, x1⟩ := (ih x u1 u2).mp e
          obtain ⟨o2, x2⟩ := (dec_rName u2 v1 v2).mp e2
          refine ⟨⟨by rw [List.length_append, l1]; rfl, fun a ha => ?_, ?_⟩, ?_⟩
          · rcases List.mem_append.mp ha with q | q
            · exact o1 a q
            · rw [List.mem_singleton.mp q]
              exact o2
          · rw [List.nodup_append]
            refine ⟨n1, by simp, fun a ha b hb e => c ?_⟩
            rw [List.mem_singleton.mp hb] at e
            rw [← e]
            simpa using ha
          · rw [x1, x2]
            simp
    · rintro ⟨⟨h1, h2, h4⟩, h3⟩
      obtain ⟨l1, a, rfl⟩ := snoc_of h1
      rw [List.nodup_append] at h4
      have e1 : rNamesN n x = some (l1, encB a ++ r) := (ih x l1 (encB a ++ r)).mpr ⟨⟨by rw [List.length_append] at h1; exact Nat.succ.inj h1, fun b hb => h2 b (List.mem_append_left _ hb), h4.1⟩, by rw [h3]; simp⟩
      have e2 : rName (encB a ++ r) = some (a, r) := (dec_rName _ a r).mpr ⟨h2 a (List.mem_append_right _ List.mem_cons_self), rfl⟩
      have c : ¬ l1.contains a = true := fun z => h4.2.2 a (by simpa using z) a List.mem_cons_self rfl
      unfold rNamesN
      rw [e1, Option.bind_some, e2, Option.bind_some, if_neg c]
def okN (l : List (List Int)) : Prop := 1 ≤ l.length ∧ l.length ≤ 5 ∧ (∀ w ∈ l, okB w ∧ goodName w = true) ∧ l.Nodup
def encN (l : List (List Int)) : List Int := (l.length : Int) :: l.flatMap encB
theorem dec_rNames : Dec rNames encN okN := by
  intro x l r
  unfold rNames
  rw [dec_bind (dec_rInt 1 5) (rd2 := fun n => rNamesN n.toNat) fun n _ => dec_rNamesN n.toNat]
  constructor
  · rintro ⟨n, h1, ⟨h2, h3, h5⟩, h4⟩
    have : n = (l.length : Int) := by omega
    subst this
    exact ⟨⟨by omega, by omega, h3, h5⟩, h4⟩
  · rintro ⟨⟨h1, h2, h3, h5⟩, h4⟩
    exact ⟨(l.length : Int), by omega, ⟨by omega, h3, h5⟩, h4⟩
/-- the numbers of a good cell -/
def okC (c : List Int) : Prop := c = [0] ∨ (∃ z, -1000000 ≤ z ∧ z ≤ 1000000 ∧ c = [1, z]) ∨ ∃ w, okB w ∧ c = 2 :: encB w
theorem dec_rCell : Dec rCell id okC := by
  intro x c r
  unfold rCell
  constructor
  · intro h
    cases e : rInt 0 2 x with
    | none => rw [e] at h; cases h
    | some u =>
      obtain ⟨k, y⟩ := u
      obtain ⟨hk, rfl⟩ := (dec_rInt 0 2 x k y).mp e
      rw [e, Option.bind_some] at h
      by_cases c1 : k = 1
      · rw [if_pos c1] at h
        cases e2 : rInt (-1000000) 1000000 y with
        | none => simp [e2] at h
        | some v =>
          obtain ⟨z, y2⟩ := v
          obtain ⟨hz, rfl⟩ := (dec_rInt _ _ y z y2).mp e2
          simp only [e2, Option.map_some, Option.some.injEq, Prod.mk.injEq] at h
          obtain ⟨rfl, rfl⟩ := h
          exact ⟨.inr (.inl ⟨z, hz.1, hz.2, rfl⟩), by rw [c1]; rfl⟩
      · rw [if_neg c1] at h
        by_cases c2 : k = 2
        · rw [if_pos c2] at h
          cases e2 : rBytes y with
          | none => simp [e2] at h
          | some v =>
            obtain ⟨w, y2⟩ := v
            obtain ⟨hw, rfl⟩ := (dec_rBytes y w y2).mp e2
            simp only [e2, Option.map_some, Option.some.injEq, Prod.mk.injEq] at h
            obtain ⟨rfl, rfl⟩ := h
            exact ⟨.inr (.inr ⟨w, hw, rfl⟩), by rw [c2]; rfl⟩
        · rw [if_neg c2] at h
          cases h
          exact ⟨.inl rfl, by rw [show k = 0 from by omega]; rfl⟩
  · rintro ⟨h, rfl⟩
    rcases h with rfl | ⟨z, h1, h2, rfl⟩ | ⟨w, hw, rfl⟩
    · have e : rInt 0 2 (0 :: r) = some (0, r) := rInt_head (by decide)
      show ((rInt 0 2 (0 :: r)).bind _) = _
      rw [e, Option.bind_some, if_neg (by show ¬ (0 : Int) = 1; decide), if_neg (by show ¬ (0 : Int) = 2; decide)]
    · have e : rInt 0 2 (1 :: z :: r) = some (1, z :: r) := rInt_head (by decide)
      show ((rInt 0 2 (1 :: z :: r)).bind _) = _
      rw [e, Option.bind_some, if_pos rfl]
      show ((rInt (-1000000) 1000000 ([z] ++ r)).map _) = _
      rw [(dec_rInt _ _ _ z r).mpr ⟨⟨h1, h2⟩, rfl⟩]
      rfl
    · have e : rInt 0 2 (2 :: (encB w ++ r)) = some (2, encB w ++ r) := rInt_head (by decide)
      show ((rInt 0 2 (2 :: (encB w ++ r))).bind _) = _
      rw [e, Option.bind_some, if_neg (by show ¬ (2 : Int) = 1; decide), if_pos rfl]
      show ((rBytes (encB w ++ r)).map _) = _
      rw [(dec_rBytes _ w r).mpr ⟨hw, rfl⟩]
      rfl
/-- the numbers of a good table -/
def okT (nm : List (List Int)) (rows : List (List (List Int))) : Prop := okN nm ∧ rows.length ≤ 12 ∧ ∀ r ∈ rows, r.length = nm.length ∧ ∀ c ∈ r, okC c
def encT (nm : List (List Int)) (rows : List (List (List Int))) : List Int := encN nm ++ ((rows.length : Int) :: rows.flatMap fun r => r.flatMap id)
theorem rTable_iff (x : List Int) (nm : List (List Int)) (rows : List (List (List Int))) : rTable x = some (nm, rows) ↔ okT nm rows ∧ x = encT nm rows := by
  unfold rTable
  constructor
  · intro h
    cases e : rNames x with
    | none => rw [e] at h; cases h
    | some u =>
      obtain ⟨nm', y⟩ := u
      obtain ⟨hn, rfl⟩ := (dec_rNames x nm' y).mp e
      rw [e, Option.bind_some] at h
      cases e2 : rInt 0 12 y with
      | none => rw [e2] at h; cases h
      | some v =>
        obtain ⟨k, y2⟩ := v
        obtain ⟨hk, rfl⟩ := (dec_rInt 0 12 y k y2).mp e2
        rw [e2, Option.bind_some] at h
        cases e3 : rTimes (rRow nm'.length) k.toNat y2 with
        | none => rw [e3] at h; cases h
        | some v =>
          obtain ⟨rs, y3⟩ := v
          obtain ⟨⟨hl, hr⟩, rfl⟩ := (dec_rTimes (dec_rTimes dec_rCell nm'.length) k.toNat y2 rs y3).mp e3
          rw [e3, Option.bind_some] at h
          by_cases c : y3 = []
          · rw [if_pos c] at h
            simp only [Option.some.injEq, Prod.mk.injEq] at h
            obtain ⟨h1, h2⟩ := h
            subst h1
            subst h2
            refine ⟨⟨hn, by omega, hr⟩, ?_⟩
            rw [c]
            have : k = (rs.length : Int) := by omega
            rw [this]
            simp [encT]
          · rw [if_neg c] at h
            cases h
  · rintro ⟨⟨hn, hl, hr⟩, rfl⟩
    unfold encT
    rw [(dec_rNames _ nm _).mpr ⟨hn, rfl⟩, Option.bind_some]
    have e1 : rInt 0 12 ((rows.length : Int) :: rows.flatMap fun r => r.flatMap id) = some ((rows.length : Int), rows.flatMap fun r => r.flatMap id) := rInt_head (by omega)
    rw [e1, Option.bind_some]
    have e2 : rTimes (rRow nm.length) (rows.length : Int).toNat (rows.flatMap fun r => r.flatMap id) = some (rows, []) := (dec_rTimes (dec_rTimes dec_rCell nm.length) _ _ rows []).mpr ⟨⟨by omega, hr⟩, by rw [List.append_nil]⟩
    show ((rTimes (rRow nm.length) (rows.length : Int).toNat (rows.flatMap fun r => r.flatMap id)).bind _) = _
    rw [e2, Option.bind_some]
    exact if_pos rfl
end MR

namespace MR
open VatdfBase (Cell Row Table Bytes)
abbrev nI (n : Nat) : Int := (n : Int)
theorem decS_nat (l m : Nat) : Dec (VatdfFlat.readNat l m) (fun n => [(n : Int)]) (fun n => l ≤ n ∧ n ≤ m) := by
  intro x a r
  cases x with
  | nil =>
    constructor
    · intro h
      cases h
    · rintro ⟨_, h⟩
      cases h
  | cons z x =>
    have e : VatdfFlat.readNat l m (z :: x) = if (l : Int) ≤ z ∧ z ≤ (m : Int) then some (z.toNat, x) else none := rfl
    rw [e]
    constructor
    · intro h
      by_cases c : (l : Int) ≤ z ∧ z ≤ (m : Int)
      · rw [if_pos c] at h
        simp only [Option.some.injEq, Prod.mk.injEq] at h
        obtain ⟨h1, h2⟩ := h
        subst h1
        subst h2
        refine ⟨by omega, ?_⟩
        show z :: x = [(z.toNat : Int)] ++ x
        rw [show (z.toNat : Int) = z from by omega]
        rfl
      · rw [if_neg c] at h
        cases h
    · rintro ⟨c, h⟩
      have h : z :: x = (a : Int) :: r := h
      obtain ⟨h1, h2⟩ := List.cons.inj h
      subst h1
      subst h2
      rw [if_pos (by omega)]
      simp
theorem decS_times {α : Type} {rd : List Int → Option (α × List Int)} {enc : α → List Int} {ok : α → Prop} (d : Dec rd enc ok) : ∀ n, Dec (VatdfFlat.readTimes rd n) (fun l => l.flatMap enc) (fun l => l.length = n ∧ ∀ a ∈ l, ok a)
  | 0, x, l, r => by
    constructor
    · intro h
      cases h
      exact ⟨⟨rfl, fun a h => by simp at h⟩, rfl⟩
    · rintro ⟨⟨h1, _⟩, h2⟩
      have : l = [] := List.length_eq_zero_iff.mp h1
      subst this
      rw [h2]
      rfl
  | n + 1, x, l, r => by
    have ih := decS_times d n
    constructor
    · intro h
      have h : ((rd x).bind fun u => (VatdfFlat.readTimes rd n u.2).map fun v => (u.1 :: v.1, v.2)) = some (l, r) := h
      cases e : rd x with
      | none => rw [e] at h; cases h
      | some u =>
        obtain ⟨u1, u2⟩ := u
        rw [e, Option.bind_some] at h
        cases e2 : VatdfFlat.readTimes rd n u2 with
        | none => simp [e2] at h
        | some v =>
          obtain ⟨v1, v2⟩ := v
          simp only [e2, Option.map_some, Option.some.injEq, Prod.mk.injEq] at h
          obtain ⟨h1, h2⟩ := h
          subst h1
          subst h2
          obtain ⟨o1, x1⟩ := (d x u1 u2).mp e
          obtain ⟨⟨l2, o2⟩, x2⟩ := (ih u2 v1 v2).mp e2
          refine ⟨⟨by rw [List.length_cons, l2], fun a ha => ?_⟩, ?_⟩
          · rcases List.mem_cons.mp ha with q | q
            · rw [q]
              exact o1
            · exact o2 a q
          · rw [x1, x2]
            simp
    · rintro ⟨⟨h1, h2⟩, h3⟩
      cases l with
      | nil => cases h1
      | cons a l =>
        have e1 : rd x = some (a, l.flatMap enc ++ r) := (d x a _).mpr ⟨h2 a List.mem_cons_self, by rw [h3]; simp⟩
        have e2 : VatdfFlat.readTimes rd n (l.flatMap enc ++ r) = some (l, r) := (ih _ l r).mpr ⟨⟨Nat.succ.inj h1, fun b hb => h2 b (List.mem_cons_of_mem _ hb)⟩, rfl⟩
        show ((rd x).bind fun u => (VatdfFlat.readTimes rd n u.2).map fun v => (u.1 :: v.1, v.2)) = some (a :: l, r)
        rw [e1, Option.bind_some, e2]
        rfl
theorem decS_listed {α : Type} {rd : List Int → Option (α × List Int)} {enc : α → List Int} {ok : α → Prop} (d : Dec rd enc ok) (least most : Nat) :
    Dec (VatdfFlat.readListed least most rd) (fun l => (l.length : Int) :: l.flatMap enc) (fun l => least ≤ l.length ∧ l.length ≤ most ∧ ∀ a ∈ l, ok a) := by
  intro x l r
  have e : VatdfFlat.readListed least most rd x = ((VatdfFlat.readNat least most x).bind fun u => VatdfFlat.readTimes rd u.1 u.2) := rfl
  rw [e, dec_bind (decS_nat least most) (rd2 := fun n => VatdfFlat.readTimes rd n) fun n _ => decS_times d n]
  constructor
  · rintro ⟨n, h1, ⟨h2, h3⟩, h4⟩
    subst h2
    exact ⟨⟨h1.1, h1.2, h3⟩, h4⟩
  · rintro ⟨⟨h1, h2, h3⟩, h4⟩
    exact ⟨l.length, ⟨h1, h2⟩, ⟨rfl, h3⟩, h4⟩
theorem fm_nat (w : List Nat) : w.flatMap (fun n : Nat => [(n : Int)]) = w.map fun n : Nat => (n : Int) := by
  induction w with
  | nil => rfl
  | cons a w ih => rw [List.flatMap_cons, ih]; rfl
theorem decS_bytes (most : Nat) : Dec (VatdfFlat.readBytes most) VatdfFlat.flatBytes (fun w => 1 ≤ w.length ∧ w.length ≤ most ∧ ∀ b ∈ w, b ≤ 255) := by
  intro x w r
  have h := decS_listed (decS_nat 0 255) 1 most x w r
  have e : (w.length : Int) :: w.flatMap (fun n : Nat => [(n : Int)]) = VatdfFlat.flatBytes w := by
    rw [fm_nat w]
    rfl
  have h : VatdfFlat.readListed 1 most (VatdfFlat.readNat 0 255) x = some (w, r) ↔ (1 ≤ w.length ∧ w.length ≤ most ∧ ∀ a ∈ w, 0 ≤ a ∧ a ≤ 255) ∧ x = ((w.length : Int) :: w.flatMap (fun n : Nat => [(n : Int)])) ++ r := h
  rw [e] at h
  show VatdfFlat.readListed 1 most (VatdfFlat.readNat 0 255) x = some (w, r) ↔ _
  rw [h]
  constructor
  · rintro ⟨⟨h1, h2, h3⟩, h4⟩
    exact ⟨⟨h1, h2, fun b hb => (h3 b hb).2⟩, h4⟩
  · rintro ⟨⟨h1, h2, h3⟩, h4⟩
    exact ⟨⟨h1, h2, fun b hb => ⟨Nat.zero_le _, h3 b hb⟩⟩, h4⟩
theorem isWord_iff (w : Bytes) : VatdfBase.isWord w = true ↔ 1 ≤ w.length ∧ w.length ≤ 8 ∧ ∀ b ∈ w, 32 ≤ b ∧ b ≤ 126 := by
  unfold VatdfBase.isWord
  simp only [Bool.and_eq_true, decide_eq_true_eq, List.all_eq_true]
  exact Iff.rfl
theorem readCell_num (z : Int) (r : List Int) : VatdfFlat.readCell (1 :: z :: r) = if VatdfBase.isCell (.num z) = true then some (.num z, r) else none := rfl
theorem readCell_word (r : List Int) : VatdfFlat.readCell (2 :: r) = (VatdfFlat.readBytes VatdfBase.WORD r).bind fun u => if VatdfBase.isWord u.1 = true then some (.word u.1, u.2) else none := rfl
theorem decS_cell : Dec VatdfFlat.readCell VatdfFlat.flatCell (fun c => VatdfBase.isCell c = true) := by
  intro x c r
  constructor
  · intro h
    match x with
    | [] => cases h
    | k :: y =>
      by_cases c0 : k = 0
      · subst c0
        have h : some (Cell.empty, y) = some (c, r) := h
        simp only [Option.some.injEq, Prod.mk.injEq] at h
        obtain ⟨h1, h2⟩ := h
        subst h1
        subst h2
        exact ⟨rfl, rfl⟩
      · by_cases c1 : k = 1
        · subst c1
          match y with
          | [] => cases h
          | z :: y =>
            rw [readCell_num] at h
            by_cases cz : VatdfBase.isCell (.num z) = true
            · rw [if_pos cz] at h
              simp only [Option.some.injEq, Prod.mk.injEq] at h
              obtain ⟨h1, h2⟩ := h
              subst h1
              subst h2
              exact ⟨cz, rfl⟩
            · rw [if_neg cz] at h
              cases h
        · by_cases c2 : k = 2
          · subst c2
            rw [readCell_word] at h
            cases e : VatdfFlat.readBytes VatdfBase.WORD y with
            | none => rw [e] at h; cases h
            | some u =>
              obtain ⟨w, y2⟩ := u
              rw [e, Option.bind_some] at h
              by_cases cw : VatdfBase.isWord w = true
              · rw [if_pos cw] at h
                simp only [Option.some.injEq, Prod.mk.injEq] at h
                obtain ⟨h1, h2⟩ := h
                subst h1
                subst h2
                obtain ⟨_, e2⟩ := (decS_bytes _ y w y2).mp e
                exact ⟨cw, by rw [e2]; rfl⟩
              · rw [if_neg cw] at h
                cases h
          · exfalso
            unfold VatdfFlat.readCell at h
            split at h
            · rename_i e
              exact c0 (List.cons.inj e).1
            · rename_i e
              exact c1 (List.cons.inj e).1
            · rename_i e
              exact c2 (List.cons.inj e).1
            · cases h
  · rintro ⟨h, rfl⟩
    cases c with
    | empty => rfl
    | num z =>
      show VatdfFlat.readCell (1 :: z :: r) = _
      rw [readCell_num, if_pos h]
    | word w =>
      have hw : VatdfBase.isWord w = true := h
      obtain ⟨h1, h2, h3⟩ := (isWord_iff w).mp hw
      have e : VatdfFlat.readBytes VatdfBase.WORD (VatdfFlat.flatBytes w ++ r) = some (w, r) := (decS_bytes _ _ w r).mpr ⟨⟨h1, h2, fun b hb => by have := h3 b hb; omega⟩, rfl⟩
      show VatdfFlat.readCell (2 :: (VatdfFlat.flatBytes w ++ r)) = _
      rw [readCell_word, e, Option.bind_some, if_pos hw]
theorem apart_iff {α : Type} [BEq α] [LawfulBEq α] (l : List α) : VatdfBase.apart l = true ↔ l.Nodup := by
  unfold VatdfBase.apart
  rw [List.all_eq_true]
  constructor
  · intro h
    rw [List.nodup_iff_pairwise_ne, List.pairwise_iff_getElem]
    intro i j hi hj hij e
    have := h (l[j], j) (by
      rw [List.mem_iff_getElem?]
      refine ⟨j, ?_⟩
      rw [List.getElem?_zipIdx, List.getElem?_eq_getElem hj]
      simp)
    rw [Bool.not_eq_true', ← Bool.not_eq_true] at this
    apply this
    rw [List.contains_iff_mem]
    rw [List.mem_iff_getElem?]
    refine ⟨i, ?_⟩
    rw [List.getElem?_take, if_pos hij, List.getElem?_eq_getElem hi, e]
  · intro h x hx
    obtain ⟨i, hi⟩ := List.mem_iff_getElem?.mp hx
    rw [List.getElem?_zipIdx] at hi
    cases e : l[i]? with
    | none => rw [e] at hi; cases hi
    | some y =>
      rw [e] at hi
      simp only [Option.map_some, Option.some.injEq, Nat.zero_add] at hi
      subst hi
      rw [Bool.not_eq_true', ← Bool.not_eq_true, List.contains_iff_mem]
      intro q
      obtain ⟨j, hj⟩ := List.mem_iff_getElem?.mp q
      rw [List.getElem?_take] at hj
      by_cases c : j < i
      · rw [if_pos c] at hj
        obtain ⟨hi1, ei⟩ := List.getElem?_eq_some_iff.mp e
        obtain ⟨hj1, ej⟩ := List.getElem?_eq_some_iff.mp hj
        rw [List.nodup_iff_pairwise_ne, List.pairwise_iff_getElem] at h
        exact h j i hj1 hi1 c (ej.trans ei.symm)
      · rw [if_neg c] at hj
        cases hj
theorem isTable_iff (t : Table) : VatdfBase.isTable t = true ↔ (1 ≤ t.names.length ∧ t.names.length ≤ 5 ∧ (∀ w ∈ t.names, VatdfBase.isName w = true) ∧ t.names.Nodup) ∧ t.rows.length ≤ 12 ∧ ∀ r ∈ t.rows, r.length = t.names.length ∧ ∀ c ∈ r, VatdfBase.isCell c = true := by
  unfold VatdfBase.isTable
  simp only [Bool.and_eq_true, decide_eq_true_eq, List.all_eq_true, beq_iff_eq, apart_iff]
  constructor
  · rintro ⟨h1, h2, h3, h4, h5, h6⟩
    exact ⟨⟨h1, h2, h3, h4⟩, h5, h6⟩
  · rintro ⟨⟨h1, h2, h3, h4⟩, h5, h6⟩
    exact ⟨h1, h2, h3, h4, h5, h6⟩
def flatT (t : Table) : List Int := ((t.names.length : Int) :: t.names.flatMap VatdfFlat.flatBytes) ++ ((t.rows.length : Int) :: t.rows.flatMap fun r => r.flatMap VatdfFlat.flatCell)
theorem isName_len {w : Bytes} (h : VatdfBase.isName w = true) : 1 ≤ w.length ∧ w.length ≤ 8 ∧ ∀ b ∈ w, (97 ≤ b ∧ b ≤ 122) ∨ (48 ≤ b ∧ b ≤ 57) := by
  unfold VatdfBase.isName VatdfBase.isSmall VatdfBase.isDigit at h
  simp only [Bool.and_eq_true, decide_eq_true_eq, List.all_eq_true, Bool.or_eq_true] at h
  obtain ⟨h1, h2, h3⟩ := h
  refine ⟨?_, h1, h3⟩
  cases w with
  | nil => simp at h2
  | cons a w => simp
theorem tableOf_iff (x : List Int) (t : Table) : VatdfFlat.tableOf x = some t ↔ VatdfBase.isTable t = true ∧ x = flatT t := by
  have er : VatdfFlat.readTable x = ((VatdfFlat.readListed 1 VatdfBase.COLS (VatdfFlat.readBytes VatdfBase.NAME) x).bind fun n => (VatdfFlat.readListed 0 VatdfBase.ROWS (VatdfFlat.readTimes VatdfFlat.readCell n.1.length) n.2).bind fun r => if VatdfBase.isTable ⟨n.1, r.1⟩ = true then some (⟨n.1, r.1⟩, r.2) else none) := rfl
  have ew : VatdfFlat.tableOf x = some t ↔ VatdfFlat.readTable x = some (t, []) := by
    unfold VatdfFlat.tableOf VatdfFlat.whole
    cases e : VatdfFlat.readTable x with
    | none => simp
    | some u =>
      obtain ⟨u1, u2⟩ := u
      cases u2 with
      | nil => simp
      | cons a u2 => simp
  rw [ew, er]
  constructor
  · intro h
    cases e : VatdfFlat.readListed 1 VatdfBase.COLS (VatdfFlat.readBytes VatdfBase.NAME) x with
    | none => rw [e] at h; cases h
    | some u =>
      obtain ⟨nm, y⟩ := u
      obtain ⟨_, rfl⟩ := (decS_listed (decS_bytes _) _ _ x nm y).mp e
      rw [e, Option.bind_some] at h
      cases e2 : VatdfFlat.readListed 0 VatdfBase.ROWS (VatdfFlat.readTimes VatdfFlat.readCell nm.length) y with
      | none => rw [e2] at h; cases h
      | some v =>
        obtain ⟨rs, y2⟩ := v
        obtain ⟨_, rfl⟩ := (decS_listed (decS_times decS_cell _) _ _ y rs y2).mp e2
        rw [e2, Option.bind_some] at h
        by_cases c : VatdfBase.isTable ⟨nm, rs⟩ = true
        · rw [if_pos c] at h
          simp only [Option.some.injEq, Prod.mk.injEq] at h
          obtain ⟨h1, h2⟩ := h
          subst h1
          subst h2
          refine ⟨c, ?_⟩
          rw [List.append_nil]
          rfl
        · rw [if_neg c] at h
          cases h
  · rintro ⟨h, rfl⟩
    obtain ⟨⟨h1, h2, h3, h4⟩, h5, h6⟩ := (isTable_iff t).mp h
    have e1 : VatdfFlat.readListed 1 VatdfBase.COLS (VatdfFlat.readBytes VatdfBase.NAME) (flatT t) = some (t.names, (t.rows.length : Int) :: t.rows.flatMap fun r => r.flatMap VatdfFlat.flatCell) :=
      (decS_listed (decS_bytes _) _ _ _ _ _).mpr ⟨⟨h1, h2, fun w hw => by obtain ⟨q1, q2, q3⟩ := isName_len (h3 w hw); exact ⟨q1, q2, fun b hb => by have := q3 b hb; omega⟩⟩, rfl⟩
    have e2 : VatdfFlat.readListed 0 VatdfBase.ROWS (VatdfFlat.readTimes VatdfFlat.readCell t.names.length) ((t.rows.length : Int) :: t.rows.flatMap fun r => r.flatMap VatdfFlat.flatCell) = some (t.rows, []) :=
      (decS_listed (decS_times decS_cell _) _ _ _ _ _).mpr ⟨⟨Nat.zero_le _, h5, h6⟩, by rw [List.append_nil]⟩
    rw [e1, Option.bind_some, e2, Option.bind_some, if_pos h]
end MR

namespace MR
open PySem PySem.Spec PyProof.Rows L2
/-- a cell that isn't empty -/
def fullC (c : List Int) : Bool := !decide (c.headD 0 = 0)
section
variable {P : Program} {w : World} {K : PySem.W.Frag} {mg : Str → Option Value} {base : Heap} {f : Addr} {fd : FuncData} {C CE CT : Addr}
abbrev s_is_empty : Stmt := topS 59
theorem sc_is_empty : FnScope ["cell"] ["cell"] (defScope s_is_empty) := ⟨rfl, rfl, rfl, by decide +kernel, rfl, by decide +kernel, by decide +kernel⟩
def sp_is_empty (K : PySem.W.Frag) : Sp := fun vs H Q _ => ∃ v c, vs = [v] ∧ Dp K H v (dLI c) ∧ c ≠ [] ∧ Q (.bl (!fullC c)) H
theorem ok_is_empty (T : Tops mg) (F : Fun K "is_empty" "is_empty" s_is_empty f fd) : FnOk P w K mg base CX0 1 f fd ["cell"] (sp_is_empty K) := by
  refine F.ok sc_is_empty (fun vs H Q E h => ?_) (fun cdv A outer s H vs Q E hr h => ⟨_, (pss_one (ps_ret (pe_cmpR op_eqI (pe_ix (ixL K) (pv 0) pe_int (fun _ _ => rfl)) (pe_gi (by rfl) T.i_EMPTY) (nomark _)))), ?_⟩)
  · obtain ⟨v, c, rfl, _⟩ := h
    rfl
  obtain ⟨v, c, rfl, dv, hc, h⟩ := h
  obtain ⟨p, rfl, hp⟩ := Dp.ints dv
  have hl : 0 < c.length := List.length_pos_iff.mpr hc
  refine ⟨_, rfl, p, _, 0, _, rfl, rfl, hp, at_int (i := 0) hl rfl, _, _, rfl, rfl, ?_⟩
  have e : (!fullC c) = decide (c.getD 0 0 = 0) := by
    unfold fullC
    rw [Bool.not_not]
    cases c <;> rfl
  rw [e] at h
  exact h

abbrev s_unlike_count : Stmt := topS 64
theorem sc_unlike_count : FnScope ["old_row", "new_row", "columns", "old", "new"] ["old_row", "new_row", "columns"] (defScope s_unlike_count) := ⟨rfl, rfl, rfl, by decide +kernel, rfl, by decide +kernel, by decide +kernel⟩
/-- rows of cells, as numbers -/
abbrev RowI := List (List Int)
def unlikeN (cols : List (Nat × Nat)) (r q : RowI) : Nat := cols.countP fun p => r[p.1]? != q[p.2]?
def sp_unlike_count (K : PySem.W.Frag) : Sp := fun vs H Q _ => ∃ (u v y : V) (r q : RowI) (cols : List (Nat × Nat)), vs = [u, v, y] ∧ Dp K H u (dL dLI r) ∧ Dp K H v (dL dLI q) ∧ Dp K H y (dL dP (cols.map pN)) ∧
  cols.length ≤ 1000 ∧ (∀ p ∈ cols, p.1 < r.length ∧ p.2 < q.length) ∧ ∀ H', Same H H' → Q (.int (unlikeN cols r q : Nat)) H'
theorem ok_unlike_count (T : Tops mg) (F : Fun K "unlike_count" "unlike_count" s_unlike_count f fd) : FnOk P w K mg base CX0 1 f fd ["old_row", "new_row", "columns"] (sp_unlike_count K) := by
  refine F.ok sc_unlike_count (fun vs H Q E h => ?_) (fun cdv A outer s H vs Q E hr h => ⟨_, (pss_one (ps_ret (pe_callB (lenK K) (by rfl) T.n_len PySem.boot_len (pa_cons (pe_lc (own := [("old", 3), ("new", 4)]) rfl sc_unlike_count.nd (lstK K (pv 2)) (blkOk_by (N := ["old_row", "new_row", "columns", "old", "new"]) (sc := defScope s_unlike_count) (by decide +kernel)) (fun _ _ _ _ _ => (tupK K (n := 2) (pgs_cons (pg_name (i := 3) sc_unlike_count.nd rfl (Or.inl rfl)) (pgs_cons (pg_name (i := 4) sc_unlike_count.nd rfl (Or.inl rfl)) pgs_nil)))) (fun _ _ _ _ _ => (pts_one (pt_cmpR (neD K hr.units) (pe_ix (ixL K) (pv 0) (pv 3) (fun _ _ => rfl)) (pe_ix (ixL K) (pv 1) (pv 4) (fun _ _ => rfl)) (nomark _)))) (fun _ _ _ _ _ => (pv 3))) pa_nil)))), ?_⟩)
  · obtain ⟨u, v, y, a, b, l, rfl, _⟩ := h
    rfl
  obtain ⟨u, v, y, a, b, l, rfl, du, dv, dy, hl, hin, h⟩ := h
  obtain ⟨pa, xa, rfl, hpa, hxa⟩ := Dp.list du
  obtain ⟨pb, xb, rfl, hpb, hxb⟩ := Dp.list dv
  rw [dP_pN] at dy
  obtain ⟨p, xs, rfl, hp, hx⟩ := Dp.list dy
  refine ⟨_, rfl, p, rfl, ⟨xs, hp⟩, fun D hD => ?_⟩
  refine lc_L (K := K) (enc := fun q => dP (pN q)) (l := l) (fun q => if (a[q.1]? != b[q.2]?) = true then some (dI q.1) else none) (by omega) hD hp hx ?_ ?_
  · intro i r x H2 acc hr2 s2 hacc dx Kt Kf ht hf
    obtain ⟨t, rfl, hT⟩ := Dp.pair dx
    obtain ⟨h1, h2⟩ := hin r (List.mem_of_getElem? hr2)
    obtain ⟨va, ea, da⟩ := DpAll.get hxa (show (a.map dLI)[r.1]? = some (dLI a[r.1]) from by rw [List.getElem?_map, List.getElem?_eq_getElem h1]; rfl)
    obtain ⟨vb, eb, db⟩ := DpAll.get hxb (show (b.map dLI)[r.2]? = some (dLI b[r.2]) from by rw [List.getElem?_map, List.getElem?_eq_getElem h2]; rfl)
    refine ⟨t, _, rfl, hT, rfl, _, _, rfl, _, _, rfl, rfl, rfl, _, rfl, _, rfl, pa, _, _, _, rfl, rfl, s2.seq hpa, at_of (j := r.1) rfl ea, _, rfl, _, rfl, pb, _, _, _, rfl, rfl, s2.seq hpb, at_of (j := r.2) rfl eb, _, _, dmono s2 da, dmono s2 db, shaped_LI _, shaped_LI _, _, rfl, ?_⟩
    rw [eqv_LI]
    refine ite_dec (c := (a[r.1]? != b[r.2]?) = true) ?_ (fun c => ?_) (fun c => ?_)
    · rw [List.getElem?_eq_getElem h1, List.getElem?_eq_getElem h2, ← decide_not]
      refine decide_eq_decide.mpr ?_
      simp
    · exact ⟨_, rfl, ht _ _ _ (if_pos c) (Same.refl _) (.int _)⟩
    · exact hf _ (if_neg c) (Same.refl _)
  intro H2 s2 d2
  obtain ⟨q, ys, eq, hq, hy⟩ := Dp.list (dmono nw_in d2)
  cases eq
  have ly : ys.length = unlikeN l a b := by
    unfold unlikeN
    rw [DpAll.length hy, filterMap_len_countP (fun p : Nat × Nat => a[p.1]? != b[p.2]?)]
  refine ⟨_, _, rfl, .inl hq, ?_⟩
  rw [ly]
  exact h _ s2

abbrev s_filled_counts : Stmt := topS 63
theorem sc_filled_counts : FnScope ["table", "columns", "row", "column"] ["table", "columns"] (defScope s_filled_counts) := ⟨rfl, rfl, rfl, by decide +kernel, rfl, by decide +kernel, by decide +kernel⟩
def filledN (cols : List Nat) (r : RowI) : Nat := cols.countP fun c => fullC ((r[c]?).getD [])
def sp_filled_counts (K : PySem.W.Frag) (CT : Addr) : Sp := fun vs H Q _ => ∃ (t dx : Addr) (u v y : V) (rows : List RowI) (cols : List Nat), vs = [.ref t, y] ∧ H t = some (.ins CT dx (tabF u v)) ∧ Dp K H v (dL (dL dLI) rows) ∧
  Dp K H y (dLI (cols.map Int.ofNat)) ∧ cols.length ≤ 1000 ∧ rows.length ≤ 1000 ∧ (∀ r ∈ rows, (∀ c ∈ cols, c < r.length) ∧ ∀ z ∈ r, z ≠ []) ∧ New K H Q (dLI (rows.map fun r => (filledN cols r : Int)))
theorem ok_filled_counts (T : Tops mg) (S : TabC K CT) (C_is_empty : CalX P w K mg base CX0 1 "is_empty" (sp_is_empty K)) (F : Fun K "filled_counts" "filled_counts" s_filled_counts f fd) : FnOk P w K mg base CX0 2 f fd ["table", "columns"] (sp_filled_counts K CT) := by
  refine F.ok sc_filled_counts (fun vs H Q E h => ?_) (fun cdv A outer s H vs Q E hr h => ⟨_, (pss_one (ps_ret (pe_lc (own := [("row", 2)]) rfl sc_filled_counts.nd (lstK K (fldK K (pv 0))) (blkOk_by (N := ["table", "columns", "row", "column"]) (sc := defScope s_filled_counts) (by decide +kernel)) (fun _ _ _ _ _ => (pg_name (i := 2) sc_filled_counts.nd rfl (Or.inr rfl))) (fun _ _ _ _ _ => pts_nil) (fun _ _ _ _ _ => (pe_callB (lenK K) (by rfl) T.n_len PySem.boot_len (pa_cons (pe_lc (own := [("column", 3)]) rfl sc_filled_counts.nd (lstK K (pv 1)) (blkOk_by (by rfl)) (fun _ _ _ _ _ => (pg_name (i := 3) sc_filled_counts.nd rfl (Or.inl rfl))) (fun _ _ _ _ _ => (pts_one (pt_not (pt_val (pe_k C_is_empty hr (by decide) (by rfl) (fun _ => quiet) (pa_cons (pe_ix (ixL K) (pv 2) (pv 3) (fun _ _ => rfl)) pa_nil)))))) (fun _ _ _ _ _ => (pv 3))) pa_nil)))))), ?_⟩)
  · obtain ⟨t, dx, u, v, y, rows, cols, rfl, _⟩ := h
    rfl
  obtain ⟨t, dx, u, v, y, rows, cols, rfl, ht0, dv, dy, hcl, hrl, hin, h⟩ := h
  obtain ⟨p, xs, rfl, hp, hx⟩ := Dp.list dv
  obtain ⟨pc, rfl, hpc⟩ := Dp.ints dy
  refine ⟨_, rfl, t, CT, dx, _, _, rfl, ht0, S.cl, S.n2, rfl, p, rfl, ⟨xs, hp⟩, fun D hD => ?_⟩
  refine lc_L (K := K) (enc := dL dLI) (l := rows) (fun r => some (dI (filledN cols r : Int))) (by omega) hD hp hx ?_ ?_
  · intro i r x H2 acc hr2 s2 hacc dx2 Kt Kf ht hf
    obtain ⟨hc, hz⟩ := hin r (List.mem_of_getElem? hr2)
    obtain ⟨pr, xr, rfl, hpr, hxr⟩ := Dp.list dx2
    refine ⟨rfl, lc_yes ⟨_, rfl, pc, rfl, ⟨_, s2.seq hpc⟩, fun D2 hD2 => ?_⟩⟩
    refine lc_L (K := K) (enc := fun c : Nat => dI c) (l := cols) (fun c => if fullC ((r[c]?).getD []) = true then some (dI c) else none) (by omega) hD2 (s2.seq hpc) ?_ ?_ ?_
    · have := dmonoAll s2 (dint (K := K) (H := H) (cols.map Int.ofNat))
      rw [List.map_map (g := PyData.int)] at this
      exact this
    · intro j c x H3 acc3 hc2 s3 hacc3 dx3 Kt2 Kf2 ht2 hf2
      cases dx3
      have hcr := hc c (List.mem_of_getElem? hc2)
      obtain ⟨vc, ec, dc⟩ := DpAll.get hxr (show (r.map dLI)[c]? = some (dLI r[c]) from by rw [List.getElem?_map, List.getElem?_eq_getElem hcr]; rfl)
      have eg : (r[c]?).getD [] = r[c] := by rw [List.getElem?_eq_getElem hcr]; rfl
      refine ⟨rfl, _, rfl, _, rfl, pr, _, _, _, rfl, rfl, s3.seq hpr, at_of (j := c) rfl ec, _, _, rfl, dmono s3 dc, hz _ (List.getElem_mem hcr), _, rfl, ?_⟩
      cases e : fullC r[c] with
      | true => exact iteT ⟨_, rfl, ht2 _ _ _ (by rw [eg, e]; rfl) (Same.refl _) (.int _)⟩
      | false => exact iteF (hf2 _ (by rw [eg, e]; rfl) (Same.refl _))
    · intro H3 s3 d3
      obtain ⟨q3, ys, eq, hq, hy⟩ := Dp.list (dmono nw_in d3)
      cases eq
      have ly : ys.length = filledN cols r := by
        unfold filledN
        rw [DpAll.length hy, filterMap_len_countP (fun c : Nat => fullC ((r[c]?).getD []))]
      refine ⟨_, _, rfl, .inl hq, ?_⟩
      rw [ly]
      exact ht _ _ _ rfl s3 (.int _)
  · intro H2 s2 d2
    refine h _ _ s2 ?_
    rw [filterMap_some_map] at d2
    rw [show (dLI (rows.map fun r => (filledN cols r : Int))) = PyData.list (rows.map fun r => dI (filledN cols r : Int)) from by show PyData.list ((rows.map _).map dI) = _; rw [List.map_map]; rfl]
    exact d2
end
end MR

namespace MR
open PySem PySem.Spec PyProof.Rows L2
def loneN (m : List Nat) (n : Nat) : List Nat := (List.range n).filter fun c => !m.contains c
theorem contains_cast (m : List Nat) (c : Nat) : (m.map Int.ofNat).contains (c : Int) = m.contains c := by
  induction m with
  | nil => rfl
  | cons a m ih =>
    rw [List.map_cons, List.contains_cons, List.contains_cons, ih]
    congr 1
    by_cases h : c = a
    · subst h
      simp
    · rw [beq_eq_false_iff_ne.mpr h, beq_eq_false_iff_ne]
      intro q
      exact h (by have : (c : Int) = (a : Int) := q; omega)
theorem loneCols_nat (m : List Nat) (n : Nat) : loneCols (m.map Int.ofNat) n = (loneN m n).map Int.ofNat := by
  unfold loneCols loneN
  congr 1
  congr 1
  funext c
  rw [contains_cast]
theorem loneN_lt {m : List Nat} {n c : Nat} (h : c ∈ loneN m n) : c < n := List.mem_range.mp (List.mem_filter.mp h).1
theorem loneN_len (m : List Nat) (n : Nat) : (loneN m n).length ≤ n := by
  have := List.length_filter_le (fun c => !m.contains c) (List.range n)
  rw [List.length_range] at this
  exact this
theorem zip_fm {α : Type} (l : List α) (g1 g2 : α → Int) (G : Int → Int → PyData) :
    (List.range (l.map g1).length).filterMap (fun i => ((l.map g1)[i]?).bind fun u => ((l.map g2)[i]?).bind fun z => some (G u z)) = l.map fun q => G (g1 q) (g2 q) := by
  have e := fm_range l (fun q => some (G (g1 q) (g2 q)))
  rw [filterMap_some_map] at e
  rw [← e, List.length_map]
  congr 1
  funext k
  rw [List.getElem?_map, List.getElem?_map]
  cases l[k]? <;> rfl
/-- what each pair of rows costs -/
def pairCostI (cols : List (Nat × Nat)) (m n : Nat) (r q : RowI) : Nat := filledN (loneN (cols.map fun p => p.1) m) r + unlikeN cols r q + filledN (loneN (cols.map fun p => p.2) n) q
def pairCostsI (cols : List (Nat × Nat)) (m n : Nat) (ra rb : List RowI) : List (List Int) := ra.map fun r => rb.map fun q => (pairCostI cols m n r q : Int)
/-- a table in the heap -/
structure TabAt (K : PySem.W.Frag) (CT : Addr) (H : Hp) (t : Addr) (nm : List (List Int)) (rows : List RowI) : Prop where
  ex : ∃ dx u v, H t = some (.ins CT dx (tabF u v)) ∧ Dp K H u (dL dLI nm) ∧ Dp K H v (dL (dL dLI) rows)
theorem TabAt.mono {K : PySem.W.Frag} {CT : Addr} {H H' : Hp} {t : Addr} {nm : List (List Int)} {rows : List RowI} (h : TabAt K CT H t nm rows) (s : Same H H') : TabAt K CT H' t nm rows := by
  obtain ⟨dx, u, v, h1, h2, h3⟩ := h.ex
  exact ⟨dx, u, v, s _ _ h1, dmono s h2, dmono s h3⟩
/-- within its bounds -/
structure TabOk (nm : List (List Int)) (rows : List RowI) : Prop where
  n : nm.length ≤ 100
  r : rows.length ≤ 100
  rl : ∀ r ∈ rows, r.length = nm.length
  ce : ∀ r ∈ rows, ∀ z ∈ r, z ≠ []
def ColsIn (cols : List (Nat × Nat)) (m n : Nat) : Prop := cols.length ≤ 1000 ∧ ∀ p ∈ cols, p.1 < m ∧ p.2 < n
section
variable {P : Program} {w : World} {K : PySem.W.Frag} {mg : Str → Option Value} {base : Heap} {f : Addr} {fd : FuncData} {C CE CT : Addr}
abbrev s_all_pair_costs : Stmt := topS 62
theorem sc_all_pair_costs : FnScope ["old", "new", "columns", "old_lone", "new_lone", "costs", "place", "row", "unlike", "pair", "other", "count", "filled"] ["old", "new", "columns"] (defScope s_all_pair_costs) := ⟨rfl, rfl, rfl, by decide +kernel, rfl, by decide +kernel, by decide +kernel⟩
def sp_all_pair_costs (K : PySem.W.Frag) (CT : Addr) : Sp := fun vs H Q _ => ∃ (a b : Addr) (y : V) (na nb : List (List Int)) (ra rb : List RowI) (cols : List (Nat × Nat)), vs = [.ref a, .ref b, y] ∧ TabAt K CT H a na ra ∧ TabAt K CT H b nb rb ∧
  Dp K H y (dL dP (cols.map pN)) ∧ TabOk na ra ∧ TabOk nb rb ∧ ColsIn cols na.length nb.length ∧ New K H Q (dL dLI (pairCostsI cols na.length nb.length ra rb))
theorem ok_all_pair_costs (T : Tops mg) (S : TabC K CT) (C_filled_counts : CalX P w K mg base CX0 2 "filled_counts" (sp_filled_counts K CT)) (C_lone_numbers : CalX P w K mg base CX0 1 "lone_numbers" (sp_lone_numbers K))
    (C_unlike_count : CalX P w K mg base CX0 1 "unlike_count" (sp_unlike_count K)) (F : Fun K "all_pair_costs" "all_pair_costs" s_all_pair_costs f fd) : FnOk P w K mg base CX0 3 f fd ["old", "new", "columns"] (sp_all_pair_costs K CT) := by
  refine F.ok sc_all_pair_costs (fun vs H Q E h => ?_) (fun cdv A outer s H vs Q E hr h => ⟨_, (pss_cons (ps_set (i := 3) sc_all_pair_costs.nd rfl (Or.inr rfl) (pe_k C_filled_counts hr (by decide) (by rfl) (fun _ => quiet) (pa_cons (pv 0) (pa_cons (pe_k C_lone_numbers hr (by decide) (by rfl) (fun _ => quiet) (pa_cons (pe_lc (own := [("pair", 9)]) rfl sc_all_pair_costs.nd (lstK K (pv 2)) (blkOk_by (N := ["old", "new", "columns", "old_lone", "new_lone", "costs", "place", "row", "unlike", "pair", "other", "count", "filled"]) (sc := defScope s_all_pair_costs) (by decide +kernel)) (fun _ _ _ _ _ => (pg_name (i := 9) sc_all_pair_costs.nd rfl (Or.inl rfl))) (fun _ _ _ _ _ => pts_nil) (fun _ _ _ _ _ => (pe_ix (ixT K) (pv 9) pe_int (fun _ _ => rfl)))) (pa_cons (pe_callB (lenK K) (by rfl) T.n_len PySem.boot_len (pa_cons (fldK K (pv 0)) pa_nil)) pa_nil))) pa_nil))))
  (pss_cons (ps_set (i := 4) sc_all_pair_costs.nd rfl (Or.inl rfl) (pe_k C_filled_counts hr (by decide) (by rfl) (fun _ => quiet) (pa_cons (pv 1) (pa_cons (pe_k C_lone_numbers hr (by decide) (by rfl) (fun _ => quiet) (pa_cons (pe_lc (own := [("pair", 9)]) rfl sc_all_pair_costs.nd (lstK K (pv 2)) (blkOk_by (N := ["old", "new", "columns", "old_lone", "new_lone", "costs", "place", "row", "unlike", "pair", "other", "count", "filled"]) (sc := defScope s_all_pair_costs) (by decide +kernel)) (fun _ _ _ _ _ => (pg_name (i := 9) sc_all_pair_costs.nd rfl (Or.inl rfl))) (fun _ _ _ _ _ => pts_nil) (fun _ _ _ _ _ => (pe_ix (ixT K) (pv 9) pe_int (fun _ _ => rfl)))) (pa_cons (pe_callB (lenK K) (by rfl) T.n_len PySem.boot_len (pa_cons (fldK K (pv 1)) pa_nil)) pa_nil))) pa_nil))))
  (pss_cons (ps_set (i := 5) sc_all_pair_costs.nd rfl (Or.inl rfl) (pe_lst pa_nil))
  (pss_cons (ps_for PassesOwn.never rfl (enumK K (by rfl) T.n_enumerate (pa_cons (fldK K (pv 0)) pa_nil)) (tupK K (n := 2) (pgs_cons (pg_name (i := 6) sc_all_pair_costs.nd rfl (Or.inr rfl)) (pgs_cons (pg_name (i := 7) sc_all_pair_costs.nd rfl (Or.inr rfl)) pgs_nil)))
   (pss_cons (ps_setLc (i := 8) (own := [("other", 10)]) rfl sc_all_pair_costs.nd rfl rfl (sw_true rfl rfl rfl (by decide +kernel)) (lstK K (fldK K (pv 1))) (blkOk_by (N := ["old", "new", "columns", "old_lone", "new_lone", "costs", "place", "row", "unlike", "pair", "other", "count", "filled"]) (sc := defScope s_all_pair_costs) (by decide +kernel)) (fun _ _ _ _ _ => (pg_name (i := 10) sc_all_pair_costs.nd rfl (Or.inl rfl))) (fun _ _ _ _ _ => pts_nil) (fun _ _ _ _ _ => (pe_k C_unlike_count hr (by decide) (by rfl) (fun _ => quiet) (pa_cons (pv 7) (pa_cons (pv 10) (pa_cons (pv 2) pa_nil))))))
  (pss_one (ps_expr (pe_bm PySem.F.plainAttrs_list PySem.F.slot_list_append PySem.F.type_list_append mt_append (pv 5) (pa_cons (pe_lc (own := [("count", 11), ("filled", 12)]) rfl sc_all_pair_costs.nd (zipK K (by rfl) T.n_zip (pa_cons (pv 8) (pa_cons (pv 4) pa_nil))) (blkOk_by (N := ["old", "new", "columns", "old_lone", "new_lone", "costs", "place", "row", "unlike", "pair", "other", "count", "filled"]) (sc := defScope s_all_pair_costs) (by decide +kernel)) (fun _ _ _ _ _ => (tupK K (n := 2) (pgs_cons (pg_name (i := 11) sc_all_pair_costs.nd rfl (Or.inl rfl)) (pgs_cons (pg_name (i := 12) sc_all_pair_costs.nd rfl (Or.inl rfl)) pgs_nil)))) (fun _ _ _ _ _ => pts_nil) (fun _ _ _ _ _ => (pe_op op_add (pe_op op_add (pe_ix (ixL K) (pv 3) (pv 6) (fun _ _ => rfl)) (pv 11)) (pv 12)))) pa_nil))))))
  (pss_one (ps_ret (pv 5))))))), ?_⟩)
  · obtain ⟨a, b, y, na, nb, ra, rb, cols, rfl, _⟩ := h
    rfl
  obtain ⟨a, b, y, na, nb, ra, rb, cols, rfl, tA, tB, dy, oA, oB, ⟨hcl, hin⟩, h⟩ := h
  obtain ⟨dxa, ua, va, hA, dua, dva⟩ := id tA.ex
  obtain ⟨dxb, ub, vb, hB, dub, dvb⟩ := id tB.ex
  obtain ⟨pna, xna, rfl, hpna, hxna⟩ := Dp.list dua
  obtain ⟨pnb, xnb, rfl, hpnb, hxnb⟩ := Dp.list dub
  have lna : xna.length = na.length := by rw [DpAll.length hxna, List.length_map]
  have lnb : xnb.length = nb.length := by rw [DpAll.length hxnb, List.length_map]
  have dy0 := dy
  rw [dP_pN] at dy
  obtain ⟨p, xs, rfl, hp, hx⟩ := Dp.list dy
  -- one side of the columns' pairs
  have side : ∀ (g : Nat × Nat → Nat) (l : List (Nat × Nat)), PyData.list (l.filterMap fun q => some (dI (g q))) = dLI ((l.map g).map Int.ofNat) := fun g l => by
    rw [filterMap_some_map]
    show _ = PyData.list (((l.map g).map Int.ofNat).map dI)
    rw [List.map_map, List.map_map]
    rfl
  refine ⟨_, rfl, _, rfl, p, rfl, ⟨xs, hp⟩, fun D hD => ?_⟩
  refine lc_L (K := K) (enc := fun q => dP (pN q)) (l := cols) (fun q => some (dI q.1)) (by omega) hD hp hx ?_ ?_
  · intro i r x H2 acc hr2 s2 hacc dx Kt Kf ht hf
    obtain ⟨t, rfl, hT⟩ := Dp.pair dx
    exact ⟨rfl, lc_yes ⟨_, rfl, t, _, 0, _, rfl, rfl, hT, at_of (j := 0) rfl rfl, ht _ _ _ rfl (Same.refl _) (.int _)⟩⟩
  intro H1 s1 d1
  rw [side fun q => q.1] at d1
  obtain ⟨q1, e1, hq1⟩ := Dp.ints (dmono nw_in d1)
  cases e1
  refine ⟨_, rfl, a, CT, dxa, _, _, rfl, s1 _ _ hA, S.cl, S.n1, rfl, _, _, rfl, .inl (s1.seq hpna), ?_⟩
  rw [lna]
  refine ⟨D, _, na.length, rfl, hq1, by have := oA.n; omega, fun v2 H2 s2 d2 => ?_⟩
  rw [loneCols_nat] at d2
  have s02 := s1.trans s2
  refine ⟨a, dxa, _, va, v2, ra, loneN (cols.map fun p => p.1) na.length, rfl, s02 _ _ hA, dmono s02 dva, dmono nw_in d2, by have := loneN_len (cols.map fun p => p.1) na.length; have := oA.n; omega, by have := oA.r; omega, fun r hr2 => ⟨fun c hc => by rw [oA.rl r hr2]; exact loneN_lt hc, oA.ce r hr2⟩, fun v3 H3 s3 d3 => ?_⟩
  have s03 := s02.trans s3
  refine ⟨_, rfl, _, rfl, p, rfl, ⟨xs, s03.seq hp⟩, fun D4 hD4 => ?_⟩
  refine lc_L (K := K) (enc := fun q => dP (pN q)) (l := cols) (fun q => some (dI q.2)) (by omega) hD4 (s03.seq hp) (dmonoAll s03 hx) ?_ ?_
  · intro i r x H2 acc hr2 s2 hacc dx Kt Kf ht hf
    obtain ⟨t, rfl, hT⟩ := Dp.pair dx
    exact ⟨rfl, lc_yes ⟨_, rfl, t, _, 1, _, rfl, rfl, hT, at_of (j := 1) rfl rfl, ht _ _ _ rfl (Same.refl _) (.int _)⟩⟩
  intro H4 s4 d4
  rw [side fun q => q.2] at d4
  obtain ⟨q4, e4, hq4⟩ := Dp.ints (dmono nw_in d4)
  cases e4
  have s04 := s03.trans s4
  refine ⟨_, rfl, b, CT, dxb, _, _, rfl, s04 _ _ hB, S.cl, S.n1, rfl, _, _, rfl, .inl (s04.seq hpnb), ?_⟩
  rw [lnb]
  refine ⟨D4, _, nb.length, rfl, hq4, by have := oB.n; omega, fun v5 H5 s5 d5 => ?_⟩
  rw [loneCols_nat] at d5
  have s05 := s04.trans s5
  refine ⟨b, dxb, _, vb, v5, rb, loneN (cols.map fun p => p.2) nb.length, rfl, s05 _ _ hB, dmono s05 dvb, dmono nw_in d5, by have := loneN_len (cols.map fun p => p.2) nb.length; have := oB.n; omega, by have := oB.r; omega, fun r hr2 => ⟨fun c hc => by rw [oB.rl r hr2]; exact loneN_lt hc, oB.ce r hr2⟩, fun v6 H6 s6 d6 => ?_⟩
  have s06 := s05.trans s6
  obtain ⟨po, eo, hpo⟩ := Dp.ints (dmono ((s4.trans s5).trans s6) (dmono nw_in d3))
  obtain ⟨pn, en, hpn⟩ := Dp.ints (dmono nw_in d6)
  subst eo
  subst en
  obtain ⟨pva, xva, rfl, hpva, hxva⟩ := Dp.list dva
  obtain ⟨pvb, xvb, rfl, hpvb, hxvb⟩ := Dp.list dvb
  refine ⟨Nat.zero_le _, fun D7 hD7 => ?_⟩
  have s7 : Same H6 (upd H6 D7 (.lst [])) := Same.made1 hD7
  have s07 := s06.trans s7
  have nD7 : H D7 = none := s06.free hD7
  have la : xva.length = ra.length := by rw [DpAll.length hxva, List.length_map]
  refine ⟨_, rfl, a, CT, dxa, _, _, rfl, s07 _ _ hA, S.cl, S.n2, rfl, pva, _, rfl, s07.seq hpva, ?_⟩
  refine for_E (K := K) (fun i σ H' => Same H6 H' ∧ (∃ x y z, σ = [some (.ref a), some (.ref b), some (.ref p), some (.ref po), some (.ref pn), some (.ref D7), x, y, z, none, none, none, none]) ∧
      ∃ acc, H' D7 = some (.lst acc) ∧ DpAll K (hd D7 (nw H6 H')) acc (((pairCostsI cols na.length nb.length ra rb).take i).map dLI))
    ⟨s7, ⟨_, _, _, rfl⟩, [], upd_same, .nil⟩ (fun i σ H' _ z => (s06.trans z.1).seq hpva) ?_ ?_
  · rintro i x σ H8 tT hi ⟨s8, ⟨x1, x2, x3, rfl⟩, acc, hD8, hacc⟩ hT
    obtain ⟨r, hr2, dr⟩ := DpAll.item hxva hi
    have hir : i < ra.length := (List.getElem?_eq_some_iff.mp hr2).1
    have sT : Same H8 (upd H8 tT (.tup [.int (i : Nat), x])) := Same.made1 hT
    refine ⟨tT, _, rfl, .inl (.inl upd_same), rfl, _, _, rfl, _, _, rfl, rfl, ?_⟩
    generalize upd H8 tT (.tup [.int (i : Nat), x]) = H9 at sT ⊢
    have s09 := (s06.trans s8).trans sT
    refine ⟨_, rfl, b, CT, dxb, _, _, rfl, s09 _ _ hB, S.cl, S.n2, rfl, pvb, rfl, ⟨_, s09.seq hpvb⟩, fun Da hDa => ?_⟩
    refine lc_L (K := K) (enc := dL dLI) (l := rb) (fun q => some (dI (unlikeN cols r q : Nat))) (by have := oB.r; omega) hDa (s09.seq hpvb) (dmonoAll s09 hxvb) ?_ ?_
    · intro j q x' Ha acc' hq sa hacc' dx Kt Kf ht hf
      refine ⟨rfl, lc_yes ⟨_, rfl, _, rfl, _, rfl, x, x', .ref p, r, q, cols, rfl, dmono (s09.trans sa) dr, dx, dmono (s09.trans sa) dy0, hcl, fun z hz => ?_, fun H' s' => ht _ _ _ rfl s' (.int _)⟩⟩
      rw [oA.rl r (List.mem_of_getElem? hr2), oB.rl q (List.mem_of_getElem? hq)]
      exact hin z hz
    intro Ha sa da
    rw [filterMap_some_map] at da
    have ea : PyData.list (rb.map fun q => dI (unlikeN cols r q : Nat)) = dLI (rb.map fun q => (unlikeN cols r q : Int)) := by
      show _ = PyData.list ((rb.map _).map dI)
      rw [List.map_map]
      rfl
    rw [ea] at da
    obtain ⟨qa, eqa, hqa⟩ := Dp.ints (dmono nw_in da)
    cases eqa
    have s0a := s09.trans sa
    have s6a := (s8.trans sT).trans sa
    refine ⟨_, rfl, .inl ⟨rfl, _, SqL.of ((sT.trans sa) _ _ hD8)⟩, _, rfl, _, rfl, Da, pn, _, _, rfl, hqa, s6a.seq hpn, fun Db hDb => ?_⟩
    refine lc_Z (K := K) (enc := dI) (enc2 := dI) (l := rb.map fun q => (unlikeN cols r q : Int)) (l2 := rb.map fun q => (filledN (loneN (cols.map fun p => p.2) nb.length) q : Int)) (fun u z => some (dI ((filledN (loneN (cols.map fun p => p.1) na.length) r : Int) + u + z))) (by rw [List.length_map]; have := oB.r; omega) (by rw [List.length_map, List.length_map]) hDb hqa (dint _) (s6a.seq hpn) (dint _) ?_ ?_
    · rintro j u z x' y' Hb _ acc' tU hu hz sb hacc' dx dy' hU rfl Kt Kf ht hf
      cases dx
      cases dy'
      have sU : Same Hb (upd Hb tU (.tup [.int u, .int z])) := Same.made1 hU
      have e0 : (((ra.map fun r => (filledN (loneN (cols.map fun p => p.1) na.length) r : Int)).map V.int))[i]? = some (.int (filledN (loneN (cols.map fun p => p.1) na.length) r : Int)) := by
        rw [List.getElem?_map, List.getElem?_map, hr2]
        rfl
      refine ⟨tU, _, rfl, .inl (.inl upd_same), rfl, _, _, rfl, _, _, rfl, rfl, rfl, lc_yes ⟨_, rfl, _, rfl, po, _, _, _, rfl, rfl, ((s6a.trans sb).trans sU).seq hpo, at_of (j := i) rfl e0, _, rfl, _, _, rfl, rfl, _, rfl, _, _, rfl, rfl, ht _ _ _ rfl sU (.int _)⟩⟩
    intro Hb sb db
    have s6b := s6a.trans sb
    have hD7b := ((sT.trans sa).trans sb) _ _ hD8
    have hal := DpAll.length hacc
    rw [List.length_map, List.length_take] at hal
    refine ⟨D7, _, _, rfl, rfl, hD7b, by rw [sizeLine_eq]; have := oA.r; omega, ?_⟩
    have up : Same (hd D7 (nw H6 H8)) (hd D7 (nw H6 (upd Hb D7 (.lst (acc ++ [.ref Db]))))) := fun c o e =>
      hd_of (hd_ne e).1 (nw_of (nw_some (hd_ne e).2).1 (by rw [upd_ne (hd_ne e).1]; exact ((sT.trans sa).trans sb) _ _ (nw_some (hd_ne e).2).2))
    refine ⟨fun c o e => ?_, ⟨_, _, _, rfl⟩, acc ++ [.ref Db], upd_same, ?_⟩
    · rw [upd_ne (ne_of_none e hD7)]
      exact s6b _ _ e
    · have more : (pairCostsI cols na.length nb.length ra rb).take (i + 1) = (pairCostsI cols na.length nb.length ra rb).take i ++ [rb.map fun q => (pairCostI cols na.length nb.length r q : Int)] := by
        rw [List.take_add_one]
        congr 1
        unfold pairCostsI
        rw [List.getElem?_map, hr2]
        rfl
      rw [more, List.map_append]
      refine DpAll.snoc (dmonoAll up hacc) ?_
      have ed : PyData.list ((List.range (rb.map fun q => (unlikeN cols r q : Int)).length).filterMap fun i => ((rb.map fun q => (unlikeN cols r q : Int))[i]?).bind fun u => ((rb.map fun q => (filledN (loneN (cols.map fun p => p.2) nb.length) q : Int))[i]?).bind fun z => some (dI ((filledN (loneN (cols.map fun p => p.1) na.length) r : Int) + u + z))) =
          dLI (rb.map fun q => (pairCostI cols na.length nb.length r q : Int)) := by
        show PyData.list _ = PyData.list ((rb.map _).map dI)
        rw [zip_fm rb (fun q => (unlikeN cols r q : Int)) (fun q => (filledN (loneN (cols.map fun p => p.2) nb.length) q : Int)) (fun u z => dI ((filledN (loneN (cols.map fun p => p.1) na.length) r : Int) + u + z)), List.map_map]
        congr 1
      rw [ed] at db
      have up2 : Same (nw Ha Hb) (hd D7 (nw H6 (upd Hb D7 (.lst (acc ++ [.ref Db]))))) := fun c o e => by
        obtain ⟨e1, e2⟩ := nw_some e
        have nc : c ≠ D7 := fun z => by
          rw [z, (sT.trans sa) _ _ hD8] at e1
          cases e1
        exact hd_of nc (nw_of (s6a.free e1) (by rw [upd_ne nc]; exact e2))
      exact dmono up2 db
  · rintro σ H8 ⟨s8, ⟨x1, x2, x3, rfl⟩, acc, hD8, hacc⟩
    have lc : (pairCostsI cols na.length nb.length ra rb).length = ra.length := by
      unfold pairCostsI
      rw [List.length_map]
    rw [la, ← lc, List.take_length] at hacc
    refine ⟨_, rfl, h _ _ (s06.trans s8) ?_⟩
    exact dmono (nw_left (Same.tk s06)) (.lst (.inl (.inl (nw_of hD7 hD8))) (dmonoAll hd_in hacc))
end
end MR

/-! The program's table is the specification's. -/
namespace MR
open VatdfBase (Cell Row Table Bytes)
def namesI (t : Table) : List (List Int) := t.names.map VatdfFlat.ints
def rowsI (t : Table) : List (List (List Int)) := t.rows.map fun r => r.map VatdfFlat.flatCell
theorem ints_len (w : Bytes) : (VatdfFlat.ints w).length = w.length := List.length_map _
theorem mem_ints {w : Bytes} {z : Int} : z ∈ VatdfFlat.ints w ↔ ∃ b ∈ w, (b : Int) = z := List.mem_map
theorem ints_inj {v w : Bytes} (h : VatdfFlat.ints v = VatdfFlat.ints w) : v = w := by
  induction v generalizing w with
  | nil => cases w with
    | nil => rfl
    | cons b w => cases h
  | cons a v ih => cases w with
    | nil => cases h
    | cons b w =>
      obtain ⟨h1, h2⟩ := List.cons.inj h
      have h1 : (a : Int) = (b : Int) := h1
      rw [ih h2, show a = b from by omega]
theorem ints_of {w : List Int} (h : ∀ z ∈ w, 0 ≤ z) : ∃ b : Bytes, VatdfFlat.ints b = w := by
  refine ⟨w.map Int.toNat, ?_⟩
  show (w.map Int.toNat).map VatdfFlat.int = w
  rw [List.map_map]
  conv => rhs; rw [← List.map_id w]
  refine List.map_congr_left fun z hz => ?_
  show ((z.toNat : Nat) : Int) = z
  have := h z hz
  omega
theorem okB_ints (w : Bytes) : okB (VatdfFlat.ints w) ↔ VatdfBase.isWord w = true := by
  rw [isWord_iff]
  unfold okB
  rw [ints_len]
  constructor
  · rintro ⟨h1, h2, h3⟩
    exact ⟨h1, h2, fun b hb => by have := h3 b (mem_ints.mpr ⟨b, hb, rfl⟩); omega⟩
  · rintro ⟨h1, h2, h3⟩
    refine ⟨h1, h2, fun z hz => ?_⟩
    obtain ⟨b, hb, rfl⟩ := mem_ints.mp hz
    have := h3 b hb
    omega
theorem okB_of {w : List Int} (h : okB w) : ∃ b : Bytes, VatdfFlat.ints b = w := ints_of fun z hz => by have := h.2.2 z hz; omega
theorem small_ints (b : Nat) : isSmallI (b : Int) = VatdfBase.isSmall b := by
  unfold isSmallI VatdfBase.isSmall
  rw [← Bool.decide_and]
  exact decide_eq_decide.mpr (by omega)
theorem digit_ints (b : Nat) : isDigitI (b : Int) = VatdfBase.isDigit b := by
  unfold isDigitI VatdfBase.isDigit
  rw [← Bool.decide_and]
  exact decide_eq_decide.mpr (by omega)
theorem name_ints (w : Bytes) : (okB (VatdfFlat.ints w) ∧ goodName (VatdfFlat.ints w) = true) ↔ VatdfBase.isName w = true := by
  constructor
  · rintro ⟨h1, h2⟩
    obtain ⟨l1, l2, l3⟩ := (isWord_iff w).mp ((okB_ints w).mp h1)
    unfold goodName at h2
    unfold VatdfBase.isName
    simp only [Bool.and_eq_true, decide_eq_true_eq, List.all_eq_true] at h2 ⊢
    refine ⟨l2, ?_, fun b hb => ?_⟩
    · cases w with
      | nil => simp at l1
      | cons a w =>
        have := h2.1
        show VatdfBase.isSmall a = true
        rw [← small_ints]
        exact this
    · have := h2.2 b (mem_ints.mpr ⟨b, hb, rfl⟩)
      rw [small_ints, digit_ints] at this
      exact this
  · intro h
    obtain ⟨l1, l2, l3⟩ := isName_len h
    refine ⟨(okB_ints w).mpr ((isWord_iff w).mpr ⟨l1, l2, fun b hb => by have := l3 b hb; omega⟩), ?_⟩
    unfold VatdfBase.isName at h
    unfold goodName
    simp only [Bool.and_eq_true, decide_eq_true_eq, List.all_eq_true] at h ⊢
    refine ⟨?_, fun z hz => ?_⟩
    · cases w with
      | nil => simp at l1
      | cons a w =>
        show isSmallI (a : Int) = true
        rw [small_ints]
        exact h.2.1
    · obtain ⟨b, hb, rfl⟩ := mem_ints.mp hz
      rw [small_ints, digit_ints]
      exact h.2.2 b hb
theorem nodup_map {α β : Type} {f : α → β} (hf : ∀ {a b}, f a = f b → a = b) (l : List α) : (l.map f).Nodup ↔ l.Nodup := by
  rw [List.nodup_iff_pairwise_ne, List.nodup_iff_pairwise_ne, List.pairwise_map]
  exact ⟨fun h => h.imp fun z e => z (by rw [e]), fun h => h.imp fun z e => z (hf e)⟩
theorem okN_names (l : List Bytes) : okN (l.map VatdfFlat.ints) ↔ (1 ≤ l.length ∧ l.length ≤ 5 ∧ (∀ w ∈ l, VatdfBase.isName w = true) ∧ l.Nodup) := by
  unfold okN
  rw [List.length_map, nodup_map ints_inj]
  constructor
  · rintro ⟨h1, h2, h3, h4⟩
    exact ⟨h1, h2, fun w hw => (name_ints w).mp (h3 _ (List.mem_map.mpr ⟨w, hw, rfl⟩)), h4⟩
  · rintro ⟨h1, h2, h3, h4⟩
    refine ⟨h1, h2, fun w hw => ?_, h4⟩
    obtain ⟨b, hb, rfl⟩ := List.mem_map.mp hw
    exact (name_ints b).mpr (h3 b hb)
theorem okC_cell (c : Cell) : okC (VatdfFlat.flatCell c) ↔ VatdfBase.isCell c = true := by
  unfold okC
  cases c with
  | empty => exact ⟨fun _ => rfl, fun _ => .inl rfl⟩
  | num z =>
    have e : VatdfBase.isCell (.num z) = true ↔ -1000000 ≤ z ∧ z ≤ 1000000 := by
      unfold VatdfBase.isCell VatdfBase.NUMBER
      simp only [Bool.and_eq_true, decide_eq_true_eq]
    rw [e]
    constructor
    · rintro (h | ⟨y, h1, h2, h3⟩ | ⟨w, _, h⟩)
      · cases h
      · cases h3
        exact ⟨h1, h2⟩
      · cases h
    · rintro ⟨h1, h2⟩
      exact .inr (.inl ⟨z, h1, h2, rfl⟩)
  | word w =>
    show _ ↔ VatdfBase.isWord w = true
    rw [← okB_ints]
    constructor
    · rintro (h | ⟨y, h1, h2, h3⟩ | ⟨v, h1, h⟩)
      · cases h
      · cases h3
      · have h : (2 : Int) :: ((w.length : Int) :: VatdfFlat.ints w) = 2 :: ((v.length : Int) :: v) := h
        injection h with _ h
        injection h with _ h
        rw [h]
        exact h1
    · intro h
      exact .inr (.inr ⟨_, h, by show _ = (2 : Int) :: (((VatdfFlat.ints w).length : Nat) :: VatdfFlat.ints w); rw [ints_len]; rfl⟩)
theorem okC_of {c : List Int} (h : okC c) : ∃ d : Cell, VatdfFlat.flatCell d = c := by
  rcases h with rfl | ⟨z, _, _, rfl⟩ | ⟨w, hw, rfl⟩
  · exact ⟨.empty, rfl⟩
  · exact ⟨.num z, rfl⟩
  · obtain ⟨b, rfl⟩ := okB_of hw
    exact ⟨.word b, by show (2 : Int) :: ((b.length : Int) :: VatdfFlat.ints b) = (2 : Int) :: (((VatdfFlat.ints b).length : Nat) :: VatdfFlat.ints b); rw [ints_len]⟩
theorem flatCell_inj {c d : Cell} (h : VatdfFlat.flatCell c = VatdfFlat.flatCell d) : c = d := by
  cases c with
  | empty => cases d with
    | empty => rfl
    | num z => cases h
    | word w => cases h
  | num z => cases d with
    | empty => cases h
    | num y => cases h; rfl
    | word w => cases h
  | word v => cases d with
    | empty => cases h
    | num z => cases h
    | word w =>
      have h : (2 : Int) :: ((v.length : Int) :: VatdfFlat.ints v) = 2 :: ((w.length : Int) :: VatdfFlat.ints w) := h
      injection h with _ h
      injection h with _ h
      rw [ints_inj h]
theorem all_of {α β : Type} {f : α → β} : ∀ {l : List β}, (∀ b ∈ l, ∃ a, f a = b) → ∃ k : List α, k.map f = l
  | [], _ => ⟨[], rfl⟩
  | b :: l, h => by
    obtain ⟨a, ha⟩ := h b List.mem_cons_self
    obtain ⟨k, hk⟩ := all_of fun c hc => h c (List.mem_cons_of_mem _ hc)
    exact ⟨a :: k, by rw [List.map_cons, ha, hk]⟩
theorem okT_table (t : Table) : okT (namesI t) (rowsI t) ↔ VatdfBase.isTable t = true := by
  rw [isTable_iff]
  unfold okT namesI rowsI
  rw [okN_names, List.length_map, List.length_map]
  refine and_congr_right fun h1 => and_congr_right fun h2 => ?_
  constructor
  · intro h r hr
    obtain ⟨q1, q2⟩ := h _ (List.mem_map.mpr ⟨r, hr, rfl⟩)
    rw [List.length_map] at q1
    exact ⟨q1, fun c hc => (okC_cell c).mp (q2 _ (List.mem_map.mpr ⟨c, hc, rfl⟩))⟩
  · intro h r hr
    obtain ⟨s, hs, rfl⟩ := List.mem_map.mp hr
    obtain ⟨q1, q2⟩ := h s hs
    refine ⟨by rw [List.length_map]; exact q1, fun c hc => ?_⟩
    obtain ⟨d, hd, rfl⟩ := List.mem_map.mp hc
    exact (okC_cell d).mpr (q2 d hd)
theorem okT_of {nm : List (List Int)} {rows : List (List (List Int))} (h : okT nm rows) : ∃ t, nm = namesI t ∧ rows = rowsI t := by
  obtain ⟨⟨_, _, h3, _⟩, _, h5⟩ := h
  obtain ⟨ns, hn⟩ := all_of (f := VatdfFlat.ints) fun w hw => okB_of (h3 w hw).1
  obtain ⟨rs, hr⟩ := all_of (f := fun r : Row => r.map VatdfFlat.flatCell) (l := rows) fun r hr => all_of fun c hc => okC_of ((h5 r hr).2 c hc)
  exact ⟨⟨ns, rs⟩, hn.symm, hr.symm⟩
theorem encN_names (l : List Bytes) : encN (l.map VatdfFlat.ints) = (l.length : Int) :: l.flatMap VatdfFlat.flatBytes := by
  unfold encN
  rw [List.length_map, List.flatMap_map]
  congr 1
  refine congrArg (fun f => List.flatMap f l) (funext fun w => ?_)
  show ((VatdfFlat.ints w).length : Int) :: VatdfFlat.ints w = VatdfFlat.flatBytes w
  rw [ints_len]
  rfl
theorem encT_table (t : Table) : encT (namesI t) (rowsI t) = flatT t := by
  unfold encT flatT namesI rowsI
  rw [encN_names, List.length_map, List.flatMap_map]
  congr 2
  refine congrArg (fun f => List.flatMap f t.rows) (funext fun r => ?_)
  rw [List.flatMap_map]
  rfl
/-- what the program reads -/
theorem rTable_eq (x : List Int) : rTable x = (VatdfFlat.tableOf x).map fun t => (namesI t, rowsI t) := by
  cases e : VatdfFlat.tableOf x with
  | some t =>
    obtain ⟨h1, h2⟩ := (tableOf_iff x t).mp e
    exact (rTable_iff x _ _).mpr ⟨(okT_table t).mpr h1, by rw [encT_table, h2]⟩
  | none =>
    cases e2 : rTable x with
    | none => rfl
    | some u =>
      obtain ⟨nm, rows⟩ := u
      obtain ⟨h1, h2⟩ := (rTable_iff x nm rows).mp e2
      obtain ⟨t, rfl, rfl⟩ := okT_of h1
      have := (tableOf_iff x t).mpr ⟨(okT_table t).mp h1, by rw [h2, encT_table]⟩
      rw [e] at this
      cases this
theorem isTable_of {x : List Int} {t : Table} (h : VatdfFlat.tableOf x = some t) : VatdfBase.isTable t = true := ((tableOf_iff x t).mp h).1
end MR

/-! Matchings of rows and of columns: the program's pairs are the specification's. -/
namespace MR
open VatdfBase (Cell Row Table Bytes Pairs)
theorem pairUp_cons (a b : Int) (r : List Int) : pairUp (a :: b :: r) = (a, b) :: pairUp r := by
  unfold pairUp
  have e : (a :: b :: r).length / 2 = r.length / 2 + 1 := by
    rw [List.length_cons, List.length_cons]
    omega
  rw [e, List.range_succ_eq_map, List.map_cons, List.map_map]
  congr 1
theorem pairUp_nil : pairUp [] = [] := rfl
theorem pN_inj {p q : Nat × Nat} (h : pN p = pN q) : p = q := by
  obtain ⟨a, b⟩ := p
  obtain ⟨c, d⟩ := q
  have h1 : (a : Int) = c := congrArg Prod.fst h
  have h2 : (b : Int) = d := congrArg Prod.snd h
  rw [show a = c from by omega, show b = d from by omega]
theorem map_inj {α β : Type} {f : α → β} (hf : ∀ {a b}, f a = f b → a = b) : ∀ {l k : List α}, l.map f = k.map f → l = k
  | [], [], _ => rfl
  | [], _ :: _, h => by cases h
  | _ :: _, [], h => by cases h
  | a :: l, b :: k, h => by
    obtain ⟨h1, h2⟩ := List.cons.inj h
    rw [hf h1, map_inj hf h2]
/-- pairs read: whole and none below nought -/
theorem pairsOf_iff : ∀ (l : List Int) (p : Pairs), VatdfFlat.pairsOf l = some p ↔ l.length % 2 = 0 ∧ pairUp l = p.map pN
  | [], p => by
    show some [] = some p ↔ 0 = 0 ∧ [] = p.map pN
    constructor
    · intro h
      cases h
      exact ⟨rfl, rfl⟩
    · rintro ⟨_, h⟩
      rw [List.map_eq_nil_iff.mp h.symm]
  | [a], p => by
    constructor
    · intro h
      cases h
    · rintro ⟨h, _⟩
      cases h
  | a :: b :: r, p => by
    have ih := pairsOf_iff r
    show (if 0 ≤ a ∧ 0 ≤ b then (VatdfFlat.pairsOf r).map fun l => (a.toNat, b.toNat) :: l else none) = some p ↔ _
    rw [pairUp_cons]
    have el : (a :: b :: r).length % 2 = r.length % 2 := by
      rw [List.length_cons, List.length_cons]
      omega
    rw [el]
    constructor
    · intro h
      by_cases c : 0 ≤ a ∧ 0 ≤ b
      · rw [if_pos c] at h
        cases e : VatdfFlat.pairsOf r with
        | none => rw [e] at h; cases h
        | some q =>
          rw [e] at h
          cases h
          obtain ⟨h1, h2⟩ := (ih q).mp e
          refine ⟨h1, ?_⟩
          rw [List.map_cons, h2]
          show _ = (((a.toNat : Nat) : Int), ((b.toNat : Nat) : Int)) :: _
          rw [show ((a.toNat : Nat) : Int) = a from by omega, show ((b.toNat : Nat) : Int) = b from by omega]
      · rw [if_neg c] at h
        cases h
    · rintro ⟨h1, h2⟩
      cases p with
      | nil => cases h2
      | cons q p =>
        rw [List.map_cons] at h2
        obtain ⟨h3, h4⟩ := List.cons.inj h2
        obtain ⟨q1, q2⟩ := q
        have e1 : a = (q1 : Int) := congrArg Prod.fst h3
        have e2 : b = (q2 : Int) := congrArg Prod.snd h3
        rw [if_pos (by omega), (ih p).mpr ⟨h1, h4⟩, e1, e2]
        rfl
theorem rise_nat (l : List Nat) : Rise (l.map fun n : Nat => (n : Int)) ↔ ∀ i : Nat, i + 1 < l.length → l.getD i 0 < l.getD (i + 1) 0 := by
  unfold Rise
  have eg : ∀ i, i < l.length → (l.map fun n : Nat => (n : Int)).getD i 0 = ((l.getD i 0 : Nat) : Int) := fun i hi => by
    rw [List.getD_eq_getElem?_getD, List.getD_eq_getElem?_getD, List.getElem?_map, List.getElem?_eq_getElem hi]
    rfl
  rw [List.length_map]
  constructor
  · intro h i hi
    have := h i hi
    rw [eg i (by omega), eg (i + 1) hi] at this
    omega
  · intro h i hi
    have := h i hi
    rw [eg i (by omega), eg (i + 1) hi]
    omega
theorem zip_drop {α : Type} (f : α × α → Bool) : ∀ l : List α, (l.zip (l.drop 1)).all f = true ↔ ∀ (i : Nat) (h : i + 1 < l.length), f (l[i], l[i + 1]) = true
  | [] => ⟨fun _ i h => absurd h (by simp), fun _ => rfl⟩
  | [a] => ⟨fun _ i h => absurd h (by simp), fun _ => rfl⟩
  | a :: b :: l => by
    have ih := zip_drop f (b :: l)
    show (((a, b) :: (b :: l).zip ((b :: l).drop 1)).all f = true) ↔ _
    rw [List.all_cons, Bool.and_eq_true, ih]
    constructor
    · rintro ⟨h1, h2⟩ i hi
      cases i with
      | zero => exact h1
      | succ i => exact h2 i (by simpa using hi)
    · intro h
      exact ⟨h 0 (by simp), fun i hi => h (i + 1) (by simpa using hi)⟩
theorem all_inB {m n : Nat} (p : Pairs) : (∀ q ∈ p.map pN, InB m n q) ↔ ∀ q ∈ p, q.1 < m ∧ q.2 < n := by
  unfold InB
  constructor
  · intro h q hq
    have := h _ (List.mem_map.mpr ⟨q, hq, rfl⟩)
    simp only [pN] at this
    omega
  · intro h q hq
    obtain ⟨r, hr, rfl⟩ := List.mem_map.mp hq
    have := h r hr
    simp only [pN]
    omega
theorem rise_of {α : Type} (f : α → Nat) (p : List α) : Rise ((p.map f).map fun n : Nat => (n : Int)) ↔ ∀ (i : Nat) (h : i + 1 < p.length), f p[i] < f p[i + 1] := by
  rw [rise_nat, List.length_map]
  have eg : ∀ i (hi : i < p.length), (p.map f).getD i 0 = f p[i] := fun i hi => by
    rw [List.getD_eq_getElem?_getD, List.getElem?_map, List.getElem?_eq_getElem hi]
    rfl
  constructor
  · intro h i hi
    have := h i hi
    rwa [eg i (by omega), eg (i + 1) hi] at this
  · intro h i hi
    rw [eg i (by omega), eg (i + 1) hi]
    exact h i hi
theorem map_fst_pN (p : Pairs) : ((p.map pN).map fun q => q.1) = (p.map fun q => q.1).map fun n : Nat => (n : Int) := by
  rw [List.map_map, List.map_map]
  rfl
theorem map_snd_pN (p : Pairs) : ((p.map pN).map fun q => q.2) = (p.map fun q => q.2).map fun n : Nat => (n : Int) := by
  rw [List.map_map, List.map_map]
  rfl
theorem okRows_iff (m n : Nat) (p : Pairs) : VatdfBase.okRows m n p = true ↔ (∀ q ∈ p, q.1 < m ∧ q.2 < n) ∧ (∀ (i : Nat) (h : i + 1 < p.length), p[i].1 < p[i + 1].1) ∧ ∀ (i : Nat) (h : i + 1 < p.length), p[i].2 < p[i + 1].2 := by
  unfold VatdfBase.okRows
  rw [Bool.and_eq_true, zip_drop]
  simp only [Bool.and_eq_true, decide_eq_true_eq, List.all_eq_true]
  exact ⟨fun ⟨h1, h2⟩ => ⟨h1, fun i h => (h2 i h).1, fun i h => (h2 i h).2⟩, fun ⟨h1, h2, h3⟩ => ⟨h1, fun i h => ⟨h2 i h, h3 i h⟩⟩⟩
theorem okCols_iff (m n : Nat) (p : Pairs) : VatdfBase.okCols m n p = true ↔ (∀ q ∈ p, q.1 < m ∧ q.2 < n) ∧ (∀ (i : Nat) (h : i + 1 < p.length), p[i].2 < p[i + 1].2) ∧ (p.map fun q => q.1).Nodup := by
  unfold VatdfBase.okCols
  rw [Bool.and_eq_true, Bool.and_eq_true, zip_drop, apart_iff]
  simp only [Bool.and_eq_true, decide_eq_true_eq, List.all_eq_true]
theorem okRows_up {m n : Nat} {l : List Int} {p : Pairs} (h : pairUp l = p.map pN) (hl : l.length % 2 = 0) : OkRows m n l ↔ VatdfBase.okRows m n p = true := by
  unfold OkRows
  rw [h, all_inB, map_fst_pN, map_snd_pN, rise_of, rise_of, okRows_iff]
  exact ⟨fun ⟨⟨_, h1⟩, h2⟩ => ⟨h1, h2⟩, fun ⟨h1, h2⟩ => ⟨⟨hl, h1⟩, h2⟩⟩
theorem okCols_up {m n : Nat} {l : List Int} {p : Pairs} (h : pairUp l = p.map pN) (hl : l.length % 2 = 0) : OkCols m n l ↔ VatdfBase.okCols m n p = true := by
  unfold OkCols
  rw [h, all_inB, map_fst_pN, map_snd_pN, rise_of, okCols_iff]
  rw [nodup_map (f := fun n : Nat => (n : Int)) (fun {a b} e => by have e : (a : Int) = (b : Int) := e; omega)]
  exact ⟨fun ⟨⟨_, h1⟩, h2⟩ => ⟨h1, h2⟩, fun ⟨h1, h2⟩ => ⟨⟨hl, h1⟩, h2⟩⟩
theorem up_of {m n : Int} {l : List Int} (h : ∀ q ∈ pairUp l, InB m n q) : ∃ p : Pairs, p.map pN = pairUp l := by
  refine all_of fun q hq => ?_
  have := h q hq
  unfold InB at this
  exact ⟨(q.1.toNat, q.2.toNat), by show (((q.1.toNat : Nat) : Int), ((q.2.toNat : Nat) : Int)) = q; rw [show ((q.1.toNat : Nat) : Int) = q.1 from by omega, show ((q.2.toNat : Nat) : Int) = q.2 from by omega]⟩
/-- rows told, as the specification reads them -/
theorem rows_read (m n : Nat) (l : List Int) : (OkRows m n l ∧ ∃ p, (VatdfFlat.pairsOf l).bind (fun p => if VatdfBase.okRows m n p = true then some p else none) = some p ∧ pairUp l = p.map pN) ∨ (¬ OkRows m n l ∧ (VatdfFlat.pairsOf l).bind (fun p => if VatdfBase.okRows m n p = true then some p else none) = none) := by
  by_cases c : OkRows m n l
  · obtain ⟨p, hp⟩ := up_of c.1.2
    refine .inl ⟨c, p, ?_, hp.symm⟩
    rw [(pairsOf_iff l p).mpr ⟨c.1.1, hp.symm⟩, Option.bind_some, if_pos ((okRows_up hp.symm c.1.1).mp c)]
  · refine .inr ⟨c, ?_⟩
    cases e : VatdfFlat.pairsOf l with
    | none => rfl
    | some p =>
      obtain ⟨h1, h2⟩ := (pairsOf_iff l p).mp e
      rw [Option.bind_some, if_neg fun z => c ((okRows_up h2 h1).mpr z)]
theorem cols_read (m n : Nat) (l : List Int) : (OkCols m n l ∧ ∃ p, VatdfFlat.pairsOf l = some p ∧ VatdfBase.okCols m n p = true ∧ pairUp l = p.map pN) ∨ (¬ OkCols m n l ∧ ∀ p, VatdfFlat.pairsOf l = some p → ¬ VatdfBase.okCols m n p = true) := by
  by_cases c : OkCols m n l
  · obtain ⟨p, hp⟩ := up_of c.1.2
    exact .inl ⟨c, p, (pairsOf_iff l p).mpr ⟨c.1.1, hp.symm⟩, (okCols_up hp.symm c.1.1).mp c, hp.symm⟩
  · exact .inr ⟨c, fun p e z => by
      obtain ⟨h1, h2⟩ := (pairsOf_iff l p).mp e
      exact c ((okCols_up h2 h1).mpr z)⟩
theorem toldPairs_pN (p : Pairs) : toldPairs (p.map pN) = VatdfFlat.flatPairs p := by
  unfold toldPairs VatdfFlat.flatPairs
  rw [List.length_map, List.flatMap_map]
  rfl
end MR

namespace MR
open PySem PySem.Spec PyProof.Rows L2
/-- the class of least matchings -/
structure LmC (K : PySem.W.Frag) (C : Addr) : Prop where
  cl : Cls K C
  n1 : NoAttr K C "pair_costs"
  n2 : NoAttr K C "old_count"
  n3 : NoAttr K C "new_count"
  n4 : NoAttr K C "costs"
  n5 : NoAttr K C "ways"
def lmF (pv : V) (m n : Nat) (cd wd : Addr) : List (Str × V) := [("pair_costs", pv), ("old_count", .int (m : Nat)), ("new_count", .int (n : Nat)), ("costs", .ref cd), ("ways", .ref wd)]
abbrev Kvs := List (List Key × V)
abbrev key (i j : Nat) : List Key := [.inl (i : Int), .inl (j : Int)]
/-- such an object in the heap -/
structure LmAt (K : PySem.W.Frag) (C : Addr) (H : Hp) (a dx : Addr) (pv : V) (g : List (List Int)) (m n : Nat) (cd wd : Addr) (kc kw : Kvs) : Prop where
  ob : H a = some (.ins C dx (lmF pv m n cd wd))
  co : H cd = some (.dT kc)
  wa : H wd = some (.dT kw)
  da : Dp K H pv (dL dLI g)
/-- what is known of the grid of costs -/
structure GridOk (g : List (List Int)) (m n : Nat) : Prop where
  r : g.length = m
  c : ∀ r ∈ g, r.length = n
  m : m ≤ 1000
  n : n ≤ 1000
def gAt (g : List (List Int)) (i j : Nat) : Int := (g.getD i []).getD j 0
theorem LmAt.same {K : PySem.W.Frag} {C : Addr} {H H' : Hp} {a dx : Addr} {pv : V} {g : List (List Int)} {m n : Nat} {cd wd : Addr} {kc kw : Kvs} (h : LmAt K C H a dx pv g m n cd wd kc kw) (s : Same H H') : LmAt K C H' a dx pv g m n cd wd kc kw :=
  ⟨s _ _ h.ob, s _ _ h.co, s _ _ h.wa, dmono s h.da⟩
/-- the number at g[i][j] as the program reads it -/
theorem grid_at {K : PySem.W.Frag} {H : Hp} {pv : V} {g : List (List Int)} {m n i j : Nat} (d : Dp K H pv (dL dLI g)) (o : GridOk g m n) (hi : i < m) (hj : j < n) :
    ∃ p xs q, pv = .ref p ∧ SqL K H p xs ∧ xs[i]? = some (.ref q) ∧ SqL K H q ((g.getD i []).map V.int) ∧ ((g.getD i []).map V.int)[j]? = some (.int (gAt g i j)) := by
  obtain ⟨p, xs, rfl, hp, hx⟩ := Dp.list d
  have hi' : i < g.length := by rw [o.r]; exact hi
  have e : g.getD i [] = g[i] := by simp [hi']
  obtain ⟨v, ev, dv⟩ := DpAll.get hx (show (g.map dLI)[i]? = some (dLI g[i]) from by rw [List.getElem?_map, List.getElem?_eq_getElem hi']; rfl)
  obtain ⟨q, rfl, hq⟩ := Dp.ints dv
  have hj' : j < g[i].length := by rw [o.c _ (List.getElem_mem hi')]; exact hj
  refine ⟨p, xs, q, rfl, hp, ev, by rw [e]; exact hq, ?_⟩
  unfold gAt
  rw [e, List.getElem?_map, List.getElem?_eq_getElem hj']
  simp [hj']
section
variable {P : Program} {w : World} {K : PySem.W.Frag} {mg : Str → Option Value} {base : Heap} {f : Addr} {fd : FuncData} {C CE CT : Addr}

abbrev s_LeastMatchings_cost_by_first : Stmt := inClass (topS 14) 2
theorem sc_LeastMatchings_cost_by_first : FnScope ["self", "old", "new", "first_old", "first_new", "lone", "behind"] ["self", "old", "new", "first_old", "first_new"] (defScope s_LeastMatchings_cost_by_first) := ⟨rfl, rfl, rfl, by decide +kernel, rfl, by decide +kernel, by decide +kernel⟩
def sp_cost_by_first (K : PySem.W.Frag) (C : Addr) : Sp := fun vs H Q _ => ∃ (a dx : Addr) (pv : V) (g : List (List Int)) (m n : Nat) (cd wd : Addr) (kc kw : Kvs) (i j p q : Nat) (c : Int),
  vs = [.ref a, .int (i : Nat), .int (j : Nat), .int (p : Nat), .int (q : Nat)] ∧ LmAt K C H a dx pv g m n cd wd kc kw ∧ GridOk g m n ∧ p < m ∧ q < n ∧ valV kc (key (p + 1) (q + 1)) = some (.int c) ∧
  ∀ H', Same H H' → Q (.int (3 * ((p : Int) - i + q - j) + gAt g p q + c)) H'
theorem ok_cost_by_first (T : Tops mg) (S : LmC K C) (F : Fun K "cost_by_first" "LeastMatchings.cost_by_first" s_LeastMatchings_cost_by_first f fd) : FnOk P w K mg base CX0 1 f fd ["self", "old", "new", "first_old", "first_new"] (sp_cost_by_first K C) := by
  refine F.ok sc_LeastMatchings_cost_by_first (fun vs H Q E h => ?_) (fun cdv A outer s H vs Q E hr h => ⟨_, (pss_cons (ps_set (i := 5) sc_LeastMatchings_cost_by_first.nd rfl (Or.inl rfl) (pe_op op_sub (pe_op op_add (pe_op op_sub (pv 3) (pv 1)) (pv 4)) (pv 2)))
  (pss_cons (ps_set (i := 6) sc_LeastMatchings_cost_by_first.nd rfl (Or.inl rfl) (pe_dget (hu_of hr) (fldK K (pv 0)) (pe_tup (pa_cons (pe_op op_add (pv 3) pe_int) (pa_cons (pe_op op_add (pv 4) pe_int) pa_nil))) (fun _ _ => rfl)))
  (pss_one (ps_ret (pe_op op_add (pe_op op_add (pe_op op_mul (pe_gi (by rfl) T.i_LONE_ROW_COST) (pv 5)) (pe_ix (ixL K) (pe_ix (ixL K) (fldK K (pv 0)) (pv 3) (fun _ _ => rfl)) (pv 4) (fun _ _ => rfl))) (pv 6)))))), ?_⟩)
  · obtain ⟨a, dx, pv, g, m, n, cd, wd, kc, kw, i, j, p, q, c, rfl, _⟩ := h
    rfl
  obtain ⟨a, dx, pv, g, m, n, cd, wd, kc, kw, i, j, p, q, c, rfl, L, o, hp, hq, hc, h⟩ := h
  refine ⟨_, rfl, _, rfl, _, _, rfl, rfl, _, rfl, _, _, rfl, rfl, _, rfl, _, _, rfl, rfl, ?_⟩
  refine ⟨_, rfl, a, C, dx, _, _, rfl, L.ob, S.cl, S.n4, rfl, _, rfl, _, _, rfl, rfl, _, rfl, _, _, rfl, rfl, by show 2 ≤ sizeLine; decide, fun t ht => ?_⟩
  have s1 : Same H (upd H t (.tup [.int ((p : Int) + 1), .int ((q : Int) + 1)])) := Same.made1 ht
  refine ⟨cd, .int c, rfl, ?_, ?_⟩
  · have e := DGet.t (H := upd H t (.tup [.int ((p : Int) + 1), .int ((q : Int) + 1)])) (k := key (p + 1) (q + 1)) (s1 _ _ L.co) upd_same
    rw [hc] at e
    exact e
  obtain ⟨pp, xs, qq, e1, h1, h2, h3, h4⟩ := grid_at (dmono s1 L.da) o hp hq
  refine ⟨_, rfl, _, _, rfl, rfl, .inl ⟨by decide, by decide⟩, ?_⟩
  refine ⟨_, rfl, a, C, dx, _, _, rfl, s1 _ _ L.ob, S.cl, S.n1, rfl, _, rfl, pp, xs, _, _, e1, rfl, h1, at_of (j := p) rfl h2, _, rfl, qq, _, _, _, rfl, rfl, h3, at_of (j := q) rfl h4, _, _, rfl, rfl, _, rfl, _, _, rfl, rfl, h _ s1⟩

abbrev s_LeastMatchings_least_cost : Stmt := inClass (topS 14) 4
theorem sc_LeastMatchings_least_cost : FnScope ["self"] ["self"] (defScope s_LeastMatchings_least_cost) := ⟨rfl, rfl, rfl, by decide +kernel, rfl, by decide +kernel, by decide +kernel⟩
def sp_least_cost (K : PySem.W.Frag) (C : Addr) : Sp := fun vs H Q _ => ∃ (a dx : Addr) (pv : V) (g : List (List Int)) (m n : Nat) (cd wd : Addr) (kc kw : Kvs) (c : Int),
  vs = [.ref a] ∧ LmAt K C H a dx pv g m n cd wd kc kw ∧ valV kc (key 0 0) = some (.int c) ∧ ∀ H', Same H H' → Q (.int c) H'
theorem ok_least_cost (S : LmC K C) (F : Fun K "least_cost" "LeastMatchings.least_cost" s_LeastMatchings_least_cost f fd) : FnOk P w K mg base CX0 1 f fd ["self"] (sp_least_cost K C) := by
  refine F.ok sc_LeastMatchings_least_cost (fun vs H Q E h => ?_) (fun cdv A outer s H vs Q E hr h => ⟨_, (pss_one (ps_ret (pe_dget (hu_of hr) (fldK K (pv 0)) (pe_tup (pa_cons pe_int (pa_cons pe_int pa_nil))) (fun _ _ => rfl)))), ?_⟩)
  · obtain ⟨a, dx, pv, g, m, n, cd, wd, kc, kw, c, rfl, _⟩ := h
    rfl
  obtain ⟨a, dx, pv, g, m, n, cd, wd, kc, kw, c, rfl, L, hc, h⟩ := h
  refine ⟨_, rfl, a, C, dx, _, _, rfl, L.ob, S.cl, S.n4, rfl, by show 2 ≤ sizeLine; decide, fun t ht => ⟨cd, .int c, rfl, ?_, h _ (Same.made1 ht)⟩⟩
  have e := DGet.t (H := upd H t (.tup [.int 0, .int 0])) (k := key 0 0) (Same.made1 ht _ _ L.co) upd_same
  rw [hc] at e
  exact e
abbrev s_LeastMatchings_how_many : Stmt := inClass (topS 14) 5
theorem sc_LeastMatchings_how_many : FnScope ["self"] ["self"] (defScope s_LeastMatchings_how_many) := ⟨rfl, rfl, rfl, by decide +kernel, rfl, by decide +kernel, by decide +kernel⟩
def sp_how_many (K : PySem.W.Frag) (C : Addr) : Sp := fun vs H Q _ => ∃ (a dx : Addr) (pv : V) (g : List (List Int)) (m n : Nat) (cd wd : Addr) (kc kw : Kvs) (c : Int),
  vs = [.ref a] ∧ LmAt K C H a dx pv g m n cd wd kc kw ∧ valV kw (key 0 0) = some (.int c) ∧ ∀ H', Same H H' → Q (.int c) H'
theorem ok_how_many (S : LmC K C) (F : Fun K "how_many" "LeastMatchings.how_many" s_LeastMatchings_how_many f fd) : FnOk P w K mg base CX0 1 f fd ["self"] (sp_how_many K C) := by
  refine F.ok sc_LeastMatchings_how_many (fun vs H Q E h => ?_) (fun cdv A outer s H vs Q E hr h => ⟨_, (pss_one (ps_ret (pe_dget (hu_of hr) (fldK K (pv 0)) (pe_tup (pa_cons pe_int (pa_cons pe_int pa_nil))) (fun _ _ => rfl)))), ?_⟩)
  · obtain ⟨a, dx, pv, g, m, n, cd, wd, kc, kw, c, rfl, _⟩ := h
    rfl
  obtain ⟨a, dx, pv, g, m, n, cd, wd, kc, kw, c, rfl, L, hc, h⟩ := h
  refine ⟨_, rfl, a, C, dx, _, _, rfl, L.ob, S.cl, S.n5, rfl, by show 2 ≤ sizeLine; decide, fun t ht => ⟨wd, .int c, rfl, ?_, h _ (Same.made1 ht)⟩⟩
  have e := DGet.t (H := upd H t (.tup [.int 0, .int 0])) (k := key 0 0) (Same.made1 ht _ _ L.wa) upd_same
  rw [hc] at e
  exact e
end
end MR

namespace MR
open PySem PySem.Spec PyProof.Rows L2
/-! the least cost and how many, from a place on: from those behind it -/
def bstStep (x : Int × Int) (c w : Int) : Int × Int := if c < x.1 then (c, w) else if c = x.1 then (x.1, x.2 + w) else x
def wayCost (g : List (List Int)) (b : Nat → Nat → Int × Int) (i j p q : Nat) : Int := 3 * ((p : Int) - i + q - j) + gAt g p q + (b (p + 1) (q + 1)).1
def bstRow (g : List (List Int)) (b : Nat → Nat → Int × Int) (i j : Nat) (x : Int × Int) (p v : Nat) : Int × Int := (List.range v).foldl (fun x k => bstStep x (wayCost g b i j p (j + k)) (b (p + 1) (j + k + 1)).2) x
def bstAll (g : List (List Int)) (b : Nat → Nat → Int × Int) (m n i j u : Nat) : Int × Int := (List.range u).foldl (fun x k => bstRow g b i j x (i + k) (n - j)) (3 * ((m : Int) - i + n - j), 1)
/-- what behind (i, j) must be there -/
def Behind (b : Nat → Nat → Int × Int) (m n i j : Nat) (kc kw : Kvs) : Prop := ∀ p q, i < p → p ≤ m → j < q → q ≤ n → valV kc (key p q) = some (.int (b p q).1) ∧ valV kw (key p q) = some (.int (b p q).2)
theorem bstRow_succ (g : List (List Int)) (b : Nat → Nat → Int × Int) (i j : Nat) (x : Int × Int) (p v : Nat) : bstRow g b i j x p (v + 1) = bstStep (bstRow g b i j x p v) (wayCost g b i j p (j + v)) (b (p + 1) (j + v + 1)).2 := by
  unfold bstRow
  rw [List.range_succ, List.foldl_append]
  rfl
theorem bstAll_succ (g : List (List Int)) (b : Nat → Nat → Int × Int) (m n i j u : Nat) : bstAll g b m n i j (u + 1) = bstRow g b i j (bstAll g b m n i j u) (i + u) (n - j) := by
  unfold bstAll
  rw [List.range_succ, List.foldl_append]
  rfl
theorem cast_sum (i k : Nat) : (i : Int) + (k : Nat) = ((i + k : Nat) : Int) := (Int.natCast_add i k).symm
section
variable {P : Program} {w : World} {K : PySem.W.Frag} {mg : Str → Option Value} {base : Heap} {f : Addr} {fd : FuncData} {C CE CT : Addr}

abbrev s_LeastMatchings_weigh : Stmt := inClass (topS 14) 1
theorem sc_LeastMatchings_weigh : FnScope ["self", "old", "new", "least", "ways", "first_old", "first_new", "cost"] ["self", "old", "new"] (defScope s_LeastMatchings_weigh) := ⟨rfl, rfl, rfl, by decide +kernel, rfl, by decide +kernel, by decide +kernel⟩
def sp_weigh (K : PySem.W.Frag) (C : Addr) : Sp := fun vs H Q _ => ∃ (a dx : Addr) (pv : V) (g : List (List Int)) (m n : Nat) (cd wd : Addr) (kc kw : Kvs) (i j : Nat) (b : Nat → Nat → Int × Int),
  vs = [.ref a, .int (i : Nat), .int (j : Nat)] ∧ LmAt K C H a dx pv g m n cd wd kc kw ∧ GridOk g m n ∧ i ≤ m ∧ j ≤ n ∧ cd ≠ wd ∧ kc.length ≤ 2000000 ∧ kw.length ≤ 2000000 ∧ Behind b m n i j kc kw ∧ b i j = bstAll g b m n i j (m - i) ∧
  ∀ H', (∀ c o, H c = some o → c ≠ cd → c ≠ wd → H' c = some o) → Tk H H' → H' cd = some (.dT (putK kc (key i j) (.int (b i j).1))) → H' wd = some (.dT (putK kw (key i j) (.int (b i j).2))) → Q .non H'
theorem ok_weigh (T : Tops mg) (S : LmC K C) (C_LeastMatchings_cost_by_first : MetX P w K mg base CX0 1 C "cost_by_first" (sp_cost_by_first K C)) (F : Fun K "weigh" "LeastMatchings.weigh" s_LeastMatchings_weigh f fd) : FnOk P w K mg base CX0 2 f fd ["self", "old", "new"] (sp_weigh K C) := by
  refine F.ok sc_LeastMatchings_weigh (fun vs H Q E h => ?_) (fun cdv A outer s H vs Q E hr h => ⟨_, (pss_cons (ps_set (i := 3) sc_LeastMatchings_weigh.nd rfl (Or.inl rfl) (pe_op op_mul (pe_gi (by rfl) T.i_LONE_ROW_COST) (pe_op op_sub (pe_op op_add (pe_op op_sub (fldK K (pv 0)) (pv 1)) (fldK K (pv 0))) (pv 2))))
  (pss_cons (ps_set (i := 4) sc_LeastMatchings_weigh.nd rfl (Or.inl rfl) pe_int)
  (pss_cons (ps_for PassesOwn.never rfl (pi_range2 (by rfl) T.n_range (pa_cons (pv 1) (pa_cons (fldK K (pv 0)) pa_nil))) (pg_name (i := 5) sc_LeastMatchings_weigh.nd rfl (Or.inl rfl))
   (pss_one (ps_for PassesOwn.never rfl (pi_range2 (by rfl) T.n_range (pa_cons (pv 2) (pa_cons (fldK K (pv 0)) pa_nil))) (pg_name (i := 6) sc_LeastMatchings_weigh.nd rfl (Or.inl rfl))
   (pss_cons (ps_set (i := 7) sc_LeastMatchings_weigh.nd rfl (Or.inl rfl) (pe_m (pv 0) C_LeastMatchings_cost_by_first hr (by decide) (fun _ => quiet) (pa_cons (pv 1) (pa_cons (pv 2) (pa_cons (pv 5) (pa_cons (pv 6) pa_nil))))))
  (pss_cons (ps_if (pt_cmpR op_lt (pv 7) (pv 3) (nomark _))
   (pss_cons (ps_set (i := 3) sc_LeastMatchings_weigh.nd rfl (Or.inl rfl) (pv 7))
  (pss_one (ps_set (i := 4) sc_LeastMatchings_weigh.nd rfl (Or.inl rfl) pe_int))) pss_nil)
  (pss_one (ps_if (pt_cmpR op_eqI (pv 7) (pv 3) (nomark _))
   (pss_one (ps_aug (i := 4) sc_LeastMatchings_weigh.nd rfl (Or.inl rfl) (pe_dget (hu_of hr) (fldK K (pv 0)) (pe_tup (pa_cons (pe_op op_add (pv 5) pe_int) (pa_cons (pe_op op_add (pv 6) pe_int) pa_nil))) (fun _ _ => rfl)) ip_add)) pss_nil)))))))
  (pss_cons (ps_dput (hu_of hr) (fldK K (pv 0)) (pe_tup (pa_cons (pv 1) (pa_cons (pv 2) pa_nil))) (pv 3) rfl)
  (pss_one (ps_dput (hu_of hr) (fldK K (pv 0)) (pe_tup (pa_cons (pv 1) (pa_cons (pv 2) pa_nil))) (pv 4) rfl)))))), ?_⟩)
  · obtain ⟨a, dx, pv, g, m, n, cd, wd, kc, kw, i, j, b, rfl, _⟩ := h
    rfl
  obtain ⟨a, dx, pv, g, m, n, cd, wd, kc, kw, i, j, b, rfl, L, o, hi, hj, ncw, lkc, lkw, hB, hb, h⟩ := h
  have om := o.m
  have on := o.n
  refine ⟨_, rfl, a, C, dx, _, _, rfl, L.ob, S.cl, S.n2, rfl, _, rfl, _, _, rfl, rfl, _, rfl, a, C, dx, _, _, rfl, L.ob, S.cl, S.n3, rfl, _, _, rfl, rfl, _, rfl, _, _, rfl, rfl, _, _, rfl, rfl, .inl ⟨by decide, by decide⟩, ?_⟩
  refine ⟨_, rfl, _, rfl, a, C, dx, _, _, rfl, L.ob, S.cl, S.n2, rfl, (i : Int), (m : Int), rfl, ⟨by omega, by omega, by omega, by omega⟩, ?_⟩
  have eu : (((m : Int) - i).toNat) = m - i := by omega
  have ev : (((n : Int) - j).toNat) = n - j := by omega
  rw [eu]
  refine for_range (lo := (i : Int)) (n := m - i) (fun u σ H' => Same H H' ∧ ∃ x5 x6 x7, σ = [some (.ref a), some (.int (i : Nat)), some (.int (j : Nat)), some (.int (bstAll g b m n i j u).1), some (.int (bstAll g b m n i j u).2), x5, x6, x7]) ⟨Same.refl H, _, _, _, rfl⟩ ?_ ?_
  · rintro u σ H1 hu ⟨s1, x5, x6, x7, rfl⟩
    rw [cast_sum]
    refine ⟨_, rfl, _, rfl, a, C, dx, _, _, rfl, s1 _ _ L.ob, S.cl, S.n3, rfl, (j : Int), (n : Int), rfl, ⟨by omega, by omega, by omega, by omega⟩, ?_⟩
    rw [ev]
    refine for_range (lo := (j : Int)) (n := n - j) (fun v σ H' => Same H H' ∧ ∃ x6 x7, σ = [some (.ref a), some (.int (i : Nat)), some (.int (j : Nat)), some (.int (bstRow g b i j (bstAll g b m n i j u) (i + u) v).1), some (.int (bstRow g b i j (bstAll g b m n i j u) (i + u) v).2), some (.int ((i + u : Nat) : Int)), x6, x7]) ⟨s1, _, _, rfl⟩ ?_ ?_
    · rintro v σ H2 hv ⟨s2, y6, y7, rfl⟩
      rw [cast_sum]
      obtain ⟨hc, hw⟩ := hB (i + u + 1) (j + v + 1) (by omega) (by omega) (by omega) (by omega)
      refine ⟨_, rfl, a, dx, _, rfl, s2 _ _ L.ob, rfl, _, rfl, _, rfl, _, rfl, _, rfl, a, dx, pv, g, m, n, cd, wd, kc, kw, i, j, i + u, j + v, _, rfl, L.same s2, o, by omega, by omega, hc, fun H3 s3 => ?_⟩
      have s03 := s2.trans s3
      have em : bstRow g b i j (bstAll g b m n i j u) (i + u) (v + 1) = bstStep (bstRow g b i j (bstAll g b m n i j u) (i + u) v) (3 * (((i + u : Nat) : Int) - i + ((j + v : Nat) : Int) - j) + gAt g (i + u) (j + v) + (b (i + u + 1) (j + v + 1)).1) (b (i + u + 1) (j + v + 1)).2 := bstRow_succ ..
      generalize bstRow g b i j (bstAll g b m n i j u) (i + u) v = x at em ⊢
      generalize 3 * (((i + u : Nat) : Int) - i + ((j + v : Nat) : Int) - j) + gAt g (i + u) (j + v) + (b (i + u + 1) (j + v + 1)).1 = c at em ⊢
      -- how many, read off the table of ways
      have ways : ∀ (σ' : L2.St) (Q' : V → Hp → Prop), σ'[0]? = some (some (.ref a)) → σ'[5]? = some (some (.int ((i + u : Nat) : Int))) → σ'[6]? = some (some (.int ((j + v : Nat) : Int))) → (∀ H', Same H H' → Q' (.int (b (i + u + 1) (j + v + 1)).2) H') →
          tDGet (tFld K (tVar 0) "ways") (tTup (tCons (tOp (rI0 fun i j => V.int (i + j)) (tVar 5) (tC (V.int 1))) (tCons (tOp (rI0 fun i j => V.int (i + j)) (tVar 6) (tC (V.int 1))) tNil))) σ' H3 Q' := fun σ' Q' e0 e5 e6 q => by
        refine ⟨_, e0, a, C, dx, _, _, rfl, s03 _ _ L.ob, S.cl, S.n5, rfl, _, e5, _, _, rfl, rfl, _, e6, _, _, rfl, rfl, by show 2 ≤ sizeLine; decide, fun t ht => ⟨wd, _, rfl, ?_, q _ (s03.trans (Same.made1 ht))⟩⟩
        have e := DGet.t (H := upd H3 t (.tup [.int (((i + u : Nat) : Int) + 1), .int (((j + v : Nat) : Int) + 1)])) (k := key (i + u + 1) (j + v + 1)) ((s03.trans (Same.made1 ht)) _ _ L.wa) upd_same
        rw [hw] at e
        exact e
      refine ⟨_, rfl, _, rfl, _, _, rfl, rfl, _, rfl, ?_⟩
      refine ite_dec rfl (fun c1 => ?_) (fun c1 => ?_)
      · refine ⟨_, rfl, _, rfl, _, rfl, _, _, rfl, rfl, _, rfl, ite_dec rfl (fun _ => ?_) (fun z => absurd rfl z)⟩
        refine ⟨_, rfl, ways _ _ rfl rfl rfl fun H4 s4 => ⟨_, _, rfl, rfl, s4, some (.int ((j + v : Nat) : Int)), some (.int c), ?_⟩⟩
        rw [em]
        unfold bstStep
        rw [if_pos c1]
        have e0 : (0 : Int) + (b (i + u + 1) (j + v + 1)).2 = (b (i + u + 1) (j + v + 1)).2 := Int.zero_add _
        show [_, _, _, _, some (V.int ((0 : Int) + (b (i + u + 1) (j + v + 1)).2)), _, _, _] = _
        rw [e0]
      · refine ⟨_, rfl, _, rfl, _, _, rfl, rfl, _, rfl, ite_dec rfl (fun c2 => ?_) (fun c2 => ?_)⟩
        · refine ⟨_, rfl, ways _ _ rfl rfl rfl fun H4 s4 => ⟨_, _, rfl, rfl, s4, some (.int ((j + v : Nat) : Int)), some (.int c), ?_⟩⟩
          rw [em]
          unfold bstStep
          rw [if_neg c1, if_pos c2]
          rfl
        · refine ⟨s03, some (.int ((j + v : Nat) : Int)), some (.int c), ?_⟩
          rw [em]
          unfold bstStep
          rw [if_neg c1, if_neg c2]
          rfl
    · rintro σ H2 ⟨s2, y6, y7, rfl⟩
      refine ⟨s2, some (.int ((i + u : Nat) : Int)), y6, y7, ?_⟩
      rw [bstAll_succ]
  · rintro σ H1 ⟨s1, x5, x6, x7, rfl⟩
    rw [← hb]
    refine ⟨_, rfl, _, rfl, a, C, dx, _, _, rfl, s1 _ _ L.ob, S.cl, S.n4, rfl, _, rfl, _, rfl, by show 2 ≤ sizeLine; decide, fun t ht => ?_⟩
    have s2 : Same H1 (upd H1 t (.tup [.int (i : Nat), .int (j : Nat)])) := Same.made1 ht
    have ct := s1.trans s2
    refine ⟨cd, _, rfl, .inr ⟨kc, key i j, t, ct _ _ L.co, rfl, upd_same, by rw [sizeLine_eq]; omega, rfl⟩, ?_⟩
    generalize hH2 : upd H1 t (.tup [.int (i : Nat), .int (j : Nat)]) = H2 at s2 ct ⊢
    have acd : a ≠ cd := ne_of L.ob L.co (by intro z; cases z)
    have awd : a ≠ wd := ne_of L.ob L.wa (by intro z; cases z)
    refine ⟨_, rfl, _, rfl, a, C, dx, _, _, rfl, (upd_ne acd).trans (ct _ _ L.ob), S.cl, S.n5, rfl, _, rfl, _, rfl, by show 2 ≤ sizeLine; decide, fun t2 ht2 => ?_⟩
    have t2c : t2 ≠ cd := fun z => by rw [z, upd_same] at ht2; cases ht2
    rw [upd_ne t2c] at ht2
    have wdt : wd ≠ t2 := ne_of_none (ct _ _ L.wa) ht2
    refine ⟨wd, _, rfl, .inr ⟨kw, key i j, t2, ?_, rfl, upd_same, by rw [sizeLine_eq]; omega, rfl⟩, ?_⟩
    · rw [upd_ne wdt, upd_ne (Ne.symm ncw)]
      exact ct _ _ L.wa
    · refine h _ (fun c o' e n1 n2 => ?_) (fun c e => ?_) ?_ upd_same
      · rw [upd_ne n2, upd_ne (ne_of_none (ct _ _ e) ht2), upd_ne n1]
        exact ct _ _ e
      · by_cases z1 : c = wd
        · rw [z1, upd_same] at e
          cases e
        · rw [upd_ne z1] at e
          by_cases z2 : c = t2
          · rw [z2]
            exact ct.free ht2
          · rw [upd_ne z2] at e
            by_cases z3 : c = cd
            · rw [z3, upd_same] at e
              cases e
            · rw [upd_ne z3] at e
              exact ct.free e
      · rw [upd_ne ncw, upd_ne (Ne.symm t2c), upd_same]
end
end MR

namespace MR
open PySem PySem.Spec PyProof.Rows L2
theorem atI_last {α : Type} (xs : List α) (v : α) : atI (xs ++ [v]) (-1) = some v := by
  unfold atI
  have e : ixN (xs ++ [v]).length (-1) = some xs.length := by
    unfold ixN
    rw [if_neg (by decide), if_pos (by rw [List.length_append, List.length_singleton]; omega)]
    rw [List.length_append, List.length_singleton]
    congr 1
    omega
  rw [e]
  show (xs ++ [v])[xs.length]? = some v
  rw [List.getElem?_append_right (Nat.le_refl _), Nat.sub_self]
  rfl
/-- one step of the first longest rising part -/
theorem firstRising_cons (p : Nat × Nat) (l : List (Nat × Nat)) (last : Option Nat) (need : Nat) : Vatdfb.firstRising (p :: l) last need = if need ≠ 0 ∧ (last.all fun j => decide (j < p.2)) = true ∧ (Vatdfb.risingFrom (p :: l)).head? == some need then p :: Vatdfb.firstRising l (some p.2) (need - 1) else Vatdfb.firstRising l last need := rfl
/-- the pairs of a list, told by numbers, in the heap -/
theorem dAll_pN {K : PySem.W.Frag} {H : Hp} {xs : List V} {l : List (Nat × Nat)} {i : Nat} {x : V} (h : DpAll K H xs (l.map fun p => dP (pN p))) (e : xs[i]? = some x) : ∃ r, l[i]? = some r ∧ Dp K H x (dP (pN r)) := DpAll.item (enc := fun p => dP (pN p)) h e
/-- behind i pairs: those taken so far, how long the rest has to be -/
def FlInv (K : PySem.W.Frag) (l : List (Nat × Nat)) (p g D : Addr) (H2 : Hp) (i : Nat) (σ : L2.St) (H' : Hp) : Prop := ∃ (acc : List V) (part : List (Nat × Nat)) (need : Nat) (u v : Option V),
  σ = [some (.ref p), some (.ref g), some (.int (need : Nat)), some (.ref D), u, v, none, none] ∧ Same H2 H' ∧ H' D = some (.lst acc) ∧ DpAll K H' acc (part.map fun p => dP (pN p)) ∧ part.length ≤ i ∧
  Vatdfb.longestRising l = part ++ Vatdfb.firstRising (l.drop i) ((part.getLast?).map fun p => p.2) need
section
variable {P : Program} {w : World} {K : PySem.W.Frag} {mg : Str → Option Value} {base : Heap} {f : Addr} {fd : FuncData} {C : Addr}
abbrev s_first_longest_part : Stmt := topS 5
theorem sc_first_longest_part : FnScope ["pairs", "lengths", "wanted", "part", "place", "pair", "old", "new"] ["pairs"] (defScope s_first_longest_part) := ⟨rfl, rfl, rfl, by decide +kernel, rfl, by decide +kernel, by decide +kernel⟩
def sp_first_longest_part (K : PySem.W.Frag) : Sp := fun vs H Q _ => ∃ (v : V) (l : List (Nat × Nat)), vs = [v] ∧ Dp K H v (dL dP (l.map pN)) ∧ l.length ≤ 1000 ∧ Ans K H Q (dL dP ((Vatdfb.longestRising l).map pN))
theorem ok_first_longest_part (T : Tops mg) (C_rising_lengths : CalX P w K mg base CX0 1 "rising_lengths" (sp_rising_lengths K)) (F : Fun K "first_longest_part" "first_longest_part" s_first_longest_part f fd) : FnOk P w K mg base CX0 2 f fd ["pairs"] (sp_first_longest_part K) := by
  refine F.ok sc_first_longest_part (fun vs H Q E h => ?_) (fun cdv A outer s H vs Q E hr h => ⟨_, (pss_cons (ps_set (i := 1) sc_first_longest_part.nd rfl (Or.inl rfl) (pe_k C_rising_lengths hr (by decide) (by rfl) (fun _ => quiet) (pa_cons (pe_lc (own := [("old", 6), ("new", 7)]) rfl sc_first_longest_part.nd (lstK K (pv 0)) (blkOk_by (N := ["pairs", "lengths", "wanted", "part", "place", "pair", "old", "new"]) (sc := defScope s_first_longest_part) (by decide +kernel)) (fun _ _ _ _ _ => (tupK K (n := 2) (pgs_cons (pg_name (i := 6) sc_first_longest_part.nd rfl (Or.inl rfl)) (pgs_cons (pg_name (i := 7) sc_first_longest_part.nd rfl (Or.inl rfl)) pgs_nil)))) (fun _ _ _ _ _ => pts_nil) (fun _ _ _ _ _ => (pv 7))) pa_nil)))
  (pss_cons (ps_set (i := 2) sc_first_longest_part.nd rfl (Or.inl rfl) (pe_callBK (maxK K (hu_of hr)) (by rfl) T.n_max (by decide +kernel) (pa_cons (pv 1) pa_nil) (pk_cons pe_int pk_nil)))
  (pss_cons (ps_set (i := 3) sc_first_longest_part.nd rfl (Or.inl rfl) (pe_lst pa_nil))
  (pss_cons (ps_for PassesOwn.never rfl (enumK K (by rfl) T.n_enumerate (pa_cons (pv 0) pa_nil)) (tupK K (n := 2) (pgs_cons (pg_name (i := 4) sc_first_longest_part.nd rfl (Or.inl rfl)) (pgs_cons (pg_name (i := 5) sc_first_longest_part.nd rfl (Or.inl rfl)) pgs_nil)))
   (pss_one (ps_if (PW.pt (pw_and (pt_cmpR op_eqI (pe_ix (ixL K) (pv 1) (pv 4) (fun _ _ => rfl)) (pv 2) (nomark _)) (pw_and1 (PW.pt (pw_or (pt_cmpR op_eqI (pe_callB (lenK K) (by rfl) T.n_len PySem.boot_len (pa_cons (pv 3) pa_nil)) pe_int (nomark _)) (pw_or1 (pt_cmpR op_lt (pe_ix (ixT K) (pe_ix (ixL K) (pv 3) (pe_un un_neg pe_int) (fun _ _ => rfl)) pe_int (fun _ _ => rfl)) (pe_ix (ixT K) (pv 5) pe_int (fun _ _ => rfl)) (nomark _))))))))
   (pss_cons (ps_expr (pe_bm PySem.F.plainAttrs_list PySem.F.slot_list_append PySem.F.type_list_append mt_append (pv 3) (pa_cons (pv 5) pa_nil)))
  (pss_one (ps_aug (i := 2) sc_first_longest_part.nd rfl (Or.inl rfl) pe_int ip_sub))) pss_nil)))
  (pss_one (ps_ret (pv 3))))))), ?_⟩)
  · obtain ⟨v, l, rfl, _⟩ := h
    rfl
  obtain ⟨v, l, rfl, dv, hl, h⟩ := h
  rw [dP_pN] at dv
  obtain ⟨p, xs, rfl, hp, hx⟩ := Dp.list dv
  have hxl : xs.length = l.length := by rw [DpAll.length hx, List.length_map]
  refine ⟨_, rfl, p, rfl, ⟨xs, hp⟩, fun B hB => ?_⟩
  refine lc_L (K := K) (enc := fun q => dP (pN q)) (l := l) (fun q => some (dI q.2)) (by omega) hB hp hx ?_ ?_
  · intro i r x H2 acc hr2 s2 hacc dx Kt Kf ht hf
    obtain ⟨t, rfl, hT⟩ := Dp.pair dx
    exact ⟨t, _, rfl, hT, rfl, _, _, rfl, _, _, rfl, rfl, rfl, lc_yes ⟨_, rfl, ht _ _ _ rfl (Same.refl _) (.int _)⟩⟩
  intro H1 s1 d1
  have e1 : PyData.list (l.filterMap fun q => some (dI q.2)) = dLI ((l.map fun p => p.2).map Int.ofNat) := by
    rw [filterMap_some_map]
    show _ = PyData.list (((l.map fun p => p.2).map Int.ofNat).map dI)
    rw [List.map_map, List.map_map]
    rfl
  rw [e1] at d1
  obtain ⟨b1, eb1, hb1⟩ := Dp.ints (dmono nw_in d1)
  cases eb1
  refine ⟨B, _, rfl, hb1, by rw [List.length_map]; exact hl, fun g H2 s2 ng hg => ?_⟩
  refine ⟨_, rfl, maxOr_nat (SqL.of hg) ?_⟩
  refine ⟨Nat.zero_le _, fun D hD => ?_⟩
  have s3 : Same H2 (upd H2 D (.lst [])) := Same.made1 hD
  have hD3 : upd H2 D (.lst []) D = some (.lst []) := upd_same
  generalize upd H2 D (.lst []) = H3 at s3 hD3 ⊢
  have s03 := (s1.trans s2).trans s3
  have nD : H D = none := (s1.trans s2).free hD
  have hD2 : H2 D = none := hD
  have hp3 := s03.seq hp
  refine ⟨_, rfl, p, xs, rfl, hp3, ?_⟩
  have hgl := rl_len (l.map fun p => p.2)
  rw [List.length_map] at hgl
  refine for_E (K := K) (FlInv K l p g D H2)
    ⟨[], [], mx (rl (l.map fun p => p.2)), none, none, rfl, s3, hD3, .nil, Nat.le_refl _, ?_⟩ (fun i σ H' _ ⟨_, _, _, _, _, _, z, _⟩ => (s1.trans s2).trans z |>.seq hp) ?_ ?_
  · rw [rl_longest]
    rfl
  · rintro i x σ H4 tT hi ⟨acc, part, need, u, v, rfl, s4, hD4, hacc, hpl, hfr⟩ hT
    obtain ⟨r, hr0, dx0⟩ := dAll_pN hx hi
    have hil : i < l.length := (List.getElem?_eq_some_iff.mp hr0).1
    have sT : Same H4 (upd H4 tT (.tup [.int (i : Nat), x])) := Same.made1 hT
    have hDT := sT _ _ hD4
    have hTT : upd H4 tT (.tup [.int (i : Nat), x]) tT = some (.tup [.int (i : Nat), x]) := upd_same
    refine ⟨tT, _, rfl, .inl (.inl hTT), rfl, _, _, rfl, _, _, rfl, rfl, ?_⟩
    generalize upd H4 tT (.tup [.int (i : Nat), x]) = H5 at sT hDT hTT ⊢
    have s5 := s4.trans sT
    have s05 := (s1.trans s2).trans s5
    obtain ⟨t, rfl, ht⟩ := Dp.pair (dmono s05 dx0)
    have elr : l.drop i = r :: l.drop (i + 1) := by
      rw [List.drop_eq_getElem_cons hil]
      congr 1
      rw [List.getElem?_eq_getElem hil] at hr0
      exact Option.some.inj hr0
    have hgi : i < (rl (l.map fun p => p.2)).length := by rw [hgl]; exact hil
    have ehd : (Vatdfb.risingFrom (l.drop i)).head? = (rl (l.map fun p => p.2))[i]? := by
      rw [rl_from, List.map_drop, ← rl_drop, List.head?_drop]
    rw [elr] at ehd hfr
    rw [firstRising_cons, ehd] at hfr
    have eg : ((rl (l.map fun p => p.2))[i]?).getD 0 = (rl (l.map fun p => p.2))[i] := by rw [List.getElem?_eq_getElem hgi]; rfl
    have hgv : (rl (l.map fun p => p.2))[i]? = some (rl (l.map fun p => p.2))[i] := List.getElem?_eq_getElem hgi
    have pos : 0 < (rl (l.map fun p => p.2))[i] := by
      have := rl_at (l := l.map fun p => p.2) (q := i) (by rw [List.length_map]; exact hil)
      have h2 : (rl (l.map fun p => p.2))[i]? = ((rl (l.map fun p => p.2)).drop i).head? := List.head?_drop.symm
      rw [rl_drop, this, hgv] at h2
      have := Option.some.inj h2
      omega
    have hal : acc.length = part.length := by rw [DpAll.length hacc, List.length_map]
    -- the pair isn't taken
    have skip : ¬ (need ≠ 0 ∧ (((part.getLast?).map fun p => p.2).all fun j => decide (j < r.2)) = true ∧ ((rl (l.map fun p => p.2))[i]? == some need) = true) →
        FlInv K l p g D H2 (i + 1) [some (V.ref p), some (.ref g), some (.int (need : Nat)), some (.ref D), some (V.int (i : Nat)), some (.ref t), none, none] H5 := fun hc => by
      rw [if_neg hc] at hfr
      exact ⟨acc, part, need, _, _, rfl, s5, hDT, dmonoAll sT hacc, by omega, hfr⟩
    have nDH : H2 D = none := hD
    have take : (need ≠ 0 ∧ (((part.getLast?).map fun p => p.2).all fun j => decide (j < r.2)) = true ∧ ((rl (l.map fun p => p.2))[i]? == some need) = true) →
        FlInv K l p g D H2 (i + 1) [some (V.ref p), some (.ref g), some (.int ((need : Nat) - 1)), some (.ref D), some (V.int (i : Nat)), some (.ref t), none, none] (upd H5 D (.lst (acc ++ [.ref t]))) := fun hc => by
      rw [if_pos hc] at hfr
      have up : ∀ c o, H5 c = some o → c ≠ D → upd H5 D (.lst (acc ++ [.ref t])) c = some o := fun c o e nc => by rw [upd_ne nc]; exact e
      have s6 : Same H2 (upd H5 D (.lst (acc ++ [.ref t]))) := fun c o e => up c o (s5 _ _ e) (ne_of_none e nDH)
      have s06 : Same H (upd H5 D (.lst (acc ++ [.ref t]))) := (s1.trans s2).trans s6
      have cut : ∀ {vs : List V} {k : List (Nat × Nat)}, DpAll K H vs (k.map fun p => dP (pN p)) → DpAll K (upd H5 D (.lst (acc ++ [.ref t]))) vs (k.map fun p => dP (pN p)) := fun h => dmonoAll s06 h
      refine ⟨acc ++ [.ref t], part ++ [r], need - 1, some (V.int (i : Nat)), some (.ref t), ?_, s6, upd_same, ?_, by rw [List.length_append, List.length_singleton]; omega, ?_⟩
      · rw [show ((need - 1 : Nat) : Int) = (need : Nat) - 1 from by have := hc.1; omega]
      · rw [List.map_append]
        refine DpAll.snoc ?_ (dmono s06 dx0)
        have lst : ∀ {vs : List V} {k : List (Nat × Nat)}, DpAll K H4 vs (k.map fun p => dP (pN p)) → DpAll K (upd H5 D (.lst (acc ++ [.ref t]))) vs (k.map fun p => dP (pN p)) := by
          intro vs k
          induction k generalizing vs with
          | nil =>
            intro h
            cases h
            exact .nil
          | cons q k ih =>
            intro h
            cases h with
            | cons h1 h2 =>
              refine .cons ?_ (ih h2)
              obtain ⟨b, rfl, hb⟩ := Dp.pair h1
              have hb : SqT K (upd H5 D (.lst (acc ++ [.ref t]))) b [.int (pN q).1, .int (pN q).2] := by
                rcases hb with (hb | ⟨ob, hb⟩) | hb
                · exact .inl (.inl (up _ _ (sT _ _ hb) (ne_of hb hD4 fun z => nomatch z)))
                · exact .inl (.inr ⟨ob, up _ _ (sT _ _ hb) (ne_of hb hD4 fun z => nomatch z)⟩)
                · exact .inr hb
              exact .tup hb (.cons (.int _) (.cons (.int _) .nil))
        exact lst hacc
      · rw [hfr, List.getLast?_append, List.append_assoc]
        rfl
    refine ⟨_, rfl, _, rfl, g, _, _, .int (((rl (l.map fun p => p.2))[i]?).getD 0 : Nat), rfl, rfl, SqL.of (s5 _ _ hg), at_of (j := i) rfl (getD_nat hgi), _, rfl, _, _, rfl, rfl, _, rfl, ?_⟩
    rw [eg]
    refine ite_dec rfl (fun c1 => ?_) (fun c1 => ?_)
    · have c1 : (rl (l.map fun p => p.2))[i] = need := by omega
      refine ⟨_, rfl, D, _, rfl, .inl (SqL.of hDT), _, _, rfl, rfl, _, rfl, ?_⟩
      have szl : (2000 : Nat) ≤ sizeLine := by decide
      rcases List.eq_nil_or_concat part with q | ⟨ps, z, q⟩
      · have ea : acc = [] := List.length_eq_zero_iff.mp (by rw [hal, q]; rfl)
        have e0 : decide (((acc.length : Nat) : Int) = 0) = true := by rw [ea]; rfl
        rw [e0]
        refine iteT (iteT ?_)
        refine ⟨_, rfl, .inl ⟨rfl, _, SqL.of hDT⟩, _, rfl, D, _, _, rfl, rfl, hDT, by omega, ?_⟩
        exact ⟨_, rfl, _, _, rfl, rfl, take ⟨by omega, by rw [q]; rfl, by rw [hgv, c1]; simp⟩⟩
      · have q : part = ps ++ [z] := by rw [q, List.concat_eq_append]
        have e0 : decide (((acc.length : Nat) : Int) = 0) = false := decide_eq_false (by rw [hal, q, List.length_append, List.length_singleton]; omega)
        rw [e0]
        refine iteF ?_
        rw [q, List.map_append] at hacc
        obtain ⟨as, av, rfl⟩ : ∃ as av, acc = as ++ [av] := by
          rcases List.eq_nil_or_concat acc with y | ⟨as, av, y⟩
          · rw [y, q, List.length_append, List.length_singleton] at hal
            exact absurd hal (by show ¬ 0 = _; omega)
          · exact ⟨as, av, by rw [y, List.concat_eq_append]⟩
        have hlen : as.length = ps.length := by
          rw [q, List.length_append, List.length_append, List.length_singleton, List.length_singleton] at hal
          omega
        have dz : Dp K H4 av (dP (pN z)) := by
          obtain ⟨d, h1, h2⟩ := DpAll.get' (i := as.length) (v := av) hacc (by rw [List.getElem?_append_right (Nat.le_refl _), Nat.sub_self]; rfl)
          rw [List.getElem?_append_right (by rw [List.length_map]; omega), List.length_map, hlen, Nat.sub_self] at h1
          cases h1
          exact h2
        obtain ⟨tz, rfl, hz⟩ := Dp.pair (dmono sT dz)
        have el : ((part.getLast?).map fun p => p.2) = some z.2 := by rw [q, List.getLast?_append]; rfl
        refine ⟨_, rfl, _, rfl, D, _, _, _, rfl, rfl, SqL.of hDT, atI_last _ _, tz, _, _, _, rfl, rfl, hz, at_of (j := 1) rfl rfl, _, rfl, t, _, _, _, rfl, rfl, ht, at_of (j := 1) rfl rfl, _, _, rfl, rfl, _, rfl, ?_⟩
        refine ite_dec (c := z.2 < r.2) (decide_eq_decide.mpr (by show ((z.2 : Nat) : Int) < (r.2 : Nat) ↔ _; omega)) (fun c2 => ?_) (fun c2 => ?_)
        · refine ⟨_, rfl, .inl ⟨rfl, _, SqL.of hDT⟩, _, rfl, D, _, _, rfl, rfl, hDT, by omega, ?_⟩
          exact ⟨_, rfl, _, _, rfl, rfl, take ⟨by omega, by rw [el]; exact decide_eq_true c2, by rw [hgv, c1]; simp⟩⟩
        · refine skip fun hc => c2 ?_
          have := hc.2.1
          rw [el] at this
          exact of_decide_eq_true this
    · refine iteF (skip fun hc => c1 ?_)
      have := hc.2.2
      rw [hgv] at this
      have : (rl (l.map fun p => p.2))[i] = need := by simpa using this
      rw [this]
  · rintro σ H4 ⟨acc, part, need, u, v, rfl, s4, hD4, hacc, hpl, hfr⟩
    rw [hxl, List.drop_length] at hfr
    have hfr : Vatdfb.longestRising l = part := by rw [hfr]; exact List.append_nil part
    refine ⟨_, rfl, h _ _ ((s1.trans s2).trans s4) ?_⟩
    rw [hfr, dP_pN]
    exact .lst (SqL.of hD4) hacc
end
end MR

namespace MR
open PySem PySem.Spec PyProof.Rows L2
/-- the pair that comes next in the k-th matching, and the place that is left: over the pairs in their order -/
def scan (g : List (List Int)) (b : Nat → Nat → Int × Int) (i j : Nat) (k : Int) : List (Nat × Nat) → Int → Option (Nat × Nat × Int)
  | [], _ => none
  | p :: l, ahead => if wayCost g b i j p.1 p.2 = (b i j).1 then (if k < ahead + (b (p.1 + 1) (p.2 + 1)).2 then some (p.1, p.2, k - ahead) else scan g b i j k l (ahead + (b (p.1 + 1) (p.2 + 1)).2)) else scan g b i j k l ahead
/-- from the v-th on of a row -/
def rowFrom (n j p v : Nat) : List (Nat × Nat) := (List.range' v (n - j - v)).map fun q => (p, j + q)
def rowsFrom (m n i j u : Nat) : List (Nat × Nat) := (List.range' u (m - i - u)).flatMap fun p => rowFrom n j (i + p) 0
theorem rowFrom_at {n j p v : Nat} (h : v < n - j) : rowFrom n j p v = (p, j + v) :: rowFrom n j p (v + 1) := by
  unfold rowFrom
  have e : n - j - v = (n - j - (v + 1)) + 1 := by omega
  rw [e, List.range'_succ]
  rfl
theorem rowFrom_end {n j p v : Nat} (h : n - j ≤ v) : rowFrom n j p v = [] := by
  unfold rowFrom
  have e : n - j - v = 0 := by omega
  rw [e]
  rfl
theorem rowsFrom_at {m n i j u : Nat} (h : u < m - i) : rowsFrom m n i j u = rowFrom n j (i + u) 0 ++ rowsFrom m n i j (u + 1) := by
  unfold rowsFrom
  have e : m - i - u = (m - i - (u + 1)) + 1 := by omega
  rw [e, List.range'_succ, List.flatMap_cons]
theorem rowsFrom_end {m n i j u : Nat} (h : m - i ≤ u) : rowsFrom m n i j u = [] := by
  unfold rowsFrom
  have e : m - i - u = 0 := by omega
  rw [e]
  rfl
/-- what is told of each place -/
def Told (b : Nat → Nat → Int × Int) (m n : Nat) (kc kw : Kvs) : Prop := ∀ p q, p ≤ m → q ≤ n → valV kc (key p q) = some (.int (b p q).1) ∧ valV kw (key p q) = some (.int (b p q).2)
/-- over pairs that are told already -/
def scanF (b : Nat → Nat → Int × Int) (k : Int) : List (Nat × Nat) → Int → Option (Nat × Nat × Int)
  | [], _ => none
  | p :: l, ahead => if k < ahead + (b (p.1 + 1) (p.2 + 1)).2 then some (p.1, p.2, k - ahead) else scanF b k l (ahead + (b (p.1 + 1) (p.2 + 1)).2)
abbrev tightB (g : List (List Int)) (b : Nat → Nat → Int × Int) (i j : Nat) (p : Nat × Nat) : Bool := decide (wayCost g b i j p.1 p.2 = (b i j).1)
/-- with which pairs the least ones begin -/
def firstsM (g : List (List Int)) (b : Nat → Nat → Int × Int) (m n i j : Nat) : List (Nat × Nat) := (rowsFrom m n i j 0).filter (tightB g b i j)
theorem scan_F (g : List (List Int)) (b : Nat → Nat → Int × Int) (i j : Nat) (k : Int) : ∀ (l : List (Nat × Nat)) (x : Int), scan g b i j k l x = scanF b k (l.filter (tightB g b i j)) x
  | [], x => rfl
  | p :: l, x => by
    have e : scan g b i j k (p :: l) x = if wayCost g b i j p.1 p.2 = (b i j).1 then (if k < x + (b (p.1 + 1) (p.2 + 1)).2 then some (p.1, p.2, k - x) else scan g b i j k l (x + (b (p.1 + 1) (p.2 + 1)).2)) else scan g b i j k l x := rfl
    rw [e, List.filter_cons]
    by_cases c : wayCost g b i j p.1 p.2 = (b i j).1
    · rw [if_pos c, if_pos (decide_eq_true c), scan_F g b i j k l]
      rfl
    · rw [if_neg c, if_neg (by rw [show tightB g b i j p = false from decide_eq_false c]; exact Bool.false_ne_true), scan_F g b i j k l]
theorem mem_rows {m n i j : Nat} {p : Nat × Nat} (h : p ∈ rowsFrom m n i j 0) : (i ≤ p.1 ∧ p.1 < m) ∧ j ≤ p.2 ∧ p.2 < n := by
  unfold rowsFrom rowFrom at h
  simp only [Nat.sub_zero, ← List.range_eq_range', List.mem_flatMap, List.mem_map, List.mem_range] at h
  obtain ⟨a, ha, c, hc, rfl⟩ := h
  exact ⟨⟨by show i ≤ i + a; omega, by show i + a < m; omega⟩, by show j ≤ j + c; omega, by show j + c < n; omega⟩
theorem mem_firsts {g : List (List Int)} {b : Nat → Nat → Int × Int} {m n i j : Nat} {p : Nat × Nat} (h : p ∈ firstsM g b m n i j) : (i ≤ p.1 ∧ p.1 < m) ∧ j ≤ p.2 ∧ p.2 < n := mem_rows (List.mem_filter.mp h).1
theorem rowFrom_len (n j p v : Nat) : (rowFrom n j p v).length ≤ n := by
  unfold rowFrom
  rw [List.length_map, List.length_range']
  omega
theorem rowsFrom_len (m n i j : Nat) : ∀ (k u : Nat), (((List.range' u k).flatMap fun p => rowFrom n j (i + p) 0)).length ≤ k * n
  | 0, u => Nat.zero_le _
  | k + 1, u => by
    rw [List.range'_succ, List.flatMap_cons, List.length_append, Nat.succ_mul]
    have := rowsFrom_len m n i j k (u + 1)
    have := rowFrom_len n j (i + u) 0
    omega
theorem firsts_len {g : List (List Int)} {b : Nat → Nat → Int × Int} {m n i j : Nat} : (firstsM g b m n i j).length ≤ m * n := by
  refine Nat.le_trans (List.length_filter_le _ _) ?_
  unfold rowsFrom
  refine Nat.le_trans (rowsFrom_len m n i j _ _) (Nat.mul_le_mul_right n (by omega))
/-- how many ways ahead of a pair -/
def waysA (b : Nat → Nat → Int × Int) (q : Nat × Nat) : List (Nat × Nat) → Int → Int
  | [], x => x
  | p :: l, x => if p = q then x else waysA b q l (x + (b (p.1 + 1) (p.2 + 1)).2)
/-- the place, from a place on -/
def placeM (g : List (List Int)) (b : Nat → Nat → Int × Int) (m n : Nat) : Nat → Nat → List (Nat × Nat) → Int
  | _, _, [] => 0
  | i, j, p :: l => waysA b p (firstsM g b m n i j) 0 + placeM g b m n (p.1 + 1) (p.2 + 1) l
theorem eqv_dP (p q : Int × Int) : PyData.eqv (dP p) (dP q) = decide (p = q) := by
  have e : PyData.eqv (dP p) (dP q) = ((p.1 == q.1) && ((p.2 == q.2) && true)) := by simp only [dP, PyData.eqv, PyData.eqvAll]
  rw [e, Bool.and_true]
  by_cases h1 : p.1 = q.1
  · by_cases h2 : p.2 = q.2
    · rw [h1, h2, beq_self_eq_true, beq_self_eq_true]
      exact (decide_eq_true (Prod.ext h1 h2)).symm
    · rw [beq_eq_false_iff_ne.mpr h2, Bool.and_false]
      exact (decide_eq_false fun z => h2 (by rw [z])).symm
  · rw [beq_eq_false_iff_ne.mpr h1, Bool.false_and]
    exact (decide_eq_false fun z => h1 (by rw [z])).symm
theorem shaped_dP (p : Int × Int) : SeqAt.shaped (dP p) = true := by
  show ((dP p).canLay0 && decide ((dP p).depth ≤ 64)) = true
  simp [dP, PyData.canLay0, PyData.canLayAll0, PyData.depth, PyData.depthAll]
theorem pN_inj' {p q : Nat × Nat} : (pN p = pN q) = (p = q) := by
  refine propext ⟨fun h => ?_, fun h => by rw [h]⟩
  obtain ⟨h1, h2⟩ := Prod.mk.inj h
  exact Prod.ext (by omega) (by omega)
section
variable {P : Program} {w : World} {K : PySem.W.Frag} {mg : Str → Option Value} {base : Heap} {f : Addr} {fd : FuncData} {C CE CT : Addr}
abbrev s_LeastMatchings_ways_behind : Stmt := inClass (topS 14) 3
theorem sc_LeastMatchings_ways_behind : FnScope ["self", "pair"] ["self", "pair"] (defScope s_LeastMatchings_ways_behind) := ⟨rfl, rfl, rfl, by decide +kernel, rfl, by decide +kernel, by decide +kernel⟩
def sp_ways_behind (K : PySem.W.Frag) (C : Addr) : Sp := fun vs H Q _ => ∃ (a dx : Addr) (pv : V) (g : List (List Int)) (m n : Nat) (cd wd : Addr) (kc kw : Kvs) (b : Nat → Nat → Int × Int) (t : Addr) (p : Nat × Nat),
  vs = [.ref a, .ref t] ∧ LmAt K C H a dx pv g m n cd wd kc kw ∧ Told b m n kc kw ∧ SqT K H t [.int (p.1 : Nat), .int (p.2 : Nat)] ∧ p.1 < m ∧ p.2 < n ∧ ∀ H', Same H H' → Q (.int (b (p.1 + 1) (p.2 + 1)).2) H'
theorem ok_ways_behind (T : Tops mg) (S : LmC K C) (F : Fun K "ways_behind" "LeastMatchings.ways_behind" s_LeastMatchings_ways_behind f fd) : FnOk P w K mg base CX0 1 f fd ["self", "pair"] (sp_ways_behind K C) := by
  refine F.ok sc_LeastMatchings_ways_behind (fun vs H Q E h => ?_) (fun cdv A outer s H vs Q E hr h => ⟨_, (pss_one (ps_ret (pe_dget (hu_of hr) (fldK K (pv 0)) (pe_tup (pa_cons (pe_op op_add (pe_ix (ixT K) (pv 1) pe_int (fun _ _ => rfl)) pe_int) (pa_cons (pe_op op_add (pe_ix (ixT K) (pv 1) pe_int (fun _ _ => rfl)) pe_int) pa_nil))) (fun _ _ => rfl)))), ?_⟩)
  · obtain ⟨a, dx, pv, g, m, n, cd, wd, kc, kw, b, t, p, rfl, _⟩ := h
    rfl
  obtain ⟨a, dx, pv, g, m, n, cd, wd, kc, kw, b, t, p, rfl, L, hB, ht, h1, h2, h⟩ := h
  obtain ⟨_, hw⟩ := hB (p.1 + 1) (p.2 + 1) (by omega) (by omega)
  refine ⟨_, rfl, a, C, dx, _, _, rfl, L.ob, S.cl, S.n5, rfl, _, rfl, t, _, _, _, rfl, rfl, ht, at_of (j := 0) rfl rfl, _, _, rfl, rfl, _, rfl, t, _, _, _, rfl, rfl, ht, at_of (j := 1) rfl rfl, _, _, rfl, rfl, by show 2 ≤ sizeLine; decide, fun t5 ht5 => ⟨wd, .int (b (p.1 + 1) (p.2 + 1)).2, rfl, ?_, h _ (Same.made1 ht5)⟩⟩
  have e := DGet.t (H := upd H t5 (.tup [.int ((p.1 : Nat) + 1), .int ((p.2 : Nat) + 1)])) (k := key (p.1 + 1) (p.2 + 1)) ((Same.made1 ht5) _ _ L.wa) upd_same
  rw [hw] at e
  exact e

abbrev s_LeastMatchings_first_pairs : Stmt := inClass (topS 14) 6
theorem sc_LeastMatchings_first_pairs : FnScope ["self", "old", "new", "firsts", "first_old", "first_new"] ["self", "old", "new"] (defScope s_LeastMatchings_first_pairs) := ⟨rfl, rfl, rfl, by decide +kernel, rfl, by decide +kernel, by decide +kernel⟩
def sp_first_pairs (K : PySem.W.Frag) (C : Addr) : Sp := fun vs H Q _ => ∃ (a dx : Addr) (pv : V) (g : List (List Int)) (m n : Nat) (cd wd : Addr) (kc kw : Kvs) (i j : Nat) (b : Nat → Nat → Int × Int),
  vs = [.ref a, .int (i : Nat), .int (j : Nat)] ∧ LmAt K C H a dx pv g m n cd wd kc kw ∧ GridOk g m n ∧ m ≤ 100 ∧ n ≤ 100 ∧ i ≤ m ∧ j ≤ n ∧ Told b m n kc kw ∧
  ∀ p acc H', Same H H' → nw H H' p = some (.lst acc) → TupAll (nw H H') acc ((firstsM g b m n i j).map pN) → Q (.ref p) H'
theorem ok_first_pairs (T : Tops mg) (S : LmC K C) (C_LeastMatchings_cost_by_first : MetX P w K mg base CX0 1 C "cost_by_first" (sp_cost_by_first K C)) (F : Fun K "first_pairs" "LeastMatchings.first_pairs" s_LeastMatchings_first_pairs f fd) : FnOk P w K mg base CX0 2 f fd ["self", "old", "new"] (sp_first_pairs K C) := by
  refine F.ok sc_LeastMatchings_first_pairs (fun vs H Q E h => ?_) (fun cdv A outer s H vs Q E hr h => ⟨_, (pss_cons (ps_set (i := 3) sc_LeastMatchings_first_pairs.nd rfl (Or.inl rfl) (pe_lst pa_nil))
  (pss_cons (ps_for PassesOwn.never rfl (pi_range2 (by rfl) T.n_range (pa_cons (pv 1) (pa_cons (fldK K (pv 0)) pa_nil))) (pg_name (i := 4) sc_LeastMatchings_first_pairs.nd rfl (Or.inl rfl))
   (pss_one (ps_for PassesOwn.never rfl (pi_range2 (by rfl) T.n_range (pa_cons (pv 2) (pa_cons (fldK K (pv 0)) pa_nil))) (pg_name (i := 5) sc_LeastMatchings_first_pairs.nd rfl (Or.inl rfl))
   (pss_one (ps_if (pt_cmpR op_eqI (pe_m (pv 0) C_LeastMatchings_cost_by_first hr (by decide) (fun _ => quiet) (pa_cons (pv 1) (pa_cons (pv 2) (pa_cons (pv 4) (pa_cons (pv 5) pa_nil))))) (pe_dget (hu_of hr) (fldK K (pv 0)) (pe_tup (pa_cons (pv 1) (pa_cons (pv 2) pa_nil))) (fun _ _ => rfl)) (nomark _))
   (pss_one (ps_expr (pe_bm PySem.F.plainAttrs_list PySem.F.slot_list_append PySem.F.type_list_append mt_append (pv 3) (pa_cons (pe_tup (pa_cons (pv 4) (pa_cons (pv 5) pa_nil))) pa_nil)))) pss_nil)))))
  (pss_one (ps_ret (pv 3))))), ?_⟩)
  · obtain ⟨a, dx, pv, g, m, n, cd, wd, kc, kw, i, j, b, rfl, _⟩ := h
    rfl
  obtain ⟨a, dx, pv, g, m, n, cd, wd, kc, kw, i, j, b, rfl, L, o, om, on, hi, hj, hB, hyes⟩ := h
  refine ⟨Nat.zero_le _, fun D hD => ?_⟩
  have s0 : Same H (upd H D (.lst [])) := Same.made1 hD
  have hD0 : upd H D (.lst []) D = some (.lst []) := upd_same
  generalize upd H D (.lst []) = H0 at s0 hD0 ⊢
  -- so many pairs are told, the rest is looked through
  let W : List (Nat × Nat) → Hp → Prop := fun rest H' => Same H H' ∧ ∃ acc l, H' D = some (.lst acc) ∧ TupAll (hd D (nw H H')) acc (l.map pN) ∧ firstsM g b m n i j = l ++ rest.filter (tightB g b i j)
  refine ⟨_, rfl, _, rfl, a, C, dx, _, _, rfl, s0 _ _ L.ob, S.cl, S.n2, rfl, (i : Int), (m : Int), rfl, ⟨by omega, by omega, by omega, by omega⟩, ?_⟩
  have eu : (((m : Int) - i).toNat) = m - i := by omega
  have ev : (((n : Int) - j).toNat) = n - j := by omega
  rw [eu]
  refine for_range (lo := (i : Int)) (n := m - i) (fun u σ H' => W (rowsFrom m n i j u) H' ∧ ∃ x4 x5, σ = [some (.ref a), some (.int (i : Nat)), some (.int (j : Nat)), some (.ref D), x4, x5]) ⟨⟨s0, [], [], hD0, TupAll.nil, rfl⟩, _, _, rfl⟩ ?_ ?_
  · rintro u σ H1 hu ⟨w1, x4, x5, rfl⟩
    rw [cast_sum]
    refine ⟨_, rfl, _, rfl, a, C, dx, _, _, rfl, w1.1 _ _ L.ob, S.cl, S.n3, rfl, (j : Int), (n : Int), rfl, ⟨by omega, by omega, by omega, by omega⟩, ?_⟩
    rw [ev]
    refine for_range (lo := (j : Int)) (n := n - j) (fun v σ H' => W (rowFrom n j (i + u) v ++ rowsFrom m n i j (u + 1)) H' ∧ ∃ x5, σ = [some (.ref a), some (.int (i : Nat)), some (.int (j : Nat)), some (.ref D), some (.int ((i + u : Nat) : Int)), x5]) ⟨by rw [← rowsFrom_at hu]; exact w1, _, rfl⟩ ?_ ?_
    · rintro v σ H2 hv ⟨⟨s2, acc, l, hD2, hacc, hl⟩, x5, rfl⟩
      rw [cast_sum]
      obtain ⟨hc, hw⟩ := hB (i + u + 1) (j + v + 1) (by omega) (by omega)
      obtain ⟨hc0, _⟩ := hB i j hi hj
      rw [rowFrom_at hv, List.cons_append, List.filter_cons] at hl
      refine ⟨_, rfl, a, dx, _, rfl, s2 _ _ L.ob, rfl, _, rfl, _, rfl, _, rfl, _, rfl, a, dx, pv, g, m, n, cd, wd, kc, kw, i, j, i + u, j + v, _, rfl, L.same s2, o, by omega, by omega, hc, fun H3 s3 => ?_⟩
      have s03 := s2.trans s3
      refine ⟨_, rfl, a, C, dx, _, _, rfl, s03 _ _ L.ob, S.cl, S.n4, rfl, _, rfl, _, rfl, by show 2 ≤ sizeLine; decide, fun t ht => ⟨cd, .int (b i j).1, rfl, ?_, _, _, rfl, rfl, _, rfl, ?_⟩⟩
      · have e := DGet.t (H := upd H3 t (.tup [.int (i : Nat), .int (j : Nat)])) (k := key i j) ((s03.trans (Same.made1 ht)) _ _ L.co) upd_same
        rw [hc0] at e
        exact e
      have s34 : Same H3 (upd H3 t (.tup [.int (i : Nat), .int (j : Nat)])) := Same.made1 ht
      have s04 := s03.trans s34
      have s24 := s3.trans s34
      generalize upd H3 t (.tup [.int (i : Nat), .int (j : Nat)]) = H4 at s04 s24 s34 ⊢
      have hD4 := s24 _ _ hD2
      have up : Same (hd D (nw H H2)) (hd D (nw H H4)) := fun c o e => hd_of (hd_ne e).1 (nw_right0 s24 _ _ (hd_ne e).2)
      refine ite_dec (c := wayCost g b i j (i + u) (j + v) = (b i j).1) rfl (fun c1 => ?_) (fun c1 => ?_)
      · rw [if_pos (decide_eq_true c1)] at hl
        have hlen : acc.length ≤ 100 * 100 := by
          have h1 := hacc.1
          rw [List.length_map] at h1
          have h2 := congrArg List.length hl
          rw [List.length_append] at h2
          have h3 := firsts_len (g := g) (b := b) (m := m) (n := n) (i := i) (j := j)
          have h4 : m * n ≤ 100 * 100 := Nat.mul_le_mul om on
          omega
        refine ⟨_, rfl, .inl ⟨rfl, _, SqL.of hD4⟩, _, rfl, _, rfl, by show 2 ≤ sizeLine; decide, fun t5 ht5 => ?_⟩
        have s5 : Same H4 (upd H4 t5 (.tup [.int ((i + u : Nat) : Int), .int ((j + v : Nat) : Int)])) := Same.made1 ht5
        have t5D : t5 ≠ D := fun z => by rw [z, hD4] at ht5; cases ht5
        have ht55 : upd H4 t5 (.tup [.int ((i + u : Nat) : Int), .int ((j + v : Nat) : Int)]) t5 = some (.tup [.int ((i + u : Nat) : Int), .int ((j + v : Nat) : Int)]) := upd_same
        generalize upd H4 t5 (.tup [.int ((i + u : Nat) : Int), .int ((j + v : Nat) : Int)]) = H5 at s5 ht55 ⊢
        refine ⟨D, acc, _, rfl, rfl, s5 _ _ hD4, by have : (100 * 100 : Nat) < sizeLine := (by decide); omega, ?_⟩
        have k6 : ∀ c o, H4 c = some o → c ≠ D → upd H5 D (.lst (acc ++ [.ref t5])) c = some o := fun c o e nc => by
          rw [upd_ne nc]
          exact s5 _ _ e
        refine ⟨⟨fun c o e => k6 c o (s04 _ _ e) (ne_of_none e hD), acc ++ [.ref t5], l ++ [(i + u, j + v)], upd_same, ?_, by rw [hl, List.append_assoc]; rfl⟩, _, rfl⟩
        rw [List.map_append]
        refine (hacc.mono fun c o e => hd_of (hd_ne (up c o e)).1 (nw_of (nw_some (hd_ne (up c o e)).2).1 (k6 c o (nw_some (hd_ne (up c o e)).2).2 (hd_ne (up c o e)).1))).snoc ?_
        exact hd_of t5D (nw_of (s04.free ht5) ((upd_ne t5D).trans ht55))
      · rw [if_neg (by rw [show tightB g b i j (i + u, j + v) = false from decide_eq_false c1]; exact Bool.false_ne_true)] at hl
        exact ⟨⟨s04, acc, l, hD4, hacc.mono up, hl⟩, _, rfl⟩
    · rintro σ H2 ⟨w2, y5, rfl⟩
      rw [rowFrom_end (Nat.le_refl _), List.nil_append] at w2
      exact ⟨w2, _, _, rfl⟩
  · rintro σ H1 ⟨⟨s1, acc, l, hD1, hacc, hl⟩, x4, x5, rfl⟩
    rw [rowsFrom_end (Nat.le_refl _), List.filter_nil, List.append_nil] at hl
    refine ⟨_, rfl, hyes _ acc _ s1 (nw_of hD hD1) ?_⟩
    rw [hl]
    exact hacc.mono hd_in
/-- as data -/
theorem tup_list {K : PySem.W.Frag} {G : Hp} {p : Addr} {acc : List V} {l : List (Nat × Nat)} (h1 : G p = some (.lst acc)) (h2 : TupAll G acc (l.map pN)) : Dp K G (.ref p) (dL dP (l.map pN)) := .lst (SqL.of h1) h2.dp

abbrev s_LeastMatchings_step_to : Stmt := inClass (topS 14) 8
theorem sc_LeastMatchings_step_to : FnScope ["self", "old", "new", "place", "ahead", "first", "ways"] ["self", "old", "new", "place"] (defScope s_LeastMatchings_step_to) := ⟨rfl, rfl, rfl, by decide +kernel, rfl, by decide +kernel, by decide +kernel⟩
def sp_step_to (K : PySem.W.Frag) (C : Addr) : Sp := fun vs H Q _ => ∃ (a dx : Addr) (pv : V) (g : List (List Int)) (m n : Nat) (cd wd : Addr) (kc kw : Kvs) (i j : Nat) (k : Int) (b : Nat → Nat → Int × Int),
  vs = [.ref a, .int (i : Nat), .int (j : Nat), .int k] ∧ LmAt K C H a dx pv g m n cd wd kc kw ∧ GridOk g m n ∧ m ≤ 100 ∧ n ≤ 100 ∧ i ≤ m ∧ j ≤ n ∧ Told b m n kc kw ∧
  (scan g b i j k (rowsFrom m n i j 0) 0 = none → ∀ H', Same H H' → Q .non H') ∧
  ∀ p q r, scan g b i j k (rowsFrom m n i j 0) 0 = some (p, q, r) → i ≤ p → p < m → j ≤ q → q < n → ∀ t H', Same H H' → H t = none → H' t = some (.tup [.int (p : Nat), .int (q : Nat), .int r]) → Q (.ref t) H'
theorem ok_step_to (T : Tops mg) (S : LmC K C) (C_LeastMatchings_first_pairs : MetX P w K mg base CX0 2 C "first_pairs" (sp_first_pairs K C)) (C_LeastMatchings_ways_behind : MetX P w K mg base CX0 1 C "ways_behind" (sp_ways_behind K C)) (F : Fun K "step_to" "LeastMatchings.step_to" s_LeastMatchings_step_to f fd) : FnOk P w K mg base CX0 3 f fd ["self", "old", "new", "place"] (sp_step_to K C) := by
  refine F.ok sc_LeastMatchings_step_to (fun vs H Q E h => ?_) (fun cdv A outer s H vs Q E hr h => ⟨_, (pss_cons (ps_set (i := 4) sc_LeastMatchings_step_to.nd rfl (Or.inl rfl) pe_int)
  (pss_cons (ps_for PassesOwn.never rfl (lstK K (pe_m (pv 0) C_LeastMatchings_first_pairs hr (by decide) (fun _ => quiet) (pa_cons (pv 1) (pa_cons (pv 2) pa_nil)))) (pg_name (i := 5) sc_LeastMatchings_step_to.nd rfl (Or.inl rfl))
   (pss_cons (ps_set (i := 6) sc_LeastMatchings_step_to.nd rfl (Or.inl rfl) (pe_m (pv 0) C_LeastMatchings_ways_behind hr (by decide) (fun _ => quiet) (pa_cons (pv 5) pa_nil)))
  (pss_cons (ps_if (pt_cmpR op_lt (pv 3) (pe_op op_add (pv 4) (pv 6)) (nomark _))
   (pss_one (ps_ret (pe_tup (pa_cons (pe_ix (ixT K) (pv 5) pe_int (fun _ _ => rfl)) (pa_cons (pe_ix (ixT K) (pv 5) pe_int (fun _ _ => rfl)) (pa_cons (pe_op op_sub (pv 3) (pv 4)) pa_nil)))))) pss_nil)
  (pss_one (ps_aug (i := 4) sc_LeastMatchings_step_to.nd rfl (Or.inl rfl) (pv 6) ip_add)))))
  (pss_one (ps_ret pe_non)))), ?_⟩)
  · obtain ⟨a, dx, pv, g, m, n, cd, wd, kc, kw, i, j, k, b, rfl, _⟩ := h
    rfl
  obtain ⟨a, dx, pv, g, m, n, cd, wd, kc, kw, i, j, k, b, rfl, L, o, om, on, hi, hj, hB, hno, hyes⟩ := h
  rw [scan_F] at hno hyes
  have hyes : ∀ p q r, scanF b k (firstsM g b m n i j) 0 = some (p, q, r) → i ≤ p → p < m → j ≤ q → q < n → ∀ t H', Same H H' → H t = none → H' t = some (.tup [.int (p : Nat), .int (q : Nat), .int r]) → Q (.ref t) H' := hyes
  have hno : scanF b k (firstsM g b m n i j) 0 = none → ∀ H', Same H H' → Q .non H' := hno
  refine ⟨_, rfl, a, dx, _, rfl, L.ob, rfl, _, rfl, _, rfl, a, dx, pv, g, m, n, cd, wd, kc, kw, i, j, b, rfl, L, o, om, on, hi, hj, hB, fun p0 acc0 H1 s1 h01 h02 => ?_⟩
  have d1 : Dp K (nw H H1) (.ref p0) _ := tup_list h01 h02
  rw [dP_pN] at d1
  obtain ⟨p1, xs, e01, hp, hx⟩ := Dp.list (dmono nw_in d1)
  cases e01
  have hxl : xs.length = (firstsM g b m n i j).length := by rw [DpAll.length hx, List.length_map]
  refine ⟨p0, rfl, ⟨xs, hp⟩, for_list (K := K) (a := p0) (xs := xs) (fun u σ H' => Same H1 H' ∧ ∃ (x : Int) (x5 x6 : Option V), σ = [some (.ref a), some (.int (i : Nat)), some (.int (j : Nat)), some (.int k), some (.int x), x5, x6] ∧ scanF b k (firstsM g b m n i j) 0 = scanF b k ((firstsM g b m n i j).drop u) x)
    ⟨Same.refl _, 0, _, _, rfl, rfl⟩ (fun i σ H' _ q => q.1.seq hp) ?_ ?_⟩
  · rintro u x σ H2 hu ⟨s2, y, x5, x6, rfl, hsc⟩
    obtain ⟨r, hr0, dx0⟩ := dAll_pN hx hu
    have hul : u < (firstsM g b m n i j).length := (List.getElem?_eq_some_iff.mp hr0).1
    obtain ⟨⟨r1, r2⟩, r3, r4⟩ := mem_firsts (List.mem_of_getElem? hr0)
    have er : (firstsM g b m n i j).drop u = r :: (firstsM g b m n i j).drop (u + 1) := by
      rw [List.drop_eq_getElem_cons hul]
      congr 1
      rw [List.getElem?_eq_getElem hul] at hr0
      exact Option.some.inj hr0
    rw [er] at hsc
    have es : scanF b k (r :: (firstsM g b m n i j).drop (u + 1)) y = if k < y + (b (r.1 + 1) (r.2 + 1)).2 then some (r.1, r.2, k - y) else scanF b k ((firstsM g b m n i j).drop (u + 1)) (y + (b (r.1 + 1) (r.2 + 1)).2) := rfl
    rw [es] at hsc
    obtain ⟨t, rfl, ht⟩ := Dp.pair (dmono s2 dx0)
    have s02 := s1.trans s2
    refine ⟨_, rfl, a, dx, _, rfl, s02 _ _ L.ob, rfl, _, rfl, a, dx, pv, g, m, n, cd, wd, kc, kw, b, t, r, rfl, L.same s02, hB, ht, r2, r4, fun H3 s3 => ?_⟩
    have s03 := s02.trans s3
    refine ⟨_, rfl, _, rfl, _, rfl, _, _, rfl, rfl, _, _, rfl, rfl, _, rfl, ?_⟩
    refine ite_dec (c := k < y + (b (r.1 + 1) (r.2 + 1)).2) rfl (fun c => ?_) (fun c => ?_)
    · rw [if_pos c] at hsc
      have ht3 := Same.seqT s3 ht
      refine ⟨_, rfl, t, _, _, _, rfl, rfl, ht3, at_of (j := 0) rfl rfl, _, rfl, t, _, _, _, rfl, rfl, ht3, at_of (j := 1) rfl rfl, _, rfl, _, rfl, _, _, rfl, rfl, by show 3 ≤ sizeLine; decide, fun t6 ht6 => ?_⟩
      exact hyes r.1 r.2 (k - y) hsc r1 r2 r3 r4 t6 _ (s03.trans (Same.made1 ht6)) (s03.free ht6) upd_same
    · rw [if_neg c] at hsc
      exact ⟨_, rfl, _, rfl, _, _, rfl, rfl, s2.trans s3, _, _, _, rfl, hsc⟩
  · rintro σ H2 ⟨s2, y, x5, x6, rfl, hsc⟩
    rw [hxl, List.drop_length] at hsc
    exact hno hsc _ (s1.trans s2)

abbrev s_LeastMatchings_ways_ahead : Stmt := inClass (topS 14) 10
theorem sc_LeastMatchings_ways_ahead : FnScope ["self", "old", "new", "pair", "ahead", "first"] ["self", "old", "new", "pair"] (defScope s_LeastMatchings_ways_ahead) := ⟨rfl, rfl, rfl, by decide +kernel, rfl, by decide +kernel, by decide +kernel⟩
def sp_ways_ahead (K : PySem.W.Frag) (C : Addr) : Sp := fun vs H Q _ => ∃ (a dx : Addr) (pv : V) (g : List (List Int)) (m n : Nat) (cd wd : Addr) (kc kw : Kvs) (i j : Nat) (y : V) (q : Nat × Nat) (b : Nat → Nat → Int × Int),
  vs = [.ref a, .int (i : Nat), .int (j : Nat), y] ∧ LmAt K C H a dx pv g m n cd wd kc kw ∧ GridOk g m n ∧ m ≤ 100 ∧ n ≤ 100 ∧ i ≤ m ∧ j ≤ n ∧ Told b m n kc kw ∧ Dp K H y (dP (pN q)) ∧ ∀ H', Same H H' → Q (.int (waysA b q (firstsM g b m n i j) 0)) H'
theorem ok_ways_ahead (T : Tops mg) (S : LmC K C) (C_LeastMatchings_first_pairs : MetX P w K mg base CX0 2 C "first_pairs" (sp_first_pairs K C)) (C_LeastMatchings_ways_behind : MetX P w K mg base CX0 1 C "ways_behind" (sp_ways_behind K C)) (F : Fun K "ways_ahead" "LeastMatchings.ways_ahead" s_LeastMatchings_ways_ahead f fd) : FnOk P w K mg base CX0 3 f fd ["self", "old", "new", "pair"] (sp_ways_ahead K C) := by
  refine F.ok sc_LeastMatchings_ways_ahead (fun vs H Q E h => ?_) (fun cdv A outer s H vs Q E hr h => ⟨_, (pss_cons (ps_set (i := 4) sc_LeastMatchings_ways_ahead.nd rfl (Or.inl rfl) pe_int)
  (pss_cons (ps_for PassesOwn.never rfl (lstK K (pe_m (pv 0) C_LeastMatchings_first_pairs hr (by decide) (fun _ => quiet) (pa_cons (pv 1) (pa_cons (pv 2) pa_nil)))) (pg_name (i := 5) sc_LeastMatchings_ways_ahead.nd rfl (Or.inl rfl))
   (pss_cons (ps_if (pt_cmpR (eqD K hr.units) (pv 5) (pv 3) (nomark _))
   (pss_one (ps_ret (pv 4))) pss_nil)
  (pss_one (ps_aug (i := 4) sc_LeastMatchings_ways_ahead.nd rfl (Or.inl rfl) (pe_m (pv 0) C_LeastMatchings_ways_behind hr (by decide) (fun _ => quiet) (pa_cons (pv 5) pa_nil)) ip_add))))
  (pss_one (ps_ret (pv 4))))), ?_⟩)
  · obtain ⟨a, dx, pv, g, m, n, cd, wd, kc, kw, i, j, y, q, b, rfl, _⟩ := h
    rfl
  obtain ⟨a, dx, pv, g, m, n, cd, wd, kc, kw, i, j, y, q, b, rfl, L, o, om, on, hi, hj, hB, dy, h⟩ := h
  refine ⟨_, rfl, a, dx, _, rfl, L.ob, rfl, _, rfl, _, rfl, a, dx, pv, g, m, n, cd, wd, kc, kw, i, j, b, rfl, L, o, om, on, hi, hj, hB, fun p0 acc0 H1 s1 h01 h02 => ?_⟩
  have d1 : Dp K (nw H H1) (.ref p0) _ := tup_list h01 h02
  rw [dP_pN] at d1
  obtain ⟨p1, xs, e01, hp, hx⟩ := Dp.list (dmono nw_in d1)
  cases e01
  have hxl : xs.length = (firstsM g b m n i j).length := by rw [DpAll.length hx, List.length_map]
  refine ⟨p0, rfl, ⟨xs, hp⟩, for_list (K := K) (a := p0) (xs := xs) (fun u σ H' => Same H1 H' ∧ ∃ (x : Int) (x5 : Option V), σ = [some (.ref a), some (.int (i : Nat)), some (.int (j : Nat)), some y, some (.int x), x5] ∧ waysA b q (firstsM g b m n i j) 0 = waysA b q ((firstsM g b m n i j).drop u) x)
    ⟨Same.refl _, 0, _, rfl, rfl⟩ (fun i σ H' _ q => q.1.seq hp) ?_ ?_⟩
  · rintro u x σ H2 hu ⟨s2, z, x5, rfl, hsc⟩
    obtain ⟨r, hr0, dx0⟩ := dAll_pN hx hu
    have hul : u < (firstsM g b m n i j).length := (List.getElem?_eq_some_iff.mp hr0).1
    obtain ⟨⟨r1, r2⟩, r3, r4⟩ := mem_firsts (List.mem_of_getElem? hr0)
    have er : (firstsM g b m n i j).drop u = r :: (firstsM g b m n i j).drop (u + 1) := by
      rw [List.drop_eq_getElem_cons hul]
      congr 1
      rw [List.getElem?_eq_getElem hul] at hr0
      exact Option.some.inj hr0
    rw [er] at hsc
    have es : waysA b q (r :: (firstsM g b m n i j).drop (u + 1)) z = if r = q then z else waysA b q ((firstsM g b m n i j).drop (u + 1)) (z + (b (r.1 + 1) (r.2 + 1)).2) := rfl
    rw [es] at hsc
    have dx2 := dmono s2 dx0
    have s02 := s1.trans s2
    obtain ⟨t, rfl, ht⟩ := Dp.pair dx2
    refine ⟨_, rfl, _, rfl, _, _, dx2, dmono s02 dy, shaped_dP _, shaped_dP _, _, rfl, ?_⟩
    rw [eqv_dP]
    refine ite_dec (c := r = q) (decide_eq_decide.mpr (by rw [pN_inj'])) (fun c => ?_) (fun c => ?_)
    · rw [if_pos c] at hsc
      have := h H2 s02
      rw [hsc] at this
      exact ⟨_, rfl, this⟩
    · rw [if_neg c] at hsc
      refine ⟨_, rfl, _, rfl, a, dx, _, rfl, s02 _ _ L.ob, rfl, _, rfl, a, dx, pv, g, m, n, cd, wd, kc, kw, b, t, r, rfl, L.same s02, hB, ht, r2, r4, fun H3 s3 => ?_⟩
      exact ⟨_, _, rfl, rfl, s2.trans s3, _, _, rfl, hsc⟩
  · rintro σ H2 ⟨s2, z, x5, rfl, hsc⟩
    rw [hxl, List.drop_length] at hsc
    have := h H2 (s1.trans s2)
    rw [hsc] at this
    exact ⟨_, rfl, this⟩

abbrev s_LeastMatchings_place_of : Stmt := inClass (topS 14) 9
theorem sc_LeastMatchings_place_of : FnScope ["self", "pairs", "place", "old", "new", "pair"] ["self", "pairs"] (defScope s_LeastMatchings_place_of) := ⟨rfl, rfl, rfl, by decide +kernel, rfl, by decide +kernel, by decide +kernel⟩
def sp_place_of (K : PySem.W.Frag) (C : Addr) : Sp := fun vs H Q _ => ∃ (a dx : Addr) (pv : V) (g : List (List Int)) (m n : Nat) (cd wd : Addr) (kc kw : Kvs) (y : V) (l : List (Nat × Nat)) (b : Nat → Nat → Int × Int),
  vs = [.ref a, y] ∧ LmAt K C H a dx pv g m n cd wd kc kw ∧ GridOk g m n ∧ m ≤ 100 ∧ n ≤ 100 ∧ Told b m n kc kw ∧ Dp K H y (dL dP (l.map pN)) ∧ l.length ≤ 1000 ∧ (∀ p ∈ l, p.1 < m ∧ p.2 < n) ∧ ∀ H', Same H H' → Q (.int (placeM g b m n 0 0 (l ++ [(m, n)]))) H'
theorem ok_place_of (T : Tops mg) (S : LmC K C) (C_LeastMatchings_ways_ahead : MetX P w K mg base CX0 3 C "ways_ahead" (sp_ways_ahead K C)) (F : Fun K "place_of" "LeastMatchings.place_of" s_LeastMatchings_place_of f fd) : FnOk P w K mg base CX0 4 f fd ["self", "pairs"] (sp_place_of K C) := by
  refine F.ok sc_LeastMatchings_place_of (fun vs H Q E h => ?_) (fun cdv A outer s H vs Q E hr h => ⟨_, (pss_cons (ps_set (i := 2) sc_LeastMatchings_place_of.nd rfl (Or.inl rfl) pe_int)
  (pss_cons (ps_set (i := 3) sc_LeastMatchings_place_of.nd rfl (Or.inl rfl) pe_int)
  (pss_cons (ps_set (i := 4) sc_LeastMatchings_place_of.nd rfl (Or.inl rfl) pe_int)
  (pss_cons (ps_for PassesOwn.never rfl (lstK K (pe_op (catK K) (pv 1) (pe_lst (pa_cons (pe_tup (pa_cons (fldK K (pv 0)) (pa_cons (fldK K (pv 0)) pa_nil))) pa_nil)))) (pg_name (i := 5) sc_LeastMatchings_place_of.nd rfl (Or.inl rfl))
   (pss_cons (ps_aug (i := 2) sc_LeastMatchings_place_of.nd rfl (Or.inl rfl) (pe_m (pv 0) C_LeastMatchings_ways_ahead hr (by decide) (fun _ => quiet) (pa_cons (pv 3) (pa_cons (pv 4) (pa_cons (pv 5) pa_nil)))) ip_add)
  (pss_cons (ps_set (i := 3) sc_LeastMatchings_place_of.nd rfl (Or.inl rfl) (pe_op op_add (pe_ix (ixT K) (pv 5) pe_int (fun _ _ => rfl)) pe_int))
  (pss_one (ps_set (i := 4) sc_LeastMatchings_place_of.nd rfl (Or.inl rfl) (pe_op op_add (pe_ix (ixT K) (pv 5) pe_int (fun _ _ => rfl)) pe_int))))))
  (pss_one (ps_ret (pv 2))))))), ?_⟩)
  · obtain ⟨a, dx, pv, g, m, n, cd, wd, kc, kw, y, l, b, rfl, _⟩ := h
    rfl
  obtain ⟨a, dx, pv, g, m, n, cd, wd, kc, kw, y, l, b, rfl, L, o, om, on, hB, dy, hl, hin, h⟩ := h
  rw [dP_pN] at dy
  obtain ⟨p0, xs, rfl, hp, hx⟩ := Dp.list dy
  have hxl : xs.length = l.length := by rw [DpAll.length hx, List.length_map]
  refine ⟨_, rfl, _, rfl, a, C, dx, _, _, rfl, L.ob, S.cl, S.n2, rfl, _, rfl, a, C, dx, _, _, rfl, L.ob, S.cl, S.n3, rfl, by show 2 ≤ sizeLine; decide, fun t ht => ⟨by show 1 ≤ sizeLine; decide, fun e he => ?_⟩⟩
  have s1 : Same H (upd H t (.tup [.int (m : Nat), .int (n : Nat)])) := Same.made1 ht
  have ht1 : upd H t (.tup [.int (m : Nat), .int (n : Nat)]) t = some (.tup [.int (m : Nat), .int (n : Nat)]) := upd_same
  generalize upd H t (.tup [.int (m : Nat), .int (n : Nat)]) = H1 at s1 ht1 he ⊢
  have s2 : Same H1 (upd H1 e (.lst [.ref t])) := Same.made1 he
  have he2 : upd H1 e (.lst [.ref t]) e = some (.lst [.ref t]) := upd_same
  generalize upd H1 e (.lst [.ref t]) = H2 at s2 he2 ⊢
  have s02 := s1.trans s2
  have szl : (2000 : Nat) ≤ sizeLine := by decide
  refine ⟨p0, e, xs, [.ref t], rfl, rfl, s02.seq hp, SqL.of he2, by show _ + 1 ≤ _; omega, fun D hD => ?_⟩
  have s3 : Same H2 (upd H2 D (.lst (xs ++ [.ref t]))) := Same.made1 hD
  have hD3 : upd H2 D (.lst (xs ++ [.ref t])) D = some (.lst (xs ++ [.ref t])) := upd_same
  generalize upd H2 D (.lst (xs ++ [.ref t])) = H3 at s3 hD3 ⊢
  have s03 := s02.trans s3
  have hx3 : DpAll K H3 (xs ++ [.ref t]) ((l ++ [(m, n)]).map fun p => dP (pN p)) := by
    rw [List.map_append]
    exact DpAll.snoc (dmonoAll s03 hx) (.tup (.inl (.inl (s3 _ _ (s2 _ _ ht1)))) (.cons (.int _) (.cons (.int _) .nil)))
  refine ⟨D, rfl, ⟨_, SqL.of hD3⟩, for_list (K := K) (a := D) (xs := xs ++ [.ref t]) (fun u σ H' => Same H3 H' ∧ ∃ (x : Int) (i j : Nat) (x5 : Option V), σ = [some (.ref a), some (.ref p0), some (.int x), some (.int (i : Nat)), some (.int (j : Nat)), x5] ∧ (u ≤ l.length → i ≤ m ∧ j ≤ n) ∧ placeM g b m n 0 0 (l ++ [(m, n)]) = x + placeM g b m n i j ((l ++ [(m, n)]).drop u))
    ⟨Same.refl _, 0, 0, 0, _, rfl, fun _ => ⟨Nat.zero_le _, Nat.zero_le _⟩, (Int.zero_add _).symm⟩ (fun i σ H' _ q => SqL.of (q.1 _ _ hD3)) ?_ ?_⟩
  · rintro u x σ H4 hu ⟨s4, z, i, j, x5, rfl, hij, hsc⟩
    obtain ⟨r, hr0, dx0⟩ := dAll_pN hx3 hu
    have hul : u < (l ++ [(m, n)]).length := (List.getElem?_eq_some_iff.mp hr0).1
    rw [List.length_append, List.length_singleton] at hul
    obtain ⟨hi, hj⟩ := hij (by omega)
    have er : (l ++ [(m, n)]).drop u = r :: (l ++ [(m, n)]).drop (u + 1) := by
      have hul2 : u < (l ++ [(m, n)]).length := by rw [List.length_append, List.length_singleton]; omega
      rw [List.drop_eq_getElem_cons hul2]
      congr 1
      rw [List.getElem?_eq_getElem hul2] at hr0
      exact Option.some.inj hr0
    rw [er] at hsc
    have es : placeM g b m n i j (r :: (l ++ [(m, n)]).drop (u + 1)) = waysA b r (firstsM g b m n i j) 0 + placeM g b m n (r.1 + 1) (r.2 + 1) ((l ++ [(m, n)]).drop (u + 1)) := rfl
    have s04 := s03.trans s4
    have dx4 := dmono s4 dx0
    refine ⟨_, rfl, _, rfl, a, dx, _, rfl, s04 _ _ L.ob, rfl, _, rfl, _, rfl, _, rfl, a, dx, pv, g, m, n, cd, wd, kc, kw, i, j, x, r, b, rfl, L.same s04, o, om, on, hi, hj, hB, dx4, fun H5 s5 => ?_⟩
    obtain ⟨tr, rfl, htr⟩ := Dp.pair (dmono s5 dx4)
    refine ⟨_, _, rfl, rfl, _, rfl, tr, _, _, _, rfl, rfl, htr, at_of (j := 0) rfl rfl, _, _, rfl, rfl, _, rfl, tr, _, _, _, rfl, rfl, htr, at_of (j := 1) rfl rfl, _, _, rfl, rfl, s4.trans s5, _, r.1 + 1, r.2 + 1, _, rfl, fun hu2 => ?_, ?_⟩
    · have hr1 : r ∈ l := by
        rw [List.getElem?_append_left (by omega)] at hr0
        exact List.mem_of_getElem? hr0
      have := hin r hr1
      omega
    · rw [hsc, es, ← Int.add_assoc]
  · rintro σ H4 ⟨s4, z, i, j, x5, rfl, hij, hsc⟩
    have e0 : (l ++ [(m, n)]).drop (xs ++ [V.ref t]).length = [] := List.drop_of_length_le (by rw [List.length_append, List.length_append, List.length_singleton, List.length_singleton]; omega)
    rw [e0] at hsc
    have := h H4 (s03.trans s4)
    rw [hsc] at this
    have e1 : z + placeM g b m n i j [] = z := Int.add_zero z
    rw [e1] at this
    exact ⟨_, rfl, this⟩

abbrev s_LeastMatchings_at_place : Stmt := inClass (topS 14) 7
theorem sc_LeastMatchings_at_place : FnScope ["self", "place", "pairs", "step"] ["self", "place"] (defScope s_LeastMatchings_at_place) := ⟨rfl, rfl, rfl, by decide +kernel, rfl, by decide +kernel, by decide +kernel⟩
/-- the pairs of the k-th, from a place on -/
def kthM (g : List (List Int)) (b : Nat → Nat → Int × Int) (m n : Nat) : Nat → Nat → Nat → Int → List (Nat × Nat)
  | 0, _, _, _ => []
  | fu + 1, i, j, k => match scan g b i j k (rowsFrom m n i j 0) 0 with
    | none => []
    | some (p, q, r) => (p, q) :: kthM g b m n fu (p + 1) (q + 1) r
def sp_at_place (K : PySem.W.Frag) (C : Addr) : Sp := fun vs H Q _ => ∃ (a dx : Addr) (pv : V) (g : List (List Int)) (m n : Nat) (cd wd : Addr) (kc kw : Kvs) (k : Int) (b : Nat → Nat → Int × Int),
  vs = [.ref a, .int k] ∧ LmAt K C H a dx pv g m n cd wd kc kw ∧ GridOk g m n ∧ m ≤ 100 ∧ n ≤ 100 ∧ Told b m n kc kw ∧ New K H Q (dL dP ((kthM g b m n (m + 1) 0 0 k).map pN))
theorem ok_at_place (T : Tops mg) (S : LmC K C) (C_LeastMatchings_step_to : MetX P w K mg base CX0 3 C "step_to" (sp_step_to K C)) (F : Fun K "at_place" "LeastMatchings.at_place" s_LeastMatchings_at_place f fd) : FnOk P w K mg base CX0 4 f fd ["self", "place"] (sp_at_place K C) := by
  refine F.ok sc_LeastMatchings_at_place (fun vs H Q E h => ?_) (fun cdv A outer s H vs Q E hr h => ⟨_, (pss_cons (ps_set (i := 2) sc_LeastMatchings_at_place.nd rfl (Or.inl rfl) (pe_lst pa_nil))
  (pss_cons (ps_set (i := 3) sc_LeastMatchings_at_place.nd rfl (Or.inl rfl) (pe_m (pv 0) C_LeastMatchings_step_to hr (by decide) (fun _ => quiet) (pa_cons pe_int (pa_cons pe_int (pa_cons (pv 1) pa_nil)))))
  (pss_cons (ps_while PassesOwn.never (pt_cmp (pc_notN (pv 3)) rfl)
   (pss_cons (ps_expr (pe_bm PySem.F.plainAttrs_list PySem.F.slot_list_append PySem.F.type_list_append mt_append (pv 2) (pa_cons (pe_tup (pa_cons (pe_ix (ixT K) (pv 3) pe_int (fun _ _ => rfl)) (pa_cons (pe_ix (ixT K) (pv 3) pe_int (fun _ _ => rfl)) pa_nil))) pa_nil)))
  (pss_one (ps_set (i := 3) sc_LeastMatchings_at_place.nd rfl (Or.inl rfl) (pe_m (pv 0) C_LeastMatchings_step_to hr (by decide) (fun _ => quiet) (pa_cons (pe_op op_add (pe_ix (ixT K) (pv 3) pe_int (fun _ _ => rfl)) pe_int) (pa_cons (pe_op op_add (pe_ix (ixT K) (pv 3) pe_int (fun _ _ => rfl)) pe_int) (pa_cons (pe_ix (ixT K) (pv 3) pe_int (fun _ _ => rfl)) pa_nil))))))))
  (pss_one (ps_ret (pv 2)))))), ?_⟩)
  · obtain ⟨a, dx, pv, g, m, n, cd, wd, kc, kw, k, b, rfl, _⟩ := h
    rfl
  obtain ⟨a, dx, pv, g, m, n, cd, wd, kc, kw, k, b, rfl, L, o, om, on, hB, h⟩ := h
  refine ⟨Nat.zero_le _, fun D hD => ?_⟩
  have s0 : Same H (upd H D (.lst [])) := Same.made1 hD
  -- behind some steps: the pairs so far, and the next step (or none) from (i, j)
  let W : Nat → L2.St → Hp → Prop := fun μ σ H' => ∃ (acc : List V) (l : List (Nat × Nat)) (fu i j : Nat) (k' : Int) (st : V), σ = [some (.ref a), some (.int k), some (.ref D), some st] ∧ Same H H' ∧ H' D = some (.lst acc) ∧ acc.length + fu = m + 1 ∧ μ = fu ∧
    DpAll K (hd D (nw H H')) acc (l.map fun p => dP (pN p)) ∧ i + fu = m + 1 + (i - acc.length) ∧ acc.length ≤ i ∧ kthM g b m n (m + 1) 0 0 k = l ++ kthM g b m n fu i j k' ∧
    ((scan g b i j k' (rowsFrom m n i j 0) 0 = none ∧ st = .non) ∨ ∃ p q r t, scan g b i j k' (rowsFrom m n i j 0) 0 = some (p, q, r) ∧ i ≤ p ∧ p < m ∧ j ≤ q ∧ q < n ∧ st = .ref t ∧ H' t = some (.tup [.int (p : Nat), .int (q : Nat), .int r]))
  have start : ∀ (st : V) (H1 : Hp), Same (upd H D (.lst [])) H1 → ((scan g b 0 0 k (rowsFrom m n 0 0 0) 0 = none ∧ st = .non) ∨ ∃ p q r t, scan g b 0 0 k (rowsFrom m n 0 0 0) 0 = some (p, q, r) ∧ 0 ≤ p ∧ p < m ∧ 0 ≤ q ∧ q < n ∧ st = .ref t ∧ H1 t = some (.tup [.int (p : Nat), .int (q : Nat), .int r])) →
      W (m + 1) [some (.ref a), some (.int k), some (.ref D), some st] H1 := fun st H1 s1 hh =>
    ⟨[], [], m + 1, 0, 0, k, st, rfl, s0.trans s1, s1 _ _ upd_same, by simp, rfl, .nil, by simp, Nat.le_refl _, rfl, hh⟩
  have loop : ∀ (st : V) (H1 : Hp), W (m + 1) [some (.ref a), some (.int k), some (.ref D), some st] H1 → (tWhile (tB (tNotN (tVar 3))) (tSeq (tDrop (tBM K "list" rAppend (tVar 2) (tCons (tTup (tCons (tOp (rIxT K) (tVar 3) (tC (.int 0))) (tCons (tOp (rIxT K) (tVar 3) (tC (.int 1))) tNil))) tNil)))
      (tAsg (tM C "step_to" (sp_step_to K C) E0 (tVar 0) (tCons (tOp (rI0 fun i j => .int (i + j)) (tOp (rIxT K) (tVar 3) (tC (.int 0))) (tC (.int 1))) (tCons (tOp (rI0 fun i j => .int (i + j)) (tOp (rIxT K) (tVar 3) (tC (.int 1))) (tC (.int 1))) (tCons (tOp (rIxT K) (tVar 3) (tC (.int 2))) tNil)))) (gName 3))))
      { nx := fun σ H' => tRet (tVar 2) { nx := fun x H' => Q .non H', rt := Q } σ H', rt := Q } [some (.ref a), some (.int k), some (.ref D), some st] H1 := fun st H1 w0 => by
    refine ⟨W, ⟨_, w0⟩, ?_⟩
    rintro μ σ H2 ⟨acc, l, fu, i, j, k', st, rfl, s2, hD2, hfu, rfl, hacc, hif, hai, hk, hst⟩
    refine ⟨_, rfl, _, rfl, ?_⟩
    rcases hst with ⟨hs, rfl⟩ | ⟨p, q, r, t, hs, hip, hpm, hjq, hqn, rfl, ht⟩
    · refine iteF ⟨_, rfl, ?_⟩
      have ek : kthM g b m n μ i j k' = [] := by
        cases μ with
        | zero => rfl
        | succ μ =>
          show (match scan g b i j k' (rowsFrom m n i j 0) 0 with | none => [] | some (p, q, r) => _) = _
          rw [hs]
      rw [ek, List.append_nil] at hk
      refine h _ _ s2 ?_
      rw [hk, dP_pN]
      exact .lst (.inl (.inl (nw_of hD hD2))) (dmonoAll hd_in hacc)
    · refine iteT ?_
      obtain ⟨fu, rfl⟩ : ∃ x, μ = x + 1 := ⟨μ - 1, by omega⟩
      have at0 : ∀ {H'}, Same H2 H' → SqT K H' t [.int (p : Nat), .int (q : Nat), .int r] := fun {H'} s => .inl (.inl (s _ _ ht))
      refine ⟨fun σ' H' => W fu σ' H', fun σ' H' w' => ⟨fu, Nat.lt_succ_self _, w'⟩, ?_⟩
      refine ⟨_, rfl, .inl ⟨rfl, _, SqL.of hD2⟩, _, rfl, t, _, 0, _, rfl, rfl, at0 (Same.refl _), at_of (j := 0) rfl rfl, _, rfl, t, _, 1, _, rfl, rfl, at0 (Same.refl _), at_of (j := 1) rfl rfl, by show 2 ≤ sizeLine; decide, fun t2 ht2 => ?_⟩
      have s3 : Same H2 (upd H2 t2 (.tup [.int (p : Nat), .int (q : Nat)])) := Same.made1 ht2
      refine ⟨D, acc, _, rfl, rfl, s3 _ _ hD2, by rw [sizeLine_eq]; omega, ?_⟩
      have t2D : t2 ≠ D := fun z => by rw [z, hD2] at ht2; cases ht2
      have tD : t ≠ D := ne_of ht hD2 (by intro z; cases z)
      generalize hH4 : upd (upd H2 t2 (.tup [.int (p : Nat), .int (q : Nat)])) D (.lst (acc ++ [.ref t2])) = H4
      have k24 : ∀ c o, H2 c = some o → c ≠ D → H4 c = some o := fun c o e nc => by
        rw [← hH4, upd_ne nc]
        exact s3 _ _ e
      have s04 : Same H H4 := fun c o e => k24 c o (s2 _ _ e) (ne_of_none e hD)
      have hD4 : H4 D = some (.lst (acc ++ [.ref t2])) := by rw [← hH4]; exact upd_same
      have up : Same (hd D (nw H H2)) (hd D (nw H H4)) := fun c o e => hd_of (hd_ne e).1 (nw_of (nw_some (hd_ne e).2).1 (k24 c o (nw_some (hd_ne e).2).2 (hd_ne e).1))
      have hacc4 : DpAll K (hd D (nw H H4)) (acc ++ [.ref t2]) ((l ++ [(p, q)]).map fun p => dP (pN p)) := by
        rw [List.map_append]
        refine DpAll.snoc (dmonoAll up hacc) (.tup (.inl (.inl (hd_of t2D (nw_of (s2.free ht2) ?_)))) (.cons (.int _) (.cons (.int _) .nil)))
        rw [← hH4, upd_ne t2D, upd_same]
      have at4 : ∀ {H'}, Same H4 H' → SqT K H' t [.int (p : Nat), .int (q : Nat), .int r] := fun {H'} s => .inl (.inl (s _ _ (k24 _ _ ht tD)))
      have hk2 : kthM g b m n (m + 1) 0 0 k = (l ++ [(p, q)]) ++ kthM g b m n fu (p + 1) (q + 1) r := by
        rw [hk]
        show l ++ (match scan g b i j k' (rowsFrom m n i j 0) 0 with | none => [] | some (p, q, r) => _) = _
        rw [hs, List.append_assoc]
        rfl
      have len4 : (acc ++ [V.ref t2]).length = acc.length + 1 := by rw [List.length_append]; rfl
      refine ⟨_, rfl, a, dx, _, rfl, s04 _ _ L.ob, rfl, _, rfl, t, _, 0, _, rfl, rfl, at4 (Same.refl _), at_of (j := 0) rfl rfl, _, _, rfl, rfl, _, rfl, t, _, 1, _, rfl, rfl, at4 (Same.refl _), at_of (j := 1) rfl rfl, _, _, rfl, rfl, _, rfl, t, _, 2, _, rfl, rfl, at4 (Same.refl _), at_of (j := 2) rfl rfl, ?_⟩
      refine ⟨a, dx, pv, g, m, n, cd, wd, kc, kw, p + 1, q + 1, r, b, rfl, L.same s04, o, om, on, by omega, by omega, hB, fun hs5 H5 s5 => ?_, fun p5 q5 r5 hs5 hip5 hpm5 hjq5 hqn5 t5 H5 s5 nt5 ht5 => ?_⟩
      · exact ⟨acc ++ [.ref t2], l ++ [(p, q)], fu, p + 1, q + 1, r, .non, rfl, s04.trans s5, s5 _ _ hD4, by rw [len4]; omega, rfl, dmonoAll (fun c o e => hd_of (hd_ne e).1 (nw_right0 s5 _ _ (hd_ne e).2)) hacc4, by rw [len4]; omega, by rw [len4]; omega, hk2, .inl ⟨hs5, rfl⟩⟩
      · exact ⟨acc ++ [.ref t2], l ++ [(p, q)], fu, p + 1, q + 1, r, .ref t5, rfl, s04.trans s5, s5 _ _ hD4, by rw [len4]; omega, rfl, dmonoAll (fun c o e => hd_of (hd_ne e).1 (nw_right0 s5 _ _ (hd_ne e).2)) hacc4, by rw [len4]; omega, by rw [len4]; omega, hk2, .inr ⟨p5, q5, r5, t5, hs5, hip5, hpm5, hjq5, hqn5, rfl, ht5⟩⟩
  refine ⟨_, rfl, a, dx, _, rfl, s0 _ _ L.ob, rfl, _, rfl, a, dx, pv, g, m, n, cd, wd, kc, kw, 0, 0, k, b, rfl, L.same s0, o, om, on, Nat.zero_le _, Nat.zero_le _, hB, fun hs1 H1 s1 => ?_, fun p q r hs1 hip hpm hjq hqn t H1 s1 nt ht => ?_⟩
  · exact loop _ _ (start _ _ s1 (.inl ⟨hs1, rfl⟩))
  · exact loop _ _ (start _ _ s1 (.inr ⟨p, q, r, t, hs1, hip, hpm, hjq, hqn, rfl, ht⟩))
end
end MR

namespace MR
open PySem PySem.Spec PyProof.Rows L2
/-- the recurrence -/
def IsBst (g : List (List Int)) (b : Nat → Nat → Int × Int) (m n : Nat) : Prop := ∀ i j, i ≤ m → j ≤ n → b i j = bstAll g b m n i j (m - i)
theorem putK_len (kvs : Kvs) (k : List Key) (v : V) : (putK kvs k v).length ≤ kvs.length + 1 := by
  unfold putK
  split
  · rw [List.length_map]
    omega
  · rw [List.length_append]
    exact Nat.le_refl _
theorem key_inj {p q i j : Nat} (h : key p q = key i j) : p = i ∧ q = j := by
  injection h with h1 h2
  injection h2 with h3 _
  injection h1 with h1
  injection h3 with h3
  omega
theorem key_put {kvs : Kvs} {p q i j : Nat} {y : V} : valV (putK kvs (key i j) y) (key p q) = if p = i ∧ q = j then some y else valV kvs (key p q) := by
  rw [valV_put]
  by_cases c : p = i ∧ q = j
  · rw [if_pos c, c.1, c.2, if_pos rfl]
  · rw [if_neg c, if_neg fun z => c (key_inj z)]
section
variable {P : Program} {w : World} {K : PySem.W.Frag} {mg : Str → Option Value} {base : Heap} {f : Addr} {fd : FuncData} {C CE CT : Addr}
abbrev s_LeastMatchings_init : Stmt := inClass (topS 14) 0
theorem sc_LeastMatchings_init : FnScope ["self", "pair_costs", "old_count", "new_count", "old", "new"] ["self", "pair_costs", "old_count", "new_count"] (defScope s_LeastMatchings_init) := ⟨rfl, rfl, rfl, by decide +kernel, rfl, by decide +kernel, by decide +kernel⟩
def sp_lm_init (K : PySem.W.Frag) (C : Addr) : Sp := fun vs H Q _ => ∃ (a dx : Addr) (pv : V) (g : List (List Int)) (m n : Nat) (b : Nat → Nat → Int × Int),
  vs = [.ref a, pv, .int (m : Nat), .int (n : Nat)] ∧ H a = some (.ins C dx []) ∧ Dp K H pv (dL dLI g) ∧ GridOk g m n ∧ IsBst g b m n ∧
  ∀ H' cd wd kc kw, (∀ c o, H c = some o → c ≠ a → H' c = some o) → Tk H H' → H cd = none → H wd = none → LmAt K C H' a dx pv g m n cd wd kc kw → Told b m n kc kw → Q .non H'
/-- what is known behind u whole rows and v places of the next -/
structure LmInv (K : PySem.W.Frag) (C : Addr) (H0 H' : Hp) (a dx : Addr) (pv : V) (g : List (List Int)) (b : Nat → Nat → Int × Int) (m n : Nat) (cd wd : Addr) (u v : Nat) : Prop where
  ex : ∃ kc kw, LmAt K C H' a dx pv g m n cd wd kc kw ∧ kc.length ≤ u * (n + 1) + v ∧ kw.length ≤ u * (n + 1) + v ∧
    ∀ p q, p ≤ m → q ≤ n → (m < p + u ∨ (p + u = m ∧ n < q + v)) → valV kc (key p q) = some (.int (b p q).1) ∧ valV kw (key p q) = some (.int (b p q).2)
  kp : ∀ c o, H0 c = some o → c ≠ cd → c ≠ wd → H' c = some o
  tk : Tk H0 H'
theorem ok_lm_init (T : Tops mg) (S : LmC K C) (C_LeastMatchings_weigh : MetX P w K mg base CX0 2 C "weigh" (sp_weigh K C)) (F : Fun K "__init__" "LeastMatchings.__init__" s_LeastMatchings_init f fd) : FnOk P w K mg base CX0 3 f fd ["self", "pair_costs", "old_count", "new_count"] (sp_lm_init K C) := by
  refine F.ok sc_LeastMatchings_init (fun vs H Q E h => ?_) (fun cdv A outer s H vs Q E hr h => ⟨_, (pss_cons (ps_fld (pv 0) (pv 1) rfl)
  (pss_cons (ps_fld (pv 0) (pv 2) rfl)
  (pss_cons (ps_fld (pv 0) (pv 3) rfl)
  (pss_cons (ps_fld (pv 0) pe_dnewT rfl)
  (pss_cons (ps_fld (pv 0) pe_dnewT rfl)
  (pss_one (ps_for PassesOwn.never rfl (pi_range3 (by rfl) T.n_range (pa_cons (pv 2) (pa_cons (pe_un un_neg pe_int) (pa_cons (pe_un un_neg pe_int) pa_nil)))) (pg_name (i := 4) sc_LeastMatchings_init.nd rfl (Or.inl rfl))
   (pss_one (ps_for PassesOwn.never rfl (pi_range3 (by rfl) T.n_range (pa_cons (pv 3) (pa_cons (pe_un un_neg pe_int) (pa_cons (pe_un un_neg pe_int) pa_nil)))) (pg_name (i := 5) sc_LeastMatchings_init.nd rfl (Or.inl rfl))
   (pss_one (ps_expr (pe_m (pv 0) C_LeastMatchings_weigh hr (by decide) (fun _ => quiet) (pa_cons (pv 4) (pa_cons (pv 5) pa_nil)))))))))))))), ?_⟩)
  · obtain ⟨a, dx, pv, g, m, n, b, rfl, _⟩ := h
    rfl
  obtain ⟨a, dx, pv, g, m, n, b, rfl, ha, da, o, hb, h⟩ := h
  have om := o.m
  have on := o.n
  refine ⟨_, rfl, _, rfl, a, C, dx, _, rfl, ha, S.cl, S.n1, by show 0 < 1000; decide, ?_⟩
  refine ⟨_, rfl, _, rfl, a, C, dx, _, rfl, upd_same, S.cl, S.n2, by show 1 < 1000; decide, ?_⟩
  rw [upd_upd]
  refine ⟨_, rfl, _, rfl, a, C, dx, _, rfl, upd_same, S.cl, S.n3, by show 2 < 1000; decide, ?_⟩
  rw [upd_upd]
  intro cd hcd
  have cda : cd ≠ a := fun z => by rw [z, upd_same] at hcd; cases hcd
  have hcd0 : H cd = none := by rw [upd_ne cda] at hcd; exact hcd
  refine ⟨_, rfl, a, C, dx, _, rfl, (upd_ne (Ne.symm cda)).trans upd_same, S.cl, S.n4, by show 3 < 1000; decide, ?_⟩
  intro wd hwd
  have wda : wd ≠ a := fun z => by rw [z, upd_same] at hwd; cases hwd
  rw [upd_ne wda] at hwd
  have wdc : wd ≠ cd := fun z => by rw [z, upd_same] at hwd; cases hwd
  have hwd0 : H wd = none := by rw [upd_ne wdc, upd_ne wda] at hwd; exact hwd
  refine ⟨_, rfl, a, C, dx, _, rfl, (upd_ne (Ne.symm wda)).trans upd_same, S.cl, S.n5, by show 4 < 1000; decide, ?_⟩
  generalize hH0 : upd (upd (upd (upd (upd H a (HO.ins C dx (putF "new_count" (.int (n : Nat)) (putF "old_count" (.int (m : Nat)) (putF "pair_costs" pv []))))) cd (HO.dT [])) a (HO.ins C dx (putF "costs" (.ref cd) (putF "new_count" (.int (n : Nat)) (putF "old_count" (.int (m : Nat)) (putF "pair_costs" pv [])))))) wd (HO.dT [])) a
    (HO.ins C dx (putF "ways" (.ref wd) (putF "costs" (.ref cd) (putF "new_count" (.int (n : Nat)) (putF "old_count" (.int (m : Nat)) (putF "pair_costs" pv [])))))) = H0
  have keep0 : ∀ c o, H c = some o → c ≠ a → H0 c = some o := fun c o e nc => by
    rw [← hH0, upd_ne nc, upd_ne (ne_of_none e hwd0), upd_ne nc, upd_ne (ne_of_none e hcd0), upd_ne nc]
    exact e
  have nolst : ∀ c o, H c = some o → (∀ fs, o ≠ .ins C dx fs) → H0 c = some o := fun c o e no => keep0 c o e fun z => by
    rw [z, ha] at e
    exact no [] (Option.some.inj e).symm
  have L0 : LmAt K C H0 a dx pv g m n cd wd [] [] := by
    refine ⟨by rw [← hH0]; exact upd_same, ?_, ?_, ?_⟩
    · rw [← hH0, upd_ne cda, upd_ne (Ne.symm wdc), upd_ne cda, upd_same]
    · rw [← hH0, upd_ne wda, upd_same]
    · -- the grid holds no instance
      have lim : Dp K (fun c => if c = a then none else H c) pv (dL dLI g) := by
        obtain ⟨p, xs, rfl, hp, hx⟩ := Dp.list da
        have cut : ∀ {q : Addr} {ys : List V}, SqL K H q ys → SqL K (fun c => if c = a then none else H c) q ys := fun {q ys} e => by
          rcases e with (e | ⟨ob, e⟩) | e
          · refine .inl (.inl ?_)
            show (if q = a then none else H q) = _
            rw [if_neg (ne_of e ha (by intro z; cases z))]
            exact e
          · refine .inl (.inr ⟨ob, ?_⟩)
            show (if q = a then none else H q) = _
            rw [if_neg (ne_of e ha (by intro z; cases z))]
            exact e
          · exact .inr e
        refine .lst (cut hp) ?_
        have all : ∀ {l : List (List Int)} {ys : List V}, DpAll K H ys (l.map dLI) → DpAll K (fun c => if c = a then none else H c) ys (l.map dLI) := by
          intro l
          induction l with
          | nil =>
            intro ys e
            cases e
            exact .nil
          | cons z l ih =>
            intro ys e
            cases e with
            | cons e1 e2 =>
              obtain ⟨q, rfl, hq⟩ := Dp.ints e1
              exact .cons (ints_dp (cut hq)) (ih e2)
        exact all hx
      refine dmono (fun c ob e => ?_) lim
      by_cases z : c = a
      · simp only [z, if_pos] at e
        cases e
      · simp only [if_neg z] at e
        exact keep0 c ob e z
  have cdne : cd ≠ wd := Ne.symm wdc
  have tk0 : Tk H H0 := fun c e => by
    rw [← hH0] at e
    by_cases z1 : c = a
    · rw [z1, upd_same] at e
      cases e
    rw [upd_ne z1] at e
    by_cases z2 : c = wd
    · rw [z2, upd_same] at e
      cases e
    rw [upd_ne z2, upd_ne z1] at e
    by_cases z3 : c = cd
    · rw [z3, upd_same] at e
      cases e
    rw [upd_ne z3, upd_ne z1] at e
    exact e
  have I0 : LmInv K C H0 H0 a dx pv g b m n cd wd 0 0 := ⟨⟨[], [], L0, Nat.zero_le _, Nat.zero_le _, fun p q hp hq z => absurd z (by omega)⟩, fun _ _ e _ _ => e, fun _ e => e⟩
  have lim2 : ∀ {u v : Nat}, u ≤ m → v ≤ n → u * (n + 1) + v ≤ 2000000 := fun {u v} hu hv => by
    have : u * (n + 1) ≤ 1000 * 1001 := Nat.mul_le_mul (by omega) (by omega)
    omega
  refine ⟨_, rfl, _, rfl, _, rfl, (m : Int), -1, -1, m + 1, rfl, ?_, ?_⟩
  · have e := RgC.neg (i := (m : Int)) (j := -1) (by omega) (by omega) (by omega) (by omega)
    rwa [show ((m : Int) - -1).toNat = m + 1 from by omega] at e
  refine for_rangeC (lo := (m : Int)) (c := -1) (n := m + 1) (fun u σ H' => LmInv K C H0 H' a dx pv g b m n cd wd u 0 ∧ ∃ x y, σ = [some (.ref a), some pv, some (.int (m : Nat)), some (.int (n : Nat)), x, y]) ⟨I0, _, _, rfl⟩ ?_ ?_
  · rintro u σ H1 hu ⟨I1, x, y, rfl⟩
    have eu : (m : Int) + (u : Nat) * -1 = ((m - u : Nat) : Int) := by omega
    rw [eu]
    refine ⟨_, rfl, _, rfl, _, rfl, (n : Int), -1, -1, n + 1, rfl, ?_, ?_⟩
    · have e := RgC.neg (i := (n : Int)) (j := -1) (by omega) (by omega) (by omega) (by omega)
      rwa [show ((n : Int) - -1).toNat = n + 1 from by omega] at e
    refine for_rangeC (lo := (n : Int)) (c := -1) (n := n + 1) (fun v σ H' => LmInv K C H0 H' a dx pv g b m n cd wd u v ∧ ∃ y, σ = [some (.ref a), some pv, some (.int (m : Nat)), some (.int (n : Nat)), some (.int ((m - u : Nat) : Int)), y]) ⟨I1, _, rfl⟩ ?_ ?_
    · rintro v σ H2 hv ⟨⟨⟨kc, kw, L, lc, lw, hall⟩, kp, tk⟩, y2, rfl⟩
      have ev : (n : Int) + (v : Nat) * -1 = ((n - v : Nat) : Int) := by omega
      rw [ev]
      have l2 := lim2 (u := u) (v := v) (by omega) (by omega)
      refine ⟨_, rfl, a, dx, _, rfl, L.ob, rfl, _, rfl, _, rfl, a, dx, pv, g, m, n, cd, wd, kc, kw, m - u, n - v, b, rfl, L, o, by omega, by omega, cdne, by omega, by omega, fun p q h1 h2 h3 h4 => hall p q h2 h4 (.inl (by omega)), hb _ _ (by omega) (by omega), fun H3 k3 t3 hc3 hw3 => ?_⟩
      have ac : a ≠ cd := Ne.symm cda
      have aw : a ≠ wd := Ne.symm wda
      refine ⟨⟨⟨putK kc (key (m - u) (n - v)) (.int (b (m - u) (n - v)).1), putK kw (key (m - u) (n - v)) (.int (b (m - u) (n - v)).2), ⟨k3 _ _ L.ob ac aw, hc3, hw3, ?_⟩, ?_, ?_, fun p q hp hq z => ?_⟩, fun c ob e n1 n2 => k3 _ _ (kp c ob e n1 n2) n1 n2, tk.trans t3⟩, _, rfl⟩
      · obtain ⟨p, xs, rfl, hp, hx⟩ := Dp.list L.da
        have cut : ∀ {q : Addr} {ys : List V}, SqL K H2 q ys → SqL K H3 q ys := fun {q ys} e => by
          rcases e with (e | ⟨ob, e⟩) | e
          · exact .inl (.inl (k3 _ _ e (ne_of e L.co (by intro z; cases z)) (ne_of e L.wa (by intro z; cases z))))
          · exact .inl (.inr ⟨ob, k3 _ _ e (ne_of e L.co (by intro z; cases z)) (ne_of e L.wa (by intro z; cases z))⟩)
          · exact .inr e
        have all : ∀ {l : List (List Int)} {ys : List V}, DpAll K H2 ys (l.map dLI) → DpAll K H3 ys (l.map dLI) := by
          intro l
          induction l with
          | nil =>
            intro ys e
            cases e
            exact .nil
          | cons z l ih =>
            intro ys e
            cases e with
            | cons e1 e2 =>
              obtain ⟨q, rfl, hq⟩ := Dp.ints e1
              exact .cons (ints_dp (cut hq)) (ih e2)
        exact .lst (cut hp) (all hx)
      · have := putK_len kc (key (m - u) (n - v)) (.int (b (m - u) (n - v)).1)
        omega
      · have := putK_len kw (key (m - u) (n - v)) (.int (b (m - u) (n - v)).2)
        omega
      · rw [key_put, key_put]
        by_cases c : p = m - u ∧ q = n - v
        · rw [if_pos c, if_pos c, c.1, c.2]
          exact ⟨rfl, rfl⟩
        · rw [if_neg c, if_neg c]
          exact hall p q hp hq (by omega)
    · rintro σ H2 ⟨⟨⟨kc, kw, L, lc, lw, hall⟩, kp, tk⟩, y2, rfl⟩
      have em : (u + 1) * (n + 1) = u * (n + 1) + (n + 1) := Nat.succ_mul _ _
      refine ⟨⟨⟨kc, kw, L, by omega, by omega, fun p q hp hq z => hall p q hp hq (by omega)⟩, kp, tk⟩, _, _, rfl⟩
  · rintro σ H1 ⟨⟨⟨kc, kw, L, lc, lw, hall⟩, kp, tk⟩, x, y, rfl⟩
    refine h H1 cd wd kc kw (fun c ob e nc => kp _ _ (keep0 c ob e nc) (ne_of_none e hcd0) (ne_of_none e hwd0)) (tk0.trans tk) hcd0 hwd0 L fun p q hp hq => hall p q hp hq (.inl (by omega))
end
end MR

/-! The bests of the specification keep the program's recurrence; its k-th is the program's. -/
namespace MR
open VatdfBase (Cell Row Table Bytes Pairs)
open Vatdfb (Grid Best better nextPairs withPair noPair bestAt rowBests bestsOf bestFrom at_ kthFrom)
/-! ### The bests -/
def bstK (g : Grid) (m n k : Nat) : List (List Best) := (List.range k).foldl (fun l k => (List.replicate (m - k) [] ++ (rowBests g m n l (m - k) :: l.drop (m - k + 1)))) []
theorem bstK_succ (g : Grid) (m n k : Nat) : bstK g m n (k + 1) = List.replicate (m - k) [] ++ (rowBests g m n (bstK g m n k) (m - k) :: (bstK g m n k).drop (m - k + 1)) := by
  unfold bstK
  rw [List.range_succ, List.foldl_append]
  rfl
theorem bstK_all (g : Grid) (m n : Nat) : bstK g m n (m + 1) = bestsOf g m n := rfl
theorem bstK_new (g : Grid) (m n k : Nat) : (bstK g m n (k + 1))[m - k]? = some (rowBests g m n (bstK g m n k) (m - k)) := by
  rw [bstK_succ, List.getElem?_append_right (by rw [List.length_replicate]; exact Nat.le_refl _), List.length_replicate, Nat.sub_self]
  rfl
theorem bstK_old (g : Grid) (m n k p : Nat) (h : m - k < p) : (bstK g m n (k + 1))[p]? = (bstK g m n k)[p]? := by
  rw [bstK_succ, List.getElem?_append_right (by rw [List.length_replicate]; omega), List.length_replicate]
  rw [show p - (m - k) = (p - (m - k) - 1) + 1 from by omega, List.getElem?_cons_succ, List.getElem?_drop]
  congr 1
  omega
theorem bstK_keep (g : Grid) (m n : Nat) : ∀ (k d p : Nat), m < p + k → k + d ≤ m + 1 → (bstK g m n (k + d))[p]? = (bstK g m n k)[p]?
  | k, 0, p, _, _ => rfl
  | k, d + 1, p, h, h2 => by
    rw [← Nat.add_assoc, bstK_old g m n (k + d) p (by omega)]
    exact bstK_keep g m n k d p h (by omega)
theorem bstK_at (g : Grid) (m n i p : Nat) (hi : i < p) (hp : p ≤ m) : (bstK g m n (m - i))[p]? = (bestsOf g m n)[p]? := by
  rw [← bstK_all, show m + 1 = (m - i) + (i + 1) from by omega, bstK_keep g m n (m - i) (i + 1) p (by omega) (by omega)]
theorem mem_next {m n i j : Nat} {p : Nat × Nat} : p ∈ nextPairs m n i j ↔ (i ≤ p.1 ∧ p.1 < m) ∧ j ≤ p.2 ∧ p.2 < n := by
  unfold nextPairs
  simp only [List.mem_flatMap, List.mem_map, List.mem_range]
  constructor
  · rintro ⟨a, ha, b, hb, rfl⟩
    exact ⟨⟨by show i ≤ i + a; omega, by show i + a < m; omega⟩, by show j ≤ j + b; omega, by show j + b < n; omega⟩
  · rintro ⟨h1, h2⟩
    refine ⟨p.1 - i, by omega, p.2 - j, by omega, ?_⟩
    rw [show i + (p.1 - i) = p.1 from by omega, show j + (p.2 - j) = p.2 from by omega]
theorem foldl_ext {α β : Type} {f f' : β → α → β} : ∀ {l : List α} {b : β}, (∀ b, ∀ a ∈ l, f b a = f' b a) → l.foldl f b = l.foldl f' b
  | [], _, _ => rfl
  | a :: l, b, h => by
    rw [List.foldl_cons, List.foldl_cons, h b a List.mem_cons_self]
    exact foldl_ext fun b c hc => h b c (List.mem_cons_of_mem _ hc)
theorem best_eq (g : Grid) (m n i j : Nat) (hi : i ≤ m) (hj : j ≤ n) : bestFrom (bestsOf g m n) i j = bestAt g m n (bestsOf g m n) i j := by
  have e1 : (bestsOf g m n)[i]? = some (rowBests g m n (bstK g m n (m - i)) i) := by
    rw [← bstK_all, show m + 1 = (m - i + 1) + i from by omega, bstK_keep g m n (m - i + 1) i i (by omega) (by omega)]
    have := bstK_new g m n (m - i)
    rwa [show m - (m - i) = i from by omega] at this
  unfold bestFrom
  rw [e1, Option.bind_some]
  have e2 : (rowBests g m n (bstK g m n (m - i)) i)[j]? = some (bestAt g m n (bstK g m n (m - i)) i j) := by
    unfold rowBests
    rw [List.getElem?_map, List.getElem?_range (by omega)]
    rfl
  rw [e2]
  show bestAt g m n (bstK g m n (m - i)) i j = _
  unfold bestAt
  refine foldl_ext fun b p hp => ?_
  obtain ⟨h1, h2⟩ := mem_next.mp hp
  unfold withPair
  rw [bstK_at g m n i (p.1 + 1) (by omega) (by omega)]
theorem foldl_flatMap' {α β γ : Type} (f : γ → β → γ) (h : α → List β) : ∀ (l : List α) (c : γ), (l.flatMap h).foldl f c = l.foldl (fun c a => (h a).foldl f c) c
  | [], _ => rfl
  | a :: l, c => by
    rw [List.flatMap_cons, List.foldl_append, List.foldl_cons]
    exact foldl_flatMap' f h l _
/-! ### As the program has them -/
def gridI (g : Grid) : List (List Int) := g.map fun r => r.map fun c : Nat => (c : Int)
def bI (x : Best) : Int × Int := ((x.cost : Int), (x.many : Int))
def bN (g : Grid) (m n : Nat) : Nat → Nat → Int × Int := fun i j => bI (bestFrom (bestsOf g m n) i j)
theorem at_gI (g : Grid) (i j : Nat) : gAt (gridI g) i j = (at_ g i j : Nat) := by
  unfold gAt at_ gridI
  rw [List.getD_eq_getElem?_getD, List.getD_eq_getElem?_getD, List.getElem?_map]
  cases e : g[i]? with
  | none => rfl
  | some r =>
    rw [Option.bind_some]
    show ((r.map fun c : Nat => (c : Int))[j]?).getD 0 = _
    rw [List.getElem?_map]
    cases r[j]? <;> rfl
theorem better_bI (x y : Best) : bI (better x y) = bstStep (bI x) (y.cost : Nat) (y.many : Nat) := by
  unfold better bstStep bI
  by_cases c1 : x.cost < y.cost
  · rw [if_pos c1, if_neg (by show ¬ (y.cost : Int) < x.cost; omega), if_neg (by show ¬ (y.cost : Int) = x.cost; omega)]
  · rw [if_neg c1]
    by_cases c2 : y.cost < x.cost
    · rw [if_pos c2, if_pos (by show (y.cost : Int) < x.cost; omega)]
    · rw [if_neg c2, if_neg (by show ¬ (y.cost : Int) < x.cost; omega), if_pos (by show (y.cost : Int) = x.cost; omega)]
      show ((x.cost : Int), ((x.many + y.many : Nat) : Int)) = ((x.cost : Int), (x.many : Int) + (y.many : Int))
      rw [Int.natCast_add]
theorem way_eq (g : Grid) (m n i j : Nat) {p : Nat × Nat} (h1 : i ≤ p.1) (h2 : j ≤ p.2) : wayCost (gridI g) (bN g m n) i j p.1 p.2 = ((withPair g (bestsOf g m n) i j p).cost : Nat) ∧ (bN g m n (p.1 + 1) (p.2 + 1)).2 = ((withPair g (bestsOf g m n) i j p).many : Nat) := by
  refine ⟨?_, rfl⟩
  unfold wayCost
  rw [at_gI]
  show 3 * ((p.1 : Int) - i + p.2 - j) + (at_ g p.1 p.2 : Nat) + ((bestFrom (bestsOf g m n) (p.1 + 1) (p.2 + 1)).cost : Nat) = ((3 * ((p.1 - i) + (p.2 - j)) + at_ g p.1 p.2 + (bestFrom (bestsOf g m n) (p.1 + 1) (p.2 + 1)).cost : Nat) : Int)
  omega
theorem fold_bI (g : Grid) (bests : List (List Best)) (i j : Nat) (gi : List (List Int)) (b : Nat → Nat → Int × Int) : ∀ (l : Pairs) (x : Best) , (∀ p ∈ l, wayCost gi b i j p.1 p.2 = ((withPair g bests i j p).cost : Nat) ∧ (b (p.1 + 1) (p.2 + 1)).2 = ((withPair g bests i j p).many : Nat)) →
    bI (l.foldl (fun b p => better b (withPair g bests i j p)) x) = l.foldl (fun x p => bstStep x (wayCost gi b i j p.1 p.2) (b (p.1 + 1) (p.2 + 1)).2) (bI x)
  | [], x, _ => rfl
  | p :: l, x, h => by
    rw [List.foldl_cons, List.foldl_cons, fold_bI g bests i j gi b l _ fun q hq => h q (List.mem_cons_of_mem _ hq), better_bI]
    obtain ⟨h1, h2⟩ := h p List.mem_cons_self
    rw [h1, h2]
theorem isBst (g : Grid) (m n : Nat) : IsBst (gridI g) (bN g m n) m n := by
  intro i j hi hj
  show bI (bestFrom (bestsOf g m n) i j) = _
  rw [best_eq g m n i j hi hj]
  unfold bestAt
  rw [fold_bI g _ i j (gridI g) (bN g m n) _ _ fun p hp => by
    obtain ⟨h1, h2⟩ := mem_next.mp hp
    exact way_eq g m n i j h1.1 h2.1]
  unfold nextPairs bstAll bstRow
  rw [foldl_flatMap']
  have e0 : bI (noPair m n i j) = (3 * ((m : Int) - i + n - j), 1) := by
    show (((3 * ((m - i) + (n - j)) : Nat) : Int), ((1 : Nat) : Int)) = _
    refine Prod.ext ?_ rfl
    show ((3 * ((m - i) + (n - j)) : Nat) : Int) = 3 * ((m : Int) - i + n - j)
    omega
  rw [e0]
  refine foldl_ext fun c a _ => ?_
  rw [List.foldl_map]
/-! ### The k-th -/
def sumMany (l : List Best) : Nat := l.foldr (fun b s => b.many + s) 0
def manyAt (c : Nat) (b : Best) : Nat := if b.cost = c then b.many else 0
def sumAt (c : Nat) (l : List Best) : Nat := l.foldr (fun b s => manyAt c b + s) 0
theorem fold_better : ∀ (l : List Best) (b : Best), (l.foldl better b).cost ≤ b.cost ∧ (∀ x ∈ l, (l.foldl better b).cost ≤ x.cost) ∧ (l.foldl better b).many = manyAt (l.foldl better b).cost b + sumAt (l.foldl better b).cost l
  | [], b => ⟨Nat.le_refl _, fun x h => by simp at h, by show b.many = manyAt b.cost b + 0; unfold manyAt; rw [if_pos rfl]; rfl⟩
  | a :: l, b => by
    obtain ⟨h1, h2, h3⟩ := fold_better l (better b a)
    rw [List.foldl_cons]
    generalize l.foldl better (better b a) = r at h1 h2 h3
    have hs : sumAt r.cost (a :: l) = manyAt r.cost a + sumAt r.cost l := rfl
    rw [hs]
    unfold better at h1 h3
    by_cases c1 : b.cost < a.cost
    · rw [if_pos c1] at h1 h3
      refine ⟨h1, fun x hx => ?_, ?_⟩
      · rcases List.mem_cons.mp hx with z | z
        · rw [z]
          omega
        · exact h2 x z
      · have : manyAt r.cost a = 0 := if_neg (by omega)
        omega
    · rw [if_neg c1] at h1 h3
      by_cases c2 : a.cost < b.cost
      · rw [if_pos c2] at h1 h3
        refine ⟨by omega, fun x hx => ?_, ?_⟩
        · rcases List.mem_cons.mp hx with z | z
          · rw [z]
            omega
          · exact h2 x z
        · have : manyAt r.cost b = 0 := if_neg (by omega)
          omega
      · rw [if_neg c2] at h1 h3
        have h1 : r.cost ≤ b.cost := h1
        refine ⟨h1, fun x hx => ?_, ?_⟩
        · rcases List.mem_cons.mp hx with z | z
          · rw [z]
            omega
          · exact h2 x z
        · rw [h3]
          have e : manyAt r.cost ⟨b.cost, b.many + a.many⟩ = manyAt r.cost b + manyAt r.cost a := by
            unfold manyAt
            show (if b.cost = r.cost then b.many + a.many else 0) = _
            by_cases c3 : b.cost = r.cost
            · rw [if_pos c3, if_pos c3, if_pos (by omega)]
            · rw [if_neg c3, if_neg c3, if_neg (by omega)]
          omega
abbrev Way := Option (Nat × Nat) × Best
def stepF (x : Option (Option (Nat × Nat) × Nat) × Nat) (w : Way) : Option (Option (Nat × Nat) × Nat) × Nat := match x.1 with
  | some _ => x
  | none => if x.2 < w.2.many then (some (w.1, x.2), 0) else (none, x.2 - w.2.many)
theorem stepF_some (v : Option (Nat × Nat) × Nat) (y : Nat) : ∀ l : List Way, l.foldl stepF (some v, y) = (some v, y)
  | [] => rfl
  | w :: l => by
    rw [List.foldl_cons]
    exact stepF_some v y l
theorem stepF_none (k : Nat) (w : Way) : stepF (none, k) w = if k < w.2.many then (some (w.1, k), 0) else (none, k - w.2.many) := rfl
/-- the program's scan over some pairs, the specification's over their ways -/
theorem scan_fold (g : Grid) (m n i j k : Nat) (hi : i ≤ m) (hj : j ≤ n) : ∀ (l : Pairs), (∀ p ∈ l, i ≤ p.1 ∧ j ≤ p.2) → ∀ ahead, ahead ≤ k →
    let L : List Way := (l.map fun p => (some p, withPair g (bestsOf g m n) i j p)).filter fun w => w.2.cost == (bestFrom (bestsOf g m n) i j).cost
    (scan (gridI g) (bN g m n) i j k l ahead = none ∧ ahead + sumAt (bestFrom (bestsOf g m n) i j).cost (l.map (withPair g (bestsOf g m n) i j)) ≤ k ∧ L.foldl stepF (none, k - ahead) = (none, k - ahead - sumAt (bestFrom (bestsOf g m n) i j).cost (l.map (withPair g (bestsOf g m n) i j)))) ∨
    ∃ p r, p ∈ l ∧ scan (gridI g) (bN g m n) i j k l ahead = some (p.1, p.2, ((r : Nat) : Int)) ∧ r < (withPair g (bestsOf g m n) i j p).many ∧ L.foldl stepF (none, k - ahead) = (some (some p, r), 0) ∧ k < ahead + sumAt (bestFrom (bestsOf g m n) i j).cost (l.map (withPair g (bestsOf g m n) i j))
  | [], _, ahead, ha => .inl ⟨rfl, ha, rfl⟩
  | p :: l, hl, ahead, ha => by
    obtain ⟨w1, w2⟩ := way_eq g m n i j (hl p List.mem_cons_self).1 (hl p List.mem_cons_self).2
    have ih := scan_fold g m n i j k hi hj l fun q hq => hl q (List.mem_cons_of_mem _ hq)
    intro L
    have es : scan (gridI g) (bN g m n) i j k (p :: l) ahead = if wayCost (gridI g) (bN g m n) i j p.1 p.2 = (bN g m n i j).1 then (if (k : Int) < (ahead : Nat) + (bN g m n (p.1 + 1) (p.2 + 1)).2 then some (p.1, p.2, (k : Int) - (ahead : Nat)) else scan (gridI g) (bN g m n) i j k l ((ahead : Nat) + (bN g m n (p.1 + 1) (p.2 + 1)).2)) else scan (gridI g) (bN g m n) i j k l (ahead : Nat) := rfl
    rw [w1, w2] at es
    have e0 : (bN g m n i j).1 = ((bestFrom (bestsOf g m n) i j).cost : Nat) := rfl
    rw [e0] at es
    have eS : sumAt (bestFrom (bestsOf g m n) i j).cost ((p :: l).map (withPair g (bestsOf g m n) i j)) = manyAt (bestFrom (bestsOf g m n) i j).cost (withPair g (bestsOf g m n) i j p) + sumAt (bestFrom (bestsOf g m n) i j).cost (l.map (withPair g (bestsOf g m n) i j)) := rfl
    rw [eS]
    by_cases c : (withPair g (bestsOf g m n) i j p).cost = (bestFrom (bestsOf g m n) i j).cost
    · have eL : L = (some p, withPair g (bestsOf g m n) i j p) :: ((l.map fun p => (some p, withPair g (bestsOf g m n) i j p)).filter fun w : Way => w.2.cost == (bestFrom (bestsOf g m n) i j).cost) := by
        show List.filter _ (_ :: _) = _
        rw [List.filter_cons, if_pos (by simpa using c)]
      rw [if_pos (by omega)] at es
      rw [eL, List.foldl_cons, stepF_none]
      have em : manyAt (bestFrom (bestsOf g m n) i j).cost (withPair g (bestsOf g m n) i j p) = (withPair g (bestsOf g m n) i j p).many := if_pos c
      rw [em]
      by_cases c2 : k - ahead < (withPair g (bestsOf g m n) i j p).many
      · rw [if_pos (by omega)] at es
        refine .inr ⟨p, k - ahead, List.mem_cons_self, ?_, c2, ?_⟩
        · rw [es, show (k : Int) - (ahead : Nat) = ((k - ahead : Nat) : Int) from by omega]
        · rw [if_pos c2]
          exact ⟨stepF_some _ _ _, by omega⟩
      · rw [if_neg (by omega)] at es
        rw [if_neg c2]
        have e3 : (ahead : Int) + ((withPair g (bestsOf g m n) i j p).many : Nat) = ((ahead + (withPair g (bestsOf g m n) i j p).many : Nat) : Int) := by omega
        rw [e3] at es
        have e4 : k - ahead - (withPair g (bestsOf g m n) i j p).many = k - (ahead + (withPair g (bestsOf g m n) i j p).many) := by omega
        show (_ ∧ _ ∧ List.foldl stepF (none, k - ahead - (withPair g (bestsOf g m n) i j p).many) _ = _) ∨ ∃ q r, _ ∧ _ ∧ _ ∧ List.foldl stepF (none, k - ahead - (withPair g (bestsOf g m n) i j p).many) _ = _ ∧ _
        rw [e4]
        rcases ih (ahead + (withPair g (bestsOf g m n) i j p).many) (by omega) with ⟨h1, h2, h3⟩ | ⟨q, r, hq, h1, h2, h3, h4⟩
        · refine .inl ⟨es.trans h1, by omega, h3.trans ?_⟩
          congr 1
          omega
        · exact .inr ⟨q, r, List.mem_cons_of_mem _ hq, es.trans h1, h2, h3, by omega⟩
    · have eL : L = ((l.map fun p => (some p, withPair g (bestsOf g m n) i j p)).filter fun w : Way => w.2.cost == (bestFrom (bestsOf g m n) i j).cost) := by
        show List.filter _ (_ :: _) = _
        rw [List.filter_cons, if_neg (by simpa using c)]
      rw [if_neg (by omega)] at es
      rw [eL]
      have em : manyAt (bestFrom (bestsOf g m n) i j).cost (withPair g (bestsOf g m n) i j p) = 0 := if_neg c
      rw [em, Nat.zero_add]
      rcases ih ahead ha with ⟨h1, h2, h3⟩ | ⟨q, r, hq, h1, h2, h3, h4⟩
      · exact .inl ⟨es.trans h1, h2, h3⟩
      · exact .inr ⟨q, r, List.mem_cons_of_mem _ hq, es.trans h1, h2, h3, by omega⟩
theorem rows_next (m n i j : Nat) : rowsFrom m n i j 0 = nextPairs m n i j := by
  unfold rowsFrom rowFrom nextPairs
  simp only [Nat.sub_zero, ← List.range_eq_range']
theorem many_eq (g : Grid) (m n i j : Nat) (hi : i ≤ m) (hj : j ≤ n) : (bestFrom (bestsOf g m n) i j).many = manyAt (bestFrom (bestsOf g m n) i j).cost (noPair m n i j) + sumAt (bestFrom (bestsOf g m n) i j).cost ((nextPairs m n i j).map (withPair g (bestsOf g m n) i j)) := by
  have e : bestFrom (bestsOf g m n) i j = ((nextPairs m n i j).map (withPair g (bestsOf g m n) i j)).foldl better (noPair m n i j) := by
    rw [best_eq g m n i j hi hj]
    unfold bestAt
    rw [List.foldl_map]
  rw [e]
  exact (fold_better _ _).2.2
theorem kthFrom_succ (g : Grid) (m n : Nat) (B : List (List Best)) (f i j k : Nat) : kthFrom g m n B (f + 1) i j k =
    match ((((nextPairs m n i j).map fun p => ((some p, withPair g B i j p) : Way)) ++ [((none, noPair m n i j) : Way)]).filter fun w : Way => w.2.cost == (bestFrom B i j).cost).foldl stepF (none, k) |>.1 with
      | none => none
      | some (none, _) => some []
      | some (some p, r) => (kthFrom g m n B f (p.1 + 1) (p.2 + 1) r).map fun l => p :: l := rfl
/-- **the k-th**: none from the many-th on -/
theorem kth_eq (g : Grid) (m n : Nat) : ∀ (f i j k : Nat), i ≤ m → j ≤ n → m + 1 ≤ i + f →
    kthFrom g m n (bestsOf g m n) f i j k = if k < (bestFrom (bestsOf g m n) i j).many then some (kthM (gridI g) (bN g m n) m n f i j (k : Nat)) else none
  | 0, i, j, k, hi, hj, hf => absurd hf (by omega)
  | f + 1, i, j, k, hi, hj, hf => by
    rw [kthFrom_succ, many_eq g m n i j hi hj]
    have ek : kthM (gridI g) (bN g m n) m n (f + 1) i j (k : Nat) = match scan (gridI g) (bN g m n) i j (k : Nat) (rowsFrom m n i j 0) 0 with
      | none => []
      | some (p, q, r) => (p, q) :: kthM (gridI g) (bN g m n) m n f (p + 1) (q + 1) r := rfl
    rw [ek, rows_next, List.filter_append, List.foldl_append]
    rcases scan_fold g m n i j k hi hj (nextPairs m n i j) (fun p hp => ⟨(mem_next.mp hp).1.1, (mem_next.mp hp).2.1⟩) 0 (Nat.zero_le _) with ⟨h1, h2, h3⟩ | ⟨p, r, hp, h1, h2, h3, h4⟩
    · rw [Nat.sub_zero] at h3
      rw [h3]
      have h1 : scan (gridI g) (bN g m n) i j (k : Nat) (nextPairs m n i j) 0 = none := h1
      rw [h1]
      rw [Nat.zero_add] at h2
      by_cases c : (noPair m n i j).cost = (bestFrom (bestsOf g m n) i j).cost
      · rw [List.filter_cons, if_pos (by simpa using c)]
        have em : manyAt (bestFrom (bestsOf g m n) i j).cost (noPair m n i j) = 1 := if_pos c
        rw [em]
        show (match (List.foldl stepF (stepF (none, _) (none, noPair m n i j)) []).1 with | none => none | some (none, _) => some [] | some (some p, r) => _) = _
        rw [stepF_none]
        by_cases c2 : k - sumAt (bestFrom (bestsOf g m n) i j).cost ((nextPairs m n i j).map (withPair g (bestsOf g m n) i j)) < 1
        · rw [if_pos (show _ < (noPair m n i j).many from c2), if_pos (by omega)]
          rfl
        · rw [if_neg (show ¬ _ < (noPair m n i j).many from c2), if_neg (by omega)]
          rfl
      · rw [List.filter_cons, if_neg (by simpa using c)]
        have em : manyAt (bestFrom (bestsOf g m n) i j).cost (noPair m n i j) = 0 := if_neg c
        rw [em, if_neg (by omega)]
        rfl
    · rw [Nat.sub_zero] at h3
      rw [h3, stepF_some]
      have h1 : scan (gridI g) (bN g m n) i j (k : Nat) (nextPairs m n i j) 0 = some (p.1, p.2, ((r : Nat) : Int)) := h1
      rw [h1]
      obtain ⟨⟨p1, p2⟩, p3, p4⟩ := mem_next.mp hp
      have ih := kth_eq g m n f (p.1 + 1) (p.2 + 1) r (by omega) (by omega) (by omega)
      show (kthFrom g m n (bestsOf g m n) f (p.1 + 1) (p.2 + 1) r).map (fun l => p :: l) = _
      rw [ih, if_pos (show r < (bestFrom (bestsOf g m n) (p.1 + 1) (p.2 + 1)).many from h2)]
      rw [Nat.zero_add] at h4
      have hk : k < manyAt (bestFrom (bestsOf g m n) i j).cost (noPair m n i j) + sumAt (bestFrom (bestsOf g m n) i j).cost ((nextPairs m n i j).map (withPair g (bestsOf g m n) i j)) := by omega
      rw [if_pos hk]
      rfl
end MR

/-! Costs: of pairs, of columns, of matchings. -/
namespace MR
open VatdfBase (Cell Row Table Bytes Pairs)
open Vatdfb (Grid Best better nextPairs withPair noPair bestAt rowBests bestsOf bestFrom at_ kthFrom)
theorem countP_ext {α : Type} {f g : α → Bool} {l : List α} (h : ∀ a ∈ l, f a = g a) : l.countP f = l.countP g := List.countP_congr fun a ha => by rw [h a ha]
theorem bne_map {α β : Type} [BEq α] [LawfulBEq α] [BEq β] [LawfulBEq β] {f : α → β} (hf : ∀ {a b}, f a = f b → a = b) (a b : α) : (f a != f b) = (a != b) := by
  by_cases h : a = b
  · subst h
    simp
  · rw [bne_iff_ne.mpr h, bne_iff_ne.mpr fun z => h (hf z)]
theorem cell_at {t : Table} {i c : Nat} {r : Row} (hr : t.rows[i]? = some r) (hc : c < r.length) : (r.map VatdfFlat.flatCell)[c]? = some (VatdfFlat.flatCell (t.cell i c)) := by
  unfold VatdfBase.Table.cell VatdfBase.Table.row VatdfBase.cellAt
  rw [hr, List.getElem?_map]
  show _ = some (VatdfFlat.flatCell ((r[c]?).getD .empty))
  rw [List.getElem?_eq_getElem hc]
  rfl
theorem fullC_cell (c : Cell) : fullC (VatdfFlat.flatCell c) = (c != .empty) := by
  cases c <;> rfl
theorem newOf_none (l : Pairs) (c : Nat) : (VatdfBase.newOf l c).isNone = !(l.map fun p => p.1).contains c := by
  unfold VatdfBase.newOf
  induction l with
  | nil => rfl
  | cons p l ih =>
    rw [List.find?_cons, List.map_cons, List.contains_cons]
    by_cases h : p.1 = c
    · have e1 : (p.1 == c) = true := by simpa using h
      have e2 : (c == p.1) = true := by simpa using h.symm
      rw [e1, e2]
      rfl
    · have e1 : (p.1 == c) = false := by simpa using h
      have e2 : (c == p.1) = false := by simpa using Ne.symm h
      rw [e1, e2, Bool.false_or]
      exact ih
theorem oldOf_none (l : Pairs) (c : Nat) : (VatdfBase.oldOf l c).isNone = !(l.map fun p => p.2).contains c := by
  unfold VatdfBase.oldOf
  induction l with
  | nil => rfl
  | cons p l ih =>
    rw [List.find?_cons, List.map_cons, List.contains_cons]
    by_cases h : p.2 = c
    · have e1 : (p.2 == c) = true := by simpa using h
      have e2 : (c == p.2) = true := by simpa using h.symm
      rw [e1, e2]
      rfl
    · have e1 : (p.2 == c) = false := by simpa using h
      have e2 : (c == p.2) = false := by simpa using Ne.symm h
      rw [e1, e2, Bool.false_or]
      exact ih
/-- a table whose rows have a cell for each name -/
def Square (t : Table) : Prop := ∀ r ∈ t.rows, r.length = t.names.length
theorem square_of {t : Table} (h : VatdfBase.isTable t = true) : Square t := fun r hr => (((isTable_iff t).mp h).2.2 r hr).1
theorem filled_eq {t : Table} (q : Square t) {i : Nat} {r : Row} (hr : t.rows[i]? = some r) (l : List Nat) : filledN (loneN l t.names.length) (r.map VatdfFlat.flatCell) = (List.range t.names.length).countP fun c => !l.contains c && t.cell i c != .empty := by
  unfold filledN loneN
  rw [List.countP_filter]
  refine countP_ext fun c hc => ?_
  have hc : c < r.length := by
    rw [q r (List.mem_of_getElem? hr)]
    exact List.mem_range.mp hc
  rw [cell_at hr hc, Bool.and_comm]
  show (_ && fullC (VatdfFlat.flatCell (t.cell i c))) = _
  rw [fullC_cell]
theorem pairCost_eq {a b : Table} (qa : Square a) (qb : Square b) {cols : Pairs} (hc : ∀ p ∈ cols, p.1 < a.names.length ∧ p.2 < b.names.length) {i j : Nat} {r s : Row} (hr : a.rows[i]? = some r) (hs : b.rows[j]? = some s) :
    Vatdfb.pairCost a b cols i j = pairCostI cols a.names.length b.names.length (r.map VatdfFlat.flatCell) (s.map VatdfFlat.flatCell) := by
  unfold Vatdfb.pairCost pairCostI
  rw [filled_eq qa hr, filled_eq qb hs]
  have e1 : (cols.countP fun p => a.cell i p.1 != b.cell j p.2) = unlikeN cols (r.map VatdfFlat.flatCell) (s.map VatdfFlat.flatCell) := by
    unfold unlikeN
    refine countP_ext fun p hp => ?_
    obtain ⟨h1, h2⟩ := hc p hp
    rw [cell_at hr (by rw [qa r (List.mem_of_getElem? hr)]; exact h1), cell_at hs (by rw [qb s (List.mem_of_getElem? hs)]; exact h2)]
    symm
    refine (bne_map (fun {x y} e => flatCell_inj (Option.some.inj e)) (a.cell i p.1) (b.cell j p.2) (f := fun c => some (VatdfFlat.flatCell c)))
  rw [← e1]
  have e2 : ∀ (l : List Nat) (f : Nat → Bool), (l.countP fun c => (VatdfBase.newOf cols c).isNone && f c) = l.countP fun c => !(cols.map fun p => p.1).contains c && f c := fun l f => countP_ext fun c _ => by rw [newOf_none]
  have e3 : ∀ (l : List Nat) (f : Nat → Bool), (l.countP fun c => (VatdfBase.oldOf cols c).isNone && f c) = l.countP fun c => !(cols.map fun p => p.2).contains c && f c := fun l f => countP_ext fun c _ => by rw [oldOf_none]
  rw [e2, e3]
  omega
theorem map_range {α β : Type} (l : List α) (f : Nat → β) (g : α → β) (h : ∀ i a, l[i]? = some a → f i = g a) : (List.range l.length).map f = l.map g := by
  refine List.ext_getElem? fun i => ?_
  rw [List.getElem?_map, List.getElem?_map]
  cases e : l[i]? with
  | none =>
    have := List.getElem?_eq_none_iff.mp e
    rw [List.getElem?_eq_none (by rw [List.length_range]; exact this)]
    rfl
  | some a =>
    obtain ⟨hi, _⟩ := List.getElem?_eq_some_iff.mp e
    rw [List.getElem?_range hi]
    show some (f i) = some (g a)
    rw [h i a e]
theorem grid_eq {a b : Table} (qa : Square a) (qb : Square b) {cols : Pairs} (hc : ∀ p ∈ cols, p.1 < a.names.length ∧ p.2 < b.names.length) :
    gridI (Vatdfb.gridOf a b cols) = pairCostsI cols a.names.length b.names.length (rowsI a) (rowsI b) := by
  unfold gridI Vatdfb.gridOf pairCostsI rowsI
  rw [List.map_map, List.map_map]
  refine map_range a.rows _ _ fun i r hr => ?_
  show (((List.range b.rows.length).map fun j => Vatdfb.pairCost a b cols i j).map fun c : Nat => (c : Int)) = ((b.rows.map fun r => r.map VatdfFlat.flatCell).map fun q => ((pairCostI cols a.names.length b.names.length (r.map VatdfFlat.flatCell) q : Nat) : Int))
  rw [List.map_map, List.map_map]
  refine map_range b.rows _ _ fun j s hs => ?_
  show ((Vatdfb.pairCost a b cols i j : Nat) : Int) = _
  rw [pairCost_eq qa qb hc hr hs]
  rfl
theorem grid_at_cost {a b : Table} {cols : Pairs} {i j : Nat} (hi : i < a.rows.length) (hj : j < b.rows.length) : at_ (Vatdfb.gridOf a b cols) i j = Vatdfb.pairCost a b cols i j := by
  unfold at_ Vatdfb.gridOf
  rw [List.getElem?_map, List.getElem?_range hi]
  show (((List.range b.rows.length).map fun j => Vatdfb.pairCost a b cols i j)[j]?).getD 0 = _
  rw [List.getElem?_map, List.getElem?_range hj]
  rfl
/-! ### Names -/
theorem findIdx_map {α β : Type} (f : α → β) (p : β → Bool) : ∀ l : List α, (l.map f).findIdx? p = l.findIdx? fun a => p (f a)
  | [] => rfl
  | a :: l => by
    rw [List.map_cons, List.findIdx?_cons, List.findIdx?_cons, findIdx_map f p l]
theorem findIdx_ext {α : Type} {p q : α → Bool} (h : ∀ a, p a = q a) (l : List α) : l.findIdx? p = l.findIdx? q := by rw [show p = q from funext h]
theorem filterMap_ext {α β : Type} {f g : α → Option β} : ∀ {l : List α}, (∀ a ∈ l, f a = g a) → l.filterMap f = l.filterMap g
  | [], _ => rfl
  | a :: l, h => by
    rw [List.filterMap_cons, List.filterMap_cons, h a List.mem_cons_self, filterMap_ext fun b hb => h b (List.mem_cons_of_mem _ hb)]
theorem names_eq (a b : Table) : sameNames (namesI a) (namesI b) = (Vatdfb.byNames a b).map pN := by
  unfold sameNames Vatdfb.byNames namesI
  rw [List.length_map, List.map_filterMap]
  refine filterMap_ext fun d hd => ?_
  have hd : d < b.names.length := List.mem_range.mp hd
  rw [List.getElem?_map, List.getElem?_eq_getElem hd]
  show ((a.names.map VatdfFlat.ints).findIdx? (· == VatdfFlat.ints b.names[d])).map (fun c => ((c : Int), (d : Int))) = _
  rw [findIdx_map, findIdx_ext (q := fun n => some n == some b.names[d]) fun n => ?_]
  · cases List.findIdx? (fun n => some n == some b.names[d]) a.names <;> rfl
  · have := bne_map (f := VatdfFlat.ints) (fun {x y} e => ints_inj e) n b.names[d]
    unfold bne at this
    have e : (some n == some b.names[d]) = (n == b.names[d]) := rfl
    rw [e]
    exact Bool.not_inj this
/-! ### Columns -/
theorem foldl_max_le {k : Nat} : ∀ {l : List Nat} {a : Nat}, a ≤ k → (∀ x ∈ l, x ≤ k) → l.foldl Nat.max a ≤ k
  | [], _, h, _ => h
  | x :: l, a, h, hl => foldl_max_le (l := l) (Nat.max_le.mpr ⟨h, hl x List.mem_cons_self⟩) fun y hy => hl y (List.mem_cons_of_mem _ hy)
theorem lrTo_bound (l : List Nat) : ∀ i, i ≤ l.length → (lrTo l i).length = i ∧ ∀ (j v : Nat), (lrTo l i)[j]? = some v → v ≤ j + 1
  | 0, _ => ⟨rfl, fun j v h => by cases h⟩
  | i + 1, h => by
    obtain ⟨h1, h2⟩ := lrTo_bound l i (by omega)
    have e : lrTo l (i + 1) = lrStep l (lrTo l i) (l[i], i) := by
      unfold lrTo
      have et : l.zipIdx.take (i + 1) = l.zipIdx.take i ++ [(l[i], i)] := by
        rw [List.take_add_one, List.getElem?_zipIdx, List.getElem?_eq_getElem (by omega)]
        simp
      rw [et, List.foldl_append]
      rfl
    rw [e]
    unfold lrStep
    refine ⟨by rw [List.length_append, h1]; rfl, fun j v hj => ?_⟩
    by_cases c : j < i
    · rw [List.getElem?_append_left (by omega)] at hj
      exact h2 j v hj
    · rw [List.getElem?_append_right (by omega), h1] at hj
      have c2 : j - i = 0 := by
        refine Decidable.byContradiction fun z => ?_
        rw [show j - i = (j - i - 1) + 1 from by omega] at hj
        cases hj
      rw [c2] at hj
      have hj := Option.some.inj hj
      rw [← hj]
      have : (((List.range i).map fun k => if (l[k]?).getD 0 < l[i] then ((lrTo l i)[k]?).getD 0 else 0).foldl Nat.max 0) ≤ i := by
        refine foldl_max_le (Nat.zero_le _) fun x hx => ?_
        obtain ⟨k, hk, rfl⟩ := List.mem_map.mp hx
        have hk := List.mem_range.mp hk
        by_cases c3 : (l[k]?).getD 0 < l[i]
        · rw [if_pos c3]
          cases ek : (lrTo l i)[k]? with
          | none => exact Nat.zero_le _
          | some y =>
            have := h2 k y ek
            show y ≤ i
            omega
        · rw [if_neg c3]
          exact Nat.zero_le _
      show (((List.range i).map fun k => if (l[k]?).getD 0 < l[i] then ((lrTo l i)[k]?).getD 0 else 0).foldl Nat.max 0) + 1 ≤ j + 1
      omega
theorem longest_le (l : List Nat) : VatdfBase.longest l ≤ l.length := by
  obtain ⟨h1, h2⟩ := lrTo_bound l l.length (Nat.le_refl _)
  have e : VatdfBase.longestTo l = lrTo l l.length := by
    unfold VatdfBase.longestTo lrTo
    rw [List.take_of_length_le (by rw [List.length_zipIdx]; exact Nat.le_refl _)]
    rfl
  unfold VatdfBase.longest
  rw [e]
  refine foldl_max_le (Nat.zero_le _) fun x hx => ?_
  obtain ⟨j, hj⟩ := List.mem_iff_getElem?.mp hx
  have := h2 j x hj
  obtain ⟨hl, _⟩ := List.getElem?_eq_some_iff.mp hj
  omega
theorem rise_len : ∀ (l : List Nat) (lo n : Nat), (∀ x ∈ l, lo ≤ x ∧ x < n) → (∀ (i : Nat) (h : i + 1 < l.length), l[i] < l[i + 1]) → l.length ≤ n - lo
  | [], _, _, _, _ => Nat.zero_le _
  | a :: l, lo, n, h, hr => by
    have ha := h a List.mem_cons_self
    have hn : ∀ (i : Nat) (hi : i < l.length), a < l[i] := by
      intro i
      induction i with
      | zero => exact fun hi => hr 0 (by simpa using hi)
      | succ i ih => exact fun hi => Nat.lt_trans (ih (by omega)) (hr (i + 1) (by simpa using hi))
    have := rise_len l (a + 1) n (fun x hx => by
      obtain ⟨i, hi, rfl⟩ := List.mem_iff_getElem.mp hx
      exact ⟨hn i hi, (h _ (List.mem_cons_of_mem _ hx)).2⟩) (fun i hi => hr (i + 1) (by simpa using hi))
    rw [List.length_cons]
    omega
theorem nodupN_len : ∀ (n : Nat) (l : List Nat), l.Nodup → (∀ x ∈ l, x < n) → l.length ≤ n
  | 0, l, _, h => by
    cases l with
    | nil => exact Nat.le_refl _
    | cons a l => exact absurd (h a List.mem_cons_self) (by omega)
  | n + 1, l, hn, h => by
    have := nodupN_len n (l.filter fun x => !(x == n)) (hn.filter _) fun x hx => by
      obtain ⟨h1, h2⟩ := List.mem_filter.mp hx
      have := h x h1
      have : x ≠ n := by simpa using h2
      omega
    have e : l.length = (l.filter fun x => !(x == n)).length + l.countP (· == n) := by
      rw [List.length_eq_countP_add_countP (fun x => !(x == n)), List.countP_eq_length_filter]
      congr 1
      refine countP_ext fun x _ => ?_
      cases x == n <;> rfl
    have h1 : l.countP (· == n) ≤ 1 := by
      have := List.nodup_iff_count.mp hn n
      exact this
    omega
theorem colsCost_eq {a b : List Bytes} {cols : Pairs} (h : VatdfBase.okCols a.length b.length cols = true) : colCost (a.map VatdfFlat.ints) (b.map VatdfFlat.ints) cols = (VatdfBase.colsCost a b cols : Nat) := by
  obtain ⟨h1, h2, h3⟩ := (okCols_iff _ _ _).mp h
  have l1 : cols.length ≤ a.length := by
    have := nodupN_len a.length (cols.map fun q => q.1) h3 fun x hx => by
      obtain ⟨q, hq, rfl⟩ := List.mem_map.mp hx
      exact (h1 q hq).1
    rwa [List.length_map] at this
  have l2 : cols.length ≤ b.length := by
    have := rise_len (cols.map fun q => q.2) 0 b.length (fun x hx => by
      obtain ⟨q, hq, rfl⟩ := List.mem_map.mp hx
      exact ⟨Nat.zero_le _, (h1 q hq).2⟩) fun i hi => by
        rw [List.length_map] at hi
        rw [List.getElem_map, List.getElem_map]
        exact h2 i hi
    rw [List.length_map] at this
    omega
  have l3 := longest_le (cols.map fun p => p.1)
  rw [List.length_map] at l3
  unfold colCost VatdfBase.colsCost
  have e : (cols.countP fun p => (a.map VatdfFlat.ints)[p.1]? != (b.map VatdfFlat.ints)[p.2]?) = cols.countP fun p => a[p.1]? != b[p.2]? := by
    refine countP_ext fun p hp => ?_
    obtain ⟨q1, q2⟩ := h1 p hp
    rw [List.getElem?_map, List.getElem?_map, List.getElem?_eq_getElem q1, List.getElem?_eq_getElem q2]
    exact bne_map (f := fun w => some (VatdfFlat.ints w)) (fun {x y} e => ints_inj (Option.some.inj e)) a[p.1] b[p.2]
  rw [e, List.length_map, List.length_map]
  show _ = ((2 * (cols.countP fun p => a[p.1]? != b[p.2]?) + 1 * (cols.length - VatdfBase.longest (cols.map fun p => p.1)) + 4 * (a.length + b.length - 2 * cols.length) : Nat) : Int)
  omega
/-! ### Matchings -/
theorem rows_len {m n : Nat} {p : Pairs} (h : VatdfBase.okRows m n p = true) : p.length ≤ m ∧ p.length ≤ n := by
  obtain ⟨h1, h2, h3⟩ := (okRows_iff _ _ _).mp h
  constructor
  · have := rise_len (p.map fun q => q.1) 0 m (fun x hx => by
      obtain ⟨q, hq, rfl⟩ := List.mem_map.mp hx
      exact ⟨Nat.zero_le _, (h1 q hq).1⟩) fun i hi => by
        rw [List.length_map] at hi
        rw [List.getElem_map, List.getElem_map]
        exact h2 i hi
    rw [List.length_map] at this
    omega
  · have := rise_len (p.map fun q => q.2) 0 n (fun x hx => by
      obtain ⟨q, hq, rfl⟩ := List.mem_map.mp hx
      exact ⟨Nat.zero_le _, (h1 q hq).2⟩) fun i hi => by
        rw [List.length_map] at hi
        rw [List.getElem_map, List.getElem_map]
        exact h3 i hi
    rw [List.length_map] at this
    omega
end MR

/-! The least cost is the least. -/
namespace MR
open VatdfBase (Cell Row Table Bytes Pairs)
open Vatdfb (Grid Best better nextPairs withPair noPair bestAt rowBests bestsOf bestFrom at_ kthFrom)
/-- pairs that rise from a place on -/
def From (m n : Nat) : Nat → Nat → Pairs → Prop
  | i, j, [] => i ≤ m ∧ j ≤ n
  | i, j, p :: l => (i ≤ p.1 ∧ p.1 < m) ∧ (j ≤ p.2 ∧ p.2 < n) ∧ From m n (p.1 + 1) (p.2 + 1) l
theorem from_of {m n : Nat} : ∀ (l : Pairs) (i j : Nat), i ≤ m → j ≤ n → (∀ q ∈ l, q.1 < m ∧ q.2 < n) → (∀ p, l.head? = some p → i ≤ p.1 ∧ j ≤ p.2) → (∀ (k : Nat) (h : k + 1 < l.length), l[k].1 < l[k + 1].1) → (∀ (k : Nat) (h : k + 1 < l.length), l[k].2 < l[k + 1].2) → From m n i j l
  | [], i, j, hi, hj, _, _, _, _ => ⟨hi, hj⟩
  | p :: l, i, j, hi, hj, hb, hh, h1, h2 => by
    obtain ⟨a1, a2⟩ := hh p rfl
    obtain ⟨b1, b2⟩ := hb p List.mem_cons_self
    refine ⟨⟨a1, b1⟩, ⟨a2, b2⟩, from_of l (p.1 + 1) (p.2 + 1) b1 b2 (fun q hq => hb q (List.mem_cons_of_mem _ hq)) (fun q hq => ?_) (fun k hk => h1 (k + 1) (by simpa using hk)) (fun k hk => h2 (k + 1) (by simpa using hk))⟩
    cases l with
    | nil => cases hq
    | cons r l =>
      cases hq
      exact ⟨h1 0 (by simp), h2 0 (by simp)⟩
theorem from_ok {m n : Nat} {l : Pairs} (h : VatdfBase.okRows m n l = true) : From m n 0 0 l := by
  obtain ⟨h1, h2, h3⟩ := (okRows_iff _ _ _).mp h
  exact from_of l 0 0 (Nat.zero_le _) (Nat.zero_le _) h1 (fun _ _ => ⟨Nat.zero_le _, Nat.zero_le _⟩) h2 h3
def sumG (g : Grid) (l : Pairs) : Nat := (l.map fun p => at_ g p.1 p.2).foldl (fun a b => a + b) 0
theorem foldl_add (l : List Nat) : ∀ a, l.foldl (fun a b => a + b) a = a + l.foldl (fun a b => a + b) 0 := by
  induction l with
  | nil => exact fun a => rfl
  | cons b l ih =>
    intro a
    rw [List.foldl_cons, List.foldl_cons, ih (a + b), ih (0 + b)]
    omega
theorem sumG_cons (g : Grid) (p : Nat × Nat) (l : Pairs) : sumG g (p :: l) = at_ g p.1 p.2 + sumG g l := by
  unfold sumG
  rw [List.map_cons, List.foldl_cons, foldl_add, Nat.zero_add]
theorem from_len {m n : Nat} : ∀ {l : Pairs} {i j : Nat}, From m n i j l → l.length ≤ m - i ∧ l.length ≤ n - j
  | [], _, _, _ => ⟨Nat.zero_le _, Nat.zero_le _⟩
  | p :: l, i, j, ⟨h1, h2, h3⟩ => by
    have := from_len h3
    rw [List.length_cons]
    omega
theorem best_le (g : Grid) (m n i j : Nat) (hi : i ≤ m) (hj : j ≤ n) : (bestFrom (bestsOf g m n) i j).cost ≤ (noPair m n i j).cost ∧ ∀ p, (i ≤ p.1 ∧ p.1 < m) → (j ≤ p.2 ∧ p.2 < n) → (bestFrom (bestsOf g m n) i j).cost ≤ (withPair g (bestsOf g m n) i j p).cost := by
  have e : bestFrom (bestsOf g m n) i j = ((nextPairs m n i j).map (withPair g (bestsOf g m n) i j)).foldl better (noPair m n i j) := by
    rw [best_eq g m n i j hi hj]
    unfold bestAt
    rw [List.foldl_map]
  rw [e]
  obtain ⟨h1, h2, _⟩ := fold_better ((nextPairs m n i j).map (withPair g (bestsOf g m n) i j)) (noPair m n i j)
  exact ⟨h1, fun p q1 q2 => h2 _ (List.mem_map.mpr ⟨p, mem_next.mpr ⟨q1, q2⟩, rfl⟩)⟩
theorem least_from (g : Grid) (m n : Nat) : ∀ (l : Pairs) (i j : Nat), From m n i j l → (bestFrom (bestsOf g m n) i j).cost ≤ 3 * ((m - i) + (n - j) - 2 * l.length) + sumG g l
  | [], i, j, ⟨hi, hj⟩ => (best_le g m n i j hi hj).1
  | p :: l, i, j, ⟨h1, h2, h3⟩ => by
    have ih := least_from g m n l _ _ h3
    have hl := from_len h3
    have := (best_le g m n i j (by omega) (by omega)).2 p h1 h2
    have e : (withPair g (bestsOf g m n) i j p).cost = 3 * ((p.1 - i) + (p.2 - j)) + at_ g p.1 p.2 + (bestFrom (bestsOf g m n) (p.1 + 1) (p.2 + 1)).cost := rfl
    rw [sumG_cons, List.length_cons]
    omega
theorem least_le {g : Grid} {m n : Nat} {l : Pairs} (h : VatdfBase.okRows m n l = true) : (bestFrom (bestsOf g m n) 0 0).cost ≤ Vatdfb.matchingCost g m n l := by
  have := least_from g m n l 0 0 (from_ok h)
  show _ ≤ 3 * (m + n - 2 * l.length) + sumG g l
  omega
/-- what the program works out of a matching -/
def costM (g : List (List Int)) (m n : Nat) (l : Pairs) : Int := 3 * ((m : Int) + n - 2 * l.length) + (l.map fun p => gAt g p.1 p.2).sum
theorem sum_gI (g : Grid) : ∀ l : Pairs, (l.map fun p => gAt (gridI g) p.1 p.2).sum = (sumG g l : Nat)
  | [] => rfl
  | p :: l => by
    rw [List.map_cons, List.sum_cons, sum_gI g l, sumG_cons, at_gI]
    omega
theorem costM_eq {g : Grid} {m n : Nat} {l : Pairs} (h : VatdfBase.okRows m n l = true) : costM (gridI g) m n l = (Vatdfb.matchingCost g m n l : Nat) := by
  obtain ⟨h1, h2⟩ := rows_len h
  unfold costM
  rw [sum_gI]
  show _ = ((3 * (m + n - 2 * l.length) + sumG g l : Nat) : Int)
  omega
theorem cost_over {g : Grid} {m n : Nat} {l : Pairs} (h : VatdfBase.okRows m n l = true) : costM (gridI g) m n l - (bN g m n 0 0).1 = (Vatdfb.matchingCost g m n l - (bestFrom (bestsOf g m n) 0 0).cost : Nat) := by
  rw [costM_eq h]
  have := least_le (g := g) h
  show _ - ((bestFrom (bestsOf g m n) 0 0).cost : Int) = _
  omega
/-! ### What a pair of tables works out to -/
theorem noPair_many (m n i j : Nat) : (noPair m n i j).many = 1 := rfl
theorem many_pos (g : Grid) (m n : Nat) : ∀ (f i j : Nat), i ≤ m → j ≤ n → m ≤ i + f → 0 < (bestFrom (bestsOf g m n) i j).many
  | f, i, j, hi, hj, hf => by
    have e : bestFrom (bestsOf g m n) i j = ((nextPairs m n i j).map (withPair g (bestsOf g m n) i j)).foldl better (noPair m n i j) := by
      rw [best_eq g m n i j hi hj]
      unfold bestAt
      rw [List.foldl_map]
    rw [e]
    have pos : ∀ (l : List Best) (b : Best), 0 < b.many → (∀ x ∈ l, 0 < x.many) → 0 < (l.foldl better b).many := by
      intro l
      induction l with
      | nil => exact fun b h _ => h
      | cons a l ih =>
        intro b hb hl
        refine ih _ ?_ fun x hx => hl x (List.mem_cons_of_mem _ hx)
        have ha := hl a List.mem_cons_self
        unfold better
        split
        · exact hb
        · split
          · exact ha
          · show 0 < b.many + a.many
            omega
    refine pos _ _ (by rw [noPair_many]; exact Nat.one_pos) fun x hx => ?_
    obtain ⟨p, hp, rfl⟩ := List.mem_map.mp hx
    obtain ⟨h1, h2⟩ := mem_next.mp hp
    cases f with
    | zero => omega
    | succ f => exact many_pos g m n f (p.1 + 1) (p.2 + 1) (by omega) (by omega) (by omega)
end MR

/-! What is kept when only instances change; two tables held. -/
namespace MR
open PySem PySem.Spec PyProof.Rows L2
open VatdfBase (Cell Row Table Bytes Pairs)
/-- all but instances stay -/
def KpD (H H' : Hp) : Prop := ∀ c ob, H c = some ob → (∀ C dx fs, ob ≠ .ins C dx fs) → H' c = some ob
theorem KpD.trans {H H1 H2 : Hp} (a : KpD H H1) (b : KpD H1 H2) : KpD H H2 := fun c o e n => b c o (a c o e n) n
theorem KpD.same {H H' : Hp} (s : Same H H') : KpD H H' := fun c o e _ => s c o e
/-- all but what stands at a, an instance -/
def KpB (a : Addr) (H H' : Hp) : Prop := ∀ c ob, H c = some ob → c ≠ a → H' c = some ob
theorem KpB.trans {a : Addr} {H H1 H2 : Hp} (x : KpB a H H1) (y : KpB a H1 H2) : KpB a H H2 := fun c o e n => y c o (x c o e n) n
theorem KpB.same {a : Addr} {H H' : Hp} (s : Same H H') : KpB a H H' := fun c o e _ => s c o e
theorem KpB.upd {a : Addr} {H : Hp} {o : HO} : KpB a H (upd H a o) := fun c u e n => (upd_ne n).trans e
theorem KpB.d {a C dx : Addr} {fs : List (Str × V)} {H H' : Hp} (x : KpB a H H') (h : H a = some (.ins C dx fs)) : KpD H H' := fun c o e n => x c o e (ne_of e h (n C dx fs))
theorem KpD.seq {K : PySem.W.Frag} {H H' : Hp} {a : Addr} {xs : List V} (e : KpD H H') (h : SqL K H a xs) : SqL K H' a xs := by
  rcases h with (h | ⟨o, h⟩) | h
  · exact .inl (.inl (e _ _ h (by intro _ _ _ z; cases z)))
  · exact .inl (.inr ⟨o, e _ _ h (by intro _ _ _ z; cases z)⟩)
  · exact .inr h
theorem KpD.seqT {K : PySem.W.Frag} {H H' : Hp} {a : Addr} {xs : List V} (e : KpD H H') (h : SqT K H a xs) : SqT K H' a xs := by
  rcases h with (h | ⟨o, h⟩) | h
  · exact .inl (.inl (e _ _ h (by intro _ _ _ z; cases z)))
  · exact .inl (.inr ⟨o, e _ _ h (by intro _ _ _ z; cases z)⟩)
  · exact .inr h
mutual
theorem dmonoI {K : PySem.W.Frag} {H H' : Hp} (e : KpD H H') : ∀ {d : PyData} {v : V}, Dp K H v d → Dp K H' v d
  | .none, _, x => by cases x; exact .non
  | .bool b, _, x => by cases x; exact .bl b
  | .int i, _, x => by cases x; exact .int i
  | .str s, _, x => by cases x; exact .str s
  | .list ds, _, x => by
    cases x with
    | lst hs ha => exact .lst (e.seq hs) (dmonoAllI e ha)
  | .tuple ds, _, x => by
    cases x with
    | tup hs ha => exact .tup (e.seqT hs) (dmonoAllI e ha)
  | .dict _, _, x => by cases x
theorem dmonoAllI {K : PySem.W.Frag} {H H' : Hp} (e : KpD H H') : ∀ {ds : List PyData} {vs : List V}, DpAll K H vs ds → DpAll K H' vs ds
  | [], _, x => by cases x; exact .nil
  | d :: ds, _, x => by
    cases x with
    | cons h t => exact .cons (dmonoI e h) (dmonoAllI e t)
end
/-- the class of matched tables -/
structure MtC (K : PySem.W.Frag) (C : Addr) : Prop where
  cl : Cls K C
  n1 : NoAttr K C "old"
  n2 : NoAttr K C "new"
  n3 : NoAttr K C "columns"
  n4 : NoAttr K C "pair_costs"
  n5 : NoAttr K C "least"
def mtF (o n y p l : V) : List (Str × V) := [("old", o), ("new", n), ("columns", y), ("pair_costs", p), ("least", l)]
/-- the class of the object that holds them -/
structure TwC (K : PySem.W.Frag) (C : Addr) : Prop where
  cl : Cls K C
  n1 : NoAttr K C "held"
def twF (v : V) : List (Str × V) := [("held", v)]
/-- what the rows' costs are -/
abbrev costsOf (a b : Table) (cols : Pairs) : Vatdfb.Grid := Vatdfb.gridOf a b cols
/-- two tables with columns matched, in the heap -/
structure HeldAt (K : PySem.W.Frag) (CT CL CM : Addr) (H : Hp) (h : Addr) (a b : Table) (cols : Pairs) (dx o n : Addr) (y p : V) (l dl cd wd : Addr) (kc kw : Kvs) : Prop where
  ob : H h = some (.ins CM dx (mtF (.ref o) (.ref n) y p (.ref l)))
  ta : TabAt K CT H o (namesI a) (rowsI a)
  tb : TabAt K CT H n (namesI b) (rowsI b)
  dy : Dp K H y (dL dP (cols.map pN))
  lm : LmAt K CL H l dl p (gridI (costsOf a b cols)) a.rows.length b.rows.length cd wd kc kw
  td : Told (bN (costsOf a b cols) a.rows.length b.rows.length) a.rows.length b.rows.length kc kw
/-- good tables, good columns -/
structure Good (a b : Table) (cols : Pairs) : Prop where
  oa : VatdfBase.isTable a = true
  ob : VatdfBase.isTable b = true
  oc : VatdfBase.okCols a.names.length b.names.length cols = true
theorem namesI_len (t : Table) : (namesI t).length = t.names.length := List.length_map _
theorem rowsI_len (t : Table) : (rowsI t).length = t.rows.length := List.length_map _
theorem flatCell_ne (c : Cell) : VatdfFlat.flatCell c ≠ [] := by
  cases c <;> exact fun h => nomatch h
theorem tabOk {t : Table} (h : VatdfBase.isTable t = true) : TabOk (namesI t) (rowsI t) := by
  obtain ⟨⟨h1, h2, _, _⟩, h3, h4⟩ := (isTable_iff t).mp h
  refine ⟨by rw [namesI_len]; omega, by rw [rowsI_len]; omega, fun r hr => ?_, fun r hr z hz => ?_⟩
  · obtain ⟨s, hs, rfl⟩ := List.mem_map.mp hr
    rw [namesI_len, List.length_map]
    exact (h4 s hs).1
  · obtain ⟨s, hs, rfl⟩ := List.mem_map.mp hr
    obtain ⟨c, _, rfl⟩ := List.mem_map.mp hz
    exact flatCell_ne c
theorem isTable_sz {t : Table} (h : VatdfBase.isTable t = true) : t.names.length ≤ 5 ∧ t.rows.length ≤ 12 := by
  obtain ⟨⟨_, h2, _, _⟩, h3, _⟩ := (isTable_iff t).mp h
  exact ⟨h2, h3⟩
theorem Good.len {a b : Table} {cols : Pairs} (g : Good a b cols) : cols.length ≤ 5 := by
  obtain ⟨h1, _, h3⟩ := (okCols_iff _ _ _).mp g.oc
  have := nodupN_len a.names.length (cols.map fun q => q.1) h3 fun x hx => by
    obtain ⟨q, hq, rfl⟩ := List.mem_map.mp hx
    exact (h1 q hq).1
  rw [List.length_map] at this
  have := (isTable_sz g.oa).1
  omega
theorem Good.in {a b : Table} {cols : Pairs} (g : Good a b cols) : ∀ p ∈ cols, p.1 < a.names.length ∧ p.2 < b.names.length := ((okCols_iff _ _ _).mp g.oc).1
theorem Good.colsIn {a b : Table} {cols : Pairs} (g : Good a b cols) : ColsIn cols (namesI a).length (namesI b).length := by
  rw [namesI_len, namesI_len]
  exact ⟨by have := g.len; omega, g.in⟩
theorem Good.grid {a b : Table} {cols : Pairs} (g : Good a b cols) : gridI (costsOf a b cols) = pairCostsI cols (namesI a).length (namesI b).length (rowsI a) (rowsI b) := by
  rw [namesI_len, namesI_len]
  exact grid_eq (square_of g.oa) (square_of g.ob) g.in
theorem Good.gridOk {a b : Table} {cols : Pairs} (g : Good a b cols) : GridOk (gridI (costsOf a b cols)) a.rows.length b.rows.length := by
  have h1 := (isTable_sz g.oa).2
  have h2 := (isTable_sz g.ob).2
  refine ⟨?_, fun r hr => ?_, by omega, by omega⟩
  · unfold gridI costsOf Vatdfb.gridOf
    rw [List.length_map, List.length_map, List.length_range]
  · unfold gridI costsOf Vatdfb.gridOf at hr
    obtain ⟨s, hs, rfl⟩ := List.mem_map.mp hr
    obtain ⟨i, _, rfl⟩ := List.mem_map.mp hs
    rw [List.length_map, List.length_map, List.length_range]
theorem TabAt.keepB {K : PySem.W.Frag} {CT a C dx : Addr} {fs : List (Str × V)} {H H' : Hp} {t : Addr} {nm : List (List Int)} {rows : List RowI} (h : TabAt K CT H t nm rows) (ha : H a = some (.ins C dx fs)) (hf : ∀ u v, fs ≠ tabF u v) (k : KpB a H H') : TabAt K CT H' t nm rows := by
  obtain ⟨d, u, v, h1, h2, h3⟩ := h.ex
  refine ⟨d, u, v, k _ _ h1 (ne_of h1 ha fun z => ?_), dmonoI (k.d ha) h2, dmonoI (k.d ha) h3⟩
  injection z with _ _ z
  exact hf u v z.symm
theorem HeldAt.keepB {K : PySem.W.Frag} {CT CL CM w C dw : Addr} {fs : List (Str × V)} {H H' : Hp} {h : Addr} {a b : Table} {cols : Pairs} {dx o n : Addr} {y p : V} {l dl cd wd : Addr} {kc kw : Kvs} (x : HeldAt K CT CL CM H h a b cols dx o n y p l dl cd wd kc kw)
    (hw : H w = some (.ins C dw fs)) (h1 : ∀ u v, fs ≠ tabF u v) (h2 : ∀ o n y p l, fs ≠ mtF o n y p l) (h3 : ∀ pv m n cd wd, fs ≠ lmF pv m n cd wd) (k : KpB w H H') : HeldAt K CT CL CM H' h a b cols dx o n y p l dl cd wd kc kw := by
  refine ⟨k _ _ x.ob (ne_of x.ob hw fun z => ?_), x.ta.keepB hw h1 k, x.tb.keepB hw h1 k, dmonoI (k.d hw) x.dy, ⟨k _ _ x.lm.ob (ne_of x.lm.ob hw fun z => ?_), k _ _ x.lm.co (ne_of x.lm.co hw fun z => nomatch z), k _ _ x.lm.wa (ne_of x.lm.wa hw fun z => nomatch z), dmonoI (k.d hw) x.lm.da⟩, x.td⟩
  · injection z with _ _ z
    exact h2 _ _ _ _ _ z.symm
  · injection z with _ _ z
    exact h3 _ _ _ _ _ z.symm
theorem HeldAt.same {K : PySem.W.Frag} {CT CL CM : Addr} {H H' : Hp} {h : Addr} {a b : Table} {cols : Pairs} {dx o n : Addr} {y p : V} {l dl cd wd : Addr} {kc kw : Kvs} (x : HeldAt K CT CL CM H h a b cols dx o n y p l dl cd wd kc kw) (s : Same H H') : HeldAt K CT CL CM H' h a b cols dx o n y p l dl cd wd kc kw :=
  ⟨s _ _ x.ob, x.ta.mono s, x.tb.mono s, dmono s x.dy, x.lm.same s, x.td⟩
end MR

namespace MR
open PySem PySem.Spec PyProof.Rows L2
open VatdfBase (Cell Row Table Bytes Pairs)
section
variable {P : Program} {w : World} {K : PySem.W.Frag} {mg : Str → Option Value} {base : Heap} {f : Addr} {fd : FuncData} {C CE CT CL CM CW : Addr}
abbrev s_matching_cost : Stmt := topS 13
theorem sc_matching_cost : FnScope ["pair_costs", "old_count", "new_count", "pairs", "lone", "old", "new"] ["pair_costs", "old_count", "new_count", "pairs"] (defScope s_matching_cost) := ⟨rfl, rfl, rfl, by decide +kernel, rfl, by decide +kernel, by decide +kernel⟩
def sp_matching_cost (K : PySem.W.Frag) : Sp := fun vs H Q _ => ∃ (pv y : V) (g : List (List Int)) (m n : Nat) (l : List (Nat × Nat)), vs = [pv, .int (m : Nat), .int (n : Nat), y] ∧ Dp K H pv (dL dLI g) ∧ GridOk g m n ∧ Dp K H y (dL dP (l.map pN)) ∧
  l.length ≤ 1000 ∧ (∀ p ∈ l, p.1 < m ∧ p.2 < n) ∧ ∀ H', Same H H' → Q (.int (costM g m n l)) H'
theorem ok_matching_cost (T : Tops mg) (F : Fun K "matching_cost" "matching_cost" s_matching_cost f fd) : FnOk P w K mg base CX0 1 f fd ["pair_costs", "old_count", "new_count", "pairs"] (sp_matching_cost K) := by
  refine F.ok sc_matching_cost (fun vs H Q E h => ?_) (fun cdv A outer s H vs Q E hr h => ⟨_, (pss_cons (ps_set (i := 4) sc_matching_cost.nd rfl (Or.inl rfl) (pe_op op_sub (pe_op op_add (pv 1) (pv 2)) (pe_op op_mul pe_int (pe_callB (lenK K) (by rfl) T.n_len PySem.boot_len (pa_cons (pv 3) pa_nil)))))
  (pss_one (ps_ret (pe_op op_add (pe_op op_mul (pe_gi (by rfl) T.i_LONE_ROW_COST) (pv 4)) (pe_callB (sumK K) (by rfl) T.n_sum (by decide +kernel) (pa_cons (pe_lc (own := [("old", 5), ("new", 6)]) rfl sc_matching_cost.nd (lstK K (pv 3)) (blkOk_by (N := ["pair_costs", "old_count", "new_count", "pairs", "lone", "old", "new"]) (sc := defScope s_matching_cost) (by decide +kernel)) (fun _ _ _ _ _ => (tupK K (n := 2) (pgs_cons (pg_name (i := 5) sc_matching_cost.nd rfl (Or.inl rfl)) (pgs_cons (pg_name (i := 6) sc_matching_cost.nd rfl (Or.inl rfl)) pgs_nil)))) (fun _ _ _ _ _ => pts_nil) (fun _ _ _ _ _ => (pe_ix (ixL K) (pe_ix (ixL K) (pv 0) (pv 5) (fun _ _ => rfl)) (pv 6) (fun _ _ => rfl)))) pa_nil)))))), ?_⟩)
  · obtain ⟨pv, y, g, m, n, l, rfl, _⟩ := h
    rfl
  obtain ⟨pv, y, g, m, n, l, rfl, dg, o, dy, hl, hin, h⟩ := h
  rw [dP_pN] at dy
  obtain ⟨p, xs, rfl, hp, hx⟩ := Dp.list dy
  have lx : xs.length = l.length := by rw [DpAll.length hx, List.length_map]
  refine ⟨_, rfl, _, rfl, _, _, rfl, rfl, _, rfl, p, xs, rfl, .inl hp, _, _, rfl, rfl, .inl ⟨by omega, by omega⟩, _, _, rfl, rfl, ?_⟩
  refine ⟨_, rfl, _, _, rfl, rfl, .inl ⟨by omega, by omega⟩, _, rfl, p, rfl, ⟨xs, hp⟩, fun D hD => ?_⟩
  refine lc_L (K := K) (enc := fun q => dP (pN q)) (l := l) (fun q => some (dI (gAt g q.1 q.2))) (by omega) hD hp hx ?_ ?_
  · intro i r x H3 acc hr2 s3 hacc dx Kt Kf ht hf
    obtain ⟨t, rfl, hT⟩ := Dp.pair dx
    obtain ⟨h1, h2⟩ := hin r (List.mem_of_getElem? hr2)
    obtain ⟨pg, xg, q, rfl, hpg, hxg, hq, hqj⟩ := grid_at (dmono s3 dg) o h1 h2
    refine ⟨t, _, rfl, hT, rfl, _, _, rfl, _, _, rfl, rfl, rfl, lc_yes ⟨_, rfl, _, rfl, pg, _, _, _, rfl, rfl, hpg, at_of (j := r.1) rfl hxg, _, rfl, q, _, _, _, rfl, rfl, hq, at_of (j := r.2) rfl hqj, ht _ _ _ rfl (Same.refl _) (.int _)⟩⟩
  intro H3 s3 d3
  have e3 : PyData.list (l.filterMap fun q => some (dI (gAt g q.1 q.2))) = dLI (l.map fun q => gAt g q.1 q.2) := by
    rw [filterMap_some_map]
    show _ = PyData.list ((l.map fun q => gAt g q.1 q.2).map dI)
    rw [List.map_map]
    rfl
  rw [e3] at d3
  obtain ⟨q3, eq3, hq3⟩ := Dp.ints (dmono nw_in d3)
  cases eq3
  refine ⟨D, _, rfl, hq3, _, _, rfl, rfl, ?_⟩
  have e : costM g m n l = 3 * ((m : Int) + n - 2 * (xs.length : Nat)) + (l.map fun q => gAt g q.1 q.2).sum := by
    rw [lx]
    rfl
  have h := h _ s3
  rw [e] at h
  exact h

abbrev s_MatchedTables_init : Stmt := inClass (topS 61) 0
theorem sc_MatchedTables_init : FnScope ["self", "old", "new", "columns"] ["self", "old", "new", "columns"] (defScope s_MatchedTables_init) := ⟨rfl, rfl, rfl, by decide +kernel, rfl, by decide +kernel, by decide +kernel⟩
def sp_mt_init (K : PySem.W.Frag) (CT CL CM : Addr) : Sp := fun vs H Q _ => ∃ (h dx o n : Addr) (y : V) (a b : Table) (cols : Pairs), vs = [.ref h, .ref o, .ref n, y] ∧ H h = some (.ins CM dx []) ∧ TabAt K CT H o (namesI a) (rowsI a) ∧ TabAt K CT H n (namesI b) (rowsI b) ∧
  Dp K H y (dL dP (cols.map pN)) ∧ Good a b cols ∧ ∀ H' p l dl cd wd kc kw, KpB h H H' → Tk H H' → HeldAt K CT CL CM H' h a b cols dx o n y p l dl cd wd kc kw → Q .non H'
theorem ok_mt_init (T : Tops mg) (S : MtC K CM) (ST : TabC K CT) (C_all_pair_costs : CalX P w K mg base CX0 3 "all_pair_costs" (sp_all_pair_costs K CT)) (C_LeastMatchings : MakX P w K mg base CX0 3 "LeastMatchings" CL (sp_lm_init K CL)) (F : Fun K "__init__" "MatchedTables.__init__" s_MatchedTables_init f fd) : FnOk P w K mg base CX0 5 f fd ["self", "old", "new", "columns"] (sp_mt_init K CT CL CM) := by
  refine F.ok sc_MatchedTables_init (fun vs H Q E h => ?_) (fun cdv A outer s H vs Q E hr h => ⟨_, (pss_cons (ps_fld (pv 0) (pv 1) rfl)
  (pss_cons (ps_fld (pv 0) (pv 2) rfl)
  (pss_cons (ps_fld (pv 0) (pv 3) rfl)
  (pss_cons (ps_fld (pv 0) (pe_k C_all_pair_costs hr (by decide) (by rfl) (fun _ => quiet) (pa_cons (pv 1) (pa_cons (pv 2) (pa_cons (pv 3) pa_nil)))) rfl)
  (pss_one (ps_fld (pv 0) (pe_n C_LeastMatchings hr (by decide) (by rfl) pass0 (pa_cons (fldK K (pv 0)) (pa_cons (pe_callB (lenK K) (by rfl) T.n_len PySem.boot_len (pa_cons (fldK K (pv 1)) pa_nil)) (pa_cons (pe_callB (lenK K) (by rfl) T.n_len PySem.boot_len (pa_cons (fldK K (pv 2)) pa_nil)) pa_nil)))) rfl)))))), ?_⟩)
  · obtain ⟨h, dx, o, n, y, a, b, cols, rfl, _⟩ := h
    rfl
  obtain ⟨h, dx, o, n, y, a, b, cols, rfl, hh, tA, tB, dy, G, hQ⟩ := h
  have no : ∀ u v, ([] : List (Str × V)) ≠ tabF u v := fun _ _ z => nomatch z
  refine ⟨_, rfl, _, rfl, h, CM, dx, _, rfl, hh, S.cl, S.n1, by show 0 < 1000; decide, ?_⟩
  refine ⟨_, rfl, _, rfl, h, CM, dx, _, rfl, upd_same, S.cl, S.n2, by show 1 < 1000; decide, ?_⟩
  rw [upd_upd]
  refine ⟨_, rfl, _, rfl, h, CM, dx, _, rfl, upd_same, S.cl, S.n3, by show 2 < 1000; decide, ?_⟩
  rw [upd_upd]
  generalize hH1 : upd H h (HO.ins CM dx (putF "columns" y (putF "new" (.ref n) (putF "old" (.ref o) [])))) = H1
  have k1 : KpB h H H1 := by rw [← hH1]; exact KpB.upd
  have hh1 : H1 h = some (.ins CM dx [("old", .ref o), ("new", .ref n), ("columns", y)]) := by rw [← hH1]; exact upd_same
  have t1 : Tk H H1 := fun c e => by
    rw [← hH1] at e
    by_cases z : c = h
    · rw [z, upd_same] at e
      cases e
    · rwa [upd_ne z] at e
  have tA1 := tA.keepB hh no k1
  have tB1 := tB.keepB hh no k1
  have dy1 := dmonoI (k1.d hh) dy
  refine ⟨_, rfl, _, rfl, _, rfl, o, n, y, namesI a, namesI b, rowsI a, rowsI b, cols, rfl, tA1, tB1, dy1, tabOk G.oa, tabOk G.ob, G.colsIn, fun v2 H2 s2 d2 => ?_⟩
  have hh2 := s2 _ _ hh1
  refine ⟨_, rfl, h, CM, dx, _, rfl, hh2, S.cl, S.n4, by show 3 < 1000; decide, ?_⟩
  generalize hH3 : upd H2 h (HO.ins CM dx (putF "pair_costs" v2 [("old", .ref o), ("new", .ref n), ("columns", y)])) = H3
  have k3 : KpB h H2 H3 := by rw [← hH3]; exact KpB.upd
  have hh3 : H3 h = some (.ins CM dx [("old", .ref o), ("new", .ref n), ("columns", y), ("pair_costs", v2)]) := by rw [← hH3]; exact upd_same
  have t3 : Tk H2 H3 := fun c e => by
    rw [← hH3] at e
    by_cases z : c = h
    · rw [z, upd_same] at e
      cases e
    · rwa [upd_ne z] at e
  have no2 : ∀ u v, ([("old", V.ref o), ("new", V.ref n), ("columns", y)] : List (Str × V)) ≠ tabF u v := fun _ _ z => nomatch z
  have tA3 := (tA1.mono s2).keepB hh2 no2 k3
  have tB3 := (tB1.mono s2).keepB hh2 no2 k3
  have dy3 := dmonoI (k3.d hh2) (dmono s2 dy1)
  rw [← G.grid] at d2
  have d3 := dmonoI (k3.d hh2) (dmono nw_in d2)
  obtain ⟨dxa, ua, va, hA, dua, dva⟩ := id tA3.ex
  obtain ⟨dxb, ub, vb, hB, dub, dvb⟩ := id tB3.ex
  obtain ⟨pva, xva, rfl, hpva, hxva⟩ := Dp.list dva
  obtain ⟨pvb, xvb, rfl, hpvb, hxvb⟩ := Dp.list dvb
  have la : xva.length = a.rows.length := by rw [DpAll.length hxva, List.length_map, rowsI_len]
  have lb : xvb.length = b.rows.length := by rw [DpAll.length hxvb, List.length_map, rowsI_len]
  refine ⟨_, rfl, h, CM, dx, _, _, rfl, hh3, S.cl, S.n4, rfl, _, rfl, o, CT, dxa, _, _, rfl, hA, ST.cl, ST.n2, rfl, _, _, rfl, .inl hpva, _, rfl, n, CT, dxb, _, _, rfl, hB, ST.cl, ST.n2, rfl, _, _, rfl, .inl hpvb, ?_⟩
  rw [la, lb]
  intro x dl hx hdl hne
  generalize hH4 : upd (upd H3 dl (.own x)) x (.ins CL dl []) = H4
  have s4 : Same H3 H4 := fun c e q => by
    rw [← hH4, upd_ne (ne_of_none q hx), upd_ne (ne_of_none q hdl)]
    exact q
  refine ⟨x, dl, v2, _, _, _, _, rfl, by rw [← hH4]; exact upd_same, dmono s4 d3, G.gridOk, isBst _ _ _, fun H5 cd wd kc kw k5 t5 hcd hwd L td => ⟨rfl, ?_⟩⟩
  have xh : h ≠ x := fun z => by rw [z] at hh3; rw [hx] at hh3; cases hh3
  have k35 : Same H3 H5 := fun c e q => k5 c e (s4 c e q) (ne_of_none q hx)
  have hh5 := k35 _ _ hh3
  refine ⟨_, rfl, h, CM, dx, _, rfl, hh5, S.cl, S.n5, by show 4 < 1000; decide, ?_⟩
  generalize hH6 : upd H5 h (HO.ins CM dx (putF "least" (.ref x) [("old", .ref o), ("new", .ref n), ("columns", y), ("pair_costs", v2)])) = H6
  have k6 : KpB h H5 H6 := by rw [← hH6]; exact KpB.upd
  have hh6 : H6 h = some (.ins CM dx (mtF (.ref o) (.ref n) y v2 (.ref x))) := by rw [← hH6]; exact upd_same
  have t6 : Tk H5 H6 := fun c e => by
    rw [← hH6] at e
    by_cases z : c = h
    · rw [z, upd_same] at e
      cases e
    · rwa [upd_ne z] at e
  have no5 : ∀ u v, ([("old", V.ref o), ("new", V.ref n), ("columns", y), ("pair_costs", v2)] : List (Str × V)) ≠ tabF u v := fun _ _ z => nomatch z
  refine hQ H6 v2 x dl cd wd kc kw ((((k1.trans (KpB.same s2)).trans k3).trans (KpB.same k35)).trans k6) ((((t1.trans (Same.tk s2)).trans t3).trans (Same.tk k35)).trans t6) ⟨hh6, (tA3.mono k35).keepB hh5 no5 k6, (tB3.mono k35).keepB hh5 no5 k6, dmonoI (k6.d hh5) (dmono k35 dy3), ?_, td⟩
  exact ⟨k6 _ _ L.ob (Ne.symm xh), k6 _ _ L.co (ne_of L.co hh5 fun z => nomatch z), k6 _ _ L.wa (ne_of L.wa hh5 fun z => nomatch z), dmonoI (k6.d hh5) L.da⟩
end
end MR

namespace MR
open PySem PySem.Spec PyProof.Rows L2
open VatdfBase (Cell Row Table Bytes Pairs)
section
variable {P : Program} {w : World} {K : PySem.W.Frag} {mg : Str → Option Value} {base : Heap} {f : Addr} {fd : FuncData} {C CE CT CL CM CW : Addr}
abbrev s_MatchedTables_cost_of_columns : Stmt := inClass (topS 61) 1
theorem sc_MatchedTables_cost_of_columns : FnScope ["self"] ["self"] (defScope s_MatchedTables_cost_of_columns) := ⟨rfl, rfl, rfl, by decide +kernel, rfl, by decide +kernel, by decide +kernel⟩
def sp_cost_of_columns (K : PySem.W.Frag) (CT CL CM : Addr) : Sp := fun vs H Q _ => ∃ (h : Addr) (a b : Table) (cols : Pairs) (dx o n : Addr) (y p : V) (l dl cd wd : Addr) (kc kw : Kvs), vs = [.ref h] ∧ HeldAt K CT CL CM H h a b cols dx o n y p l dl cd wd kc kw ∧ Good a b cols ∧
  ∀ H', Same H H' → Q (.int (VatdfBase.colsCost a.names b.names cols : Nat)) H'
theorem ok_cost_of_columns (S : MtC K CM) (ST : TabC K CT) (C_columns_cost : CalX P w K mg base CX0 4 "columns_cost" (sp_columns_cost K)) (F : Fun K "cost_of_columns" "MatchedTables.cost_of_columns" s_MatchedTables_cost_of_columns f fd) : FnOk P w K mg base CX0 5 f fd ["self"] (sp_cost_of_columns K CT CL CM) := by
  refine F.ok sc_MatchedTables_cost_of_columns (fun vs H Q E h => ?_) (fun cdv A outer s H vs Q E hr h => ⟨_, (pss_one (ps_ret (pe_k C_columns_cost hr (by decide) (by rfl) (fun _ => quiet) (pa_cons (fldK K (fldK K (pv 0))) (pa_cons (fldK K (fldK K (pv 0))) (pa_cons (fldK K (pv 0)) pa_nil)))))), ?_⟩)
  · obtain ⟨h, a, b, cols, dx, o, n, y, p, l, dl, cd, wd, kc, kw, rfl, _⟩ := h
    rfl
  obtain ⟨h, a, b, cols, dx, o, n, y, p, l, dl, cd, wd, kc, kw, rfl, X, G, hQ⟩ := h
  obtain ⟨dxa, ua, va, hA, dua, dva⟩ := id X.ta.ex
  obtain ⟨dxb, ub, vb, hB, dub, dvb⟩ := id X.tb.ex
  refine ⟨_, rfl, h, CM, dx, _, _, rfl, X.ob, S.cl, S.n1, rfl, o, CT, dxa, _, _, rfl, hA, ST.cl, ST.n1, rfl, _, rfl, h, CM, dx, _, _, rfl, X.ob, S.cl, S.n2, rfl, n, CT, dxb, _, _, rfl, hB, ST.cl, ST.n1, rfl, _, rfl, h, CM, dx, _, _, rfl, X.ob, S.cl, S.n3, rfl, ?_⟩
  refine ⟨ua, ub, y, namesI a, namesI b, cols, rfl, dua, dub, X.dy, G.colsIn.1, G.colsIn.2, fun H' s' => ?_⟩
  rw [show colCost (namesI a) (namesI b) cols = (VatdfBase.colsCost a.names b.names cols : Nat) from colsCost_eq G.oc]
  exact hQ H' s'

abbrev s_MatchedTables_cost_of_rows : Stmt := inClass (topS 61) 2
theorem sc_MatchedTables_cost_of_rows : FnScope ["self", "pairs"] ["self", "pairs"] (defScope s_MatchedTables_cost_of_rows) := ⟨rfl, rfl, rfl, by decide +kernel, rfl, by decide +kernel, by decide +kernel⟩
def sp_cost_of_rows (K : PySem.W.Frag) (CT CL CM : Addr) : Sp := fun vs H Q _ => ∃ (h : Addr) (a b : Table) (cols : Pairs) (dx o n : Addr) (y p : V) (l dl cd wd : Addr) (kc kw : Kvs) (z : V) (k : Pairs), vs = [.ref h, z] ∧ HeldAt K CT CL CM H h a b cols dx o n y p l dl cd wd kc kw ∧ Good a b cols ∧
  Dp K H z (dL dP (k.map pN)) ∧ VatdfBase.okRows a.rows.length b.rows.length k = true ∧ ∀ H', Same H H' → Q (.int (Vatdfb.matchingCost (costsOf a b cols) a.rows.length b.rows.length k : Nat)) H'
theorem ok_cost_of_rows (T : Tops mg) (S : MtC K CM) (ST : TabC K CT) (C_matching_cost : CalX P w K mg base CX0 1 "matching_cost" (sp_matching_cost K)) (F : Fun K "cost_of_rows" "MatchedTables.cost_of_rows" s_MatchedTables_cost_of_rows f fd) : FnOk P w K mg base CX0 2 f fd ["self", "pairs"] (sp_cost_of_rows K CT CL CM) := by
  refine F.ok sc_MatchedTables_cost_of_rows (fun vs H Q E h => ?_) (fun cdv A outer s H vs Q E hr h => ⟨_, (pss_one (ps_ret (pe_k C_matching_cost hr (by decide) (by rfl) (fun _ => quiet) (pa_cons (fldK K (pv 0)) (pa_cons (pe_callB (lenK K) (by rfl) T.n_len PySem.boot_len (pa_cons (fldK K (fldK K (pv 0))) pa_nil)) (pa_cons (pe_callB (lenK K) (by rfl) T.n_len PySem.boot_len (pa_cons (fldK K (fldK K (pv 0))) pa_nil)) (pa_cons (pv 1) pa_nil))))))), ?_⟩)
  · obtain ⟨h, a, b, cols, dx, o, n, y, p, l, dl, cd, wd, kc, kw, z, k, rfl, _⟩ := h
    rfl
  obtain ⟨h, a, b, cols, dx, o, n, y, p, l, dl, cd, wd, kc, kw, z, k, rfl, X, G, dz, hk, hQ⟩ := h
  obtain ⟨dxa, ua, va, hA, dua, dva⟩ := id X.ta.ex
  obtain ⟨dxb, ub, vb, hB, dub, dvb⟩ := id X.tb.ex
  obtain ⟨pva, xva, rfl, hpva, hxva⟩ := Dp.list dva
  obtain ⟨pvb, xvb, rfl, hpvb, hxvb⟩ := Dp.list dvb
  have la : xva.length = a.rows.length := by rw [DpAll.length hxva, List.length_map, rowsI_len]
  have lb : xvb.length = b.rows.length := by rw [DpAll.length hxvb, List.length_map, rowsI_len]
  have hl := (rows_len hk).1
  have hsz := (isTable_sz G.oa).2
  refine ⟨_, rfl, h, CM, dx, _, _, rfl, X.ob, S.cl, S.n4, rfl, _, rfl, h, CM, dx, _, _, rfl, X.ob, S.cl, S.n1, rfl, o, CT, dxa, _, _, rfl, hA, ST.cl, ST.n2, rfl, _, _, rfl, .inl hpva, _, rfl, h, CM, dx, _, _, rfl, X.ob, S.cl, S.n2, rfl, n, CT, dxb, _, _, rfl, hB, ST.cl, ST.n2, rfl, _, _, rfl, .inl hpvb, _, rfl, ?_⟩
  rw [la, lb]
  refine ⟨p, z, _, _, _, k, rfl, X.lm.da, G.gridOk, dz, by omega, ((okRows_iff _ _ _).mp hk).1, fun H' s' => ?_⟩
  rw [costM_eq hk]
  exact hQ H' s'

abbrev s_TwoTables_init : Stmt := inClass (topS 77) 0
theorem sc_TwoTables_init : FnScope ["self"] ["self"] (defScope s_TwoTables_init) := ⟨rfl, rfl, rfl, by decide +kernel, rfl, by decide +kernel, by decide +kernel⟩
def sp_tw_init (CW : Addr) : Sp := fun vs H Q _ => ∃ (s dx : Addr), vs = [.ref s] ∧ H s = some (.ins CW dx []) ∧ Q .non (upd H s (.ins CW dx (twF .non)))
theorem ok_tw_init (S : TwC K CW) (F : Fun K "__init__" "TwoTables.__init__" s_TwoTables_init f fd) : FnOk P w K mg base CX0 1 f fd ["self"] (sp_tw_init CW) := by
  refine F.ok sc_TwoTables_init (fun vs H Q E h => ?_) (fun cdv A outer s H vs Q E hr h => ⟨_, (pss_one (ps_fld (pv 0) pe_non rfl)), ?_⟩)
  · obtain ⟨s, dx, rfl, _⟩ := h
    rfl
  obtain ⟨s, dx, rfl, hs, h⟩ := h
  exact ⟨_, rfl, s, CW, dx, _, rfl, hs, S.cl, S.n1, by show 0 < 1000; decide, h⟩

abbrev s_TwoTables_matched : Stmt := inClass (topS 77) 1
theorem sc_TwoTables_matched : FnScope ["self"] ["self"] (defScope s_TwoTables_matched) := ⟨rfl, rfl, rfl, by decide +kernel, rfl, by decide +kernel, by decide +kernel⟩
def sp_matched (K : PySem.W.Frag) (CW CE : Addr) : Sp := fun vs H Q E => ∃ (s dx : Addr) (v : V), vs = [.ref s] ∧ H s = some (.ins CW dx (twF v)) ∧ ((v = .non ∧ ∀ H', Same H H' → E (.ref CE) none H') ∨ (v ≠ .non ∧ Q v H))
theorem ok_matched (S : TwC K CW) (X_NoTables : ErrX K mg "NoTables" CE) (F : Fun K "matched" "TwoTables.matched" s_TwoTables_matched f fd) : FnOk P w K mg base (L2.CX P w) 1 f fd ["self"] (sp_matched K CW CE) := by
  refine F.okX sc_TwoTables_matched (fun vs H Q E h => ?_) (fun cdv A outer s H vs Q E hr h => ⟨_, (pss_cons (ps_if (pt_cmp (pc_isN (fldK K (pv 0))) rfl)
   (pss_one (ps_raise rfl (takes_of rfl rfl rfl rfl) (pmk_own0 PySem.F.excBase_Exception X_NoTables.q X_NoTables.g X_NoTables.kp (raises_own X_NoTables.b X_NoTables.t) (by rfl)))) pss_nil)
  (pss_one (ps_ret (fldK K (pv 0))))), ?_⟩)
  · obtain ⟨s, dx, v, rfl, _⟩ := h
    rfl
  obtain ⟨s, dx, v, rfl, hs, h⟩ := h
  refine ⟨_, rfl, s, CW, dx, _, _, rfl, hs, S.cl, S.n1, rfl, ?_⟩
  refine ⟨_, rfl, ite_dec rfl (fun c => ?_) fun c => ?_⟩
  · rcases h with ⟨_, h⟩ | ⟨h, _⟩
    · exact h H (Same.refl _)
    · exact absurd c h
  · rcases h with ⟨h, _⟩ | ⟨_, h⟩
    · exact absurd h c
    · exact ⟨_, rfl, s, CW, dx, _, _, rfl, hs, S.cl, S.n1, rfl, h⟩
abbrev s_TwoTables_hold : Stmt := inClass (topS 77) 2
theorem sc_TwoTables_hold : FnScope ["self", "old", "new", "columns"] ["self", "old", "new", "columns"] (defScope s_TwoTables_hold) := ⟨rfl, rfl, rfl, by decide +kernel, rfl, by decide +kernel, by decide +kernel⟩
/-- what holds two tables -/
structure TwAt (K : PySem.W.Frag) (CT CL CM CW : Addr) (H : Hp) (s : Addr) (a b : Table) (cols : Pairs) : Prop where
  good : Good a b cols
  ex : ∃ dx h d o n y p l dl cd wd kc kw, H s = some (.ins CW dx (twF (.ref h))) ∧ HeldAt K CT CL CM H h a b cols d o n y p l dl cd wd kc kw
def sp_hold (K : PySem.W.Frag) (CT CL CM CW : Addr) : Sp := fun vs H Q _ => ∃ (s dx o n : Addr) (v y : V) (a b : Table) (cols : Pairs), vs = [.ref s, .ref o, .ref n, y] ∧ H s = some (.ins CW dx (twF v)) ∧ TabAt K CT H o (namesI a) (rowsI a) ∧ TabAt K CT H n (namesI b) (rowsI b) ∧
  Dp K H y (dL dP (cols.map pN)) ∧ Good a b cols ∧ ∀ H', KpB s H H' → Tk H H' → TwAt K CT CL CM CW H' s a b cols → Q .non H'
theorem ok_hold (S : TwC K CW) (C_MatchedTables : MakX P w K mg base CX0 5 "MatchedTables" CM (sp_mt_init K CT CL CM)) (F : Fun K "hold" "TwoTables.hold" s_TwoTables_hold f fd) : FnOk P w K mg base CX0 7 f fd ["self", "old", "new", "columns"] (sp_hold K CT CL CM CW) := by
  refine F.ok sc_TwoTables_hold (fun vs H Q E h => ?_) (fun cdv A outer s H vs Q E hr h => ⟨_, (pss_one (ps_fld (pv 0) (pe_n C_MatchedTables hr (by decide) (by rfl) pass0 (pa_cons (pv 1) (pa_cons (pv 2) (pa_cons (pv 3) pa_nil)))) rfl)), ?_⟩)
  · obtain ⟨s, dx, o, n, v, y, a, b, cols, rfl, _⟩ := h
    rfl
  obtain ⟨s, dx, o, n, v, y, a, b, cols, rfl, hs, tA, tB, dy, G, hQ⟩ := h
  refine ⟨_, rfl, _, rfl, _, rfl, fun x dl hx hdl hne => ?_⟩
  generalize hH1 : upd (upd H dl (.own x)) x (.ins CM dl []) = H1
  have s1 : Same H H1 := fun c e q => by
    rw [← hH1, upd_ne (ne_of_none q hx), upd_ne (ne_of_none q hdl)]
    exact q
  refine ⟨x, dl, o, n, y, a, b, cols, rfl, by rw [← hH1]; exact upd_same, tA.mono s1, tB.mono s1, dmono s1 dy, G, fun H2 p l dl2 cd wd kc kw k2 t2 X => ⟨rfl, ?_⟩⟩
  have k02 : Same H H2 := fun c e q => k2 c e (s1 c e q) (ne_of_none q hx)
  have hs2 := k02 _ _ hs
  refine ⟨_, rfl, s, CW, dx, _, rfl, hs2, S.cl, S.n1, by show 1 < 1000; decide, ?_⟩
  generalize hH3 : upd H2 s (HO.ins CW dx (putF "held" (.ref x) (twF v))) = H3
  have k3 : KpB s H2 H3 := by rw [← hH3]; exact KpB.upd
  have hs3 : H3 s = some (.ins CW dx (twF (.ref x))) := by rw [← hH3]; exact upd_same
  have t3 : Tk H2 H3 := fun c e => by
    rw [← hH3] at e
    by_cases z : c = s
    · rw [z, upd_same] at e
      cases e
    · rwa [upd_ne z] at e
  exact hQ H3 ((KpB.same k02).trans k3) ((Same.tk k02).trans t3) ⟨G, dx, x, dl, o, n, y, p, l, dl2, cd, wd, kc, kw, hs3, X.keepB hs2 (fun _ _ z => nomatch z) (fun _ _ _ _ _ z => nomatch z) (fun _ _ _ _ _ z => nomatch z) k3⟩
end
end MR

/-! What is handed to a call, what a call answers. -/
namespace MR
open PySem PySem.Spec PyProof.Rows L2
open VatdfBase (Cell Row Table Bytes Pairs)
/-- a list of ints that may grow -/
abbrev LI (H : Hp) (r : Addr) (l : List Int) : Prop := H r = some (.lst (l.map V.int))
/-- lists, each at its place -/
def ListsAt (H : Hp) (rs : List Addr) (ls : List (List Int)) : Prop := rs.length = ls.length ∧ ∀ (i : Nat) r l, rs[i]? = some r → ls[i]? = some l → LI H r l
/-- what is handed: whole numbers, then lists -/
def HandAt (H : Hp) (v : V) (ns : List Int) (ls : List (List Int)) : Prop := ∃ hd rs, v = .ref hd ∧ H hd = some (.lst (ns.map V.int ++ rs.map V.ref)) ∧ ListsAt H rs ls
theorem HandAt.mono {H H' : Hp} {v : V} {ns : List Int} {ls : List (List Int)} (h : HandAt H v ns ls) (s : ∀ c xs, H c = some (.lst xs) → H' c = some (.lst xs)) : HandAt H' v ns ls := by
  obtain ⟨hd, rs, rfl, h1, h2, h3⟩ := h
  exact ⟨hd, rs, rfl, s _ _ h1, h2, fun i r l e1 e2 => s _ _ (h3 i r l e1 e2)⟩
theorem HandAt.num {H : Hp} {v : V} {ns : List Int} {ls : List (List Int)} (h : HandAt H v ns ls) : ∃ hd xs, v = .ref hd ∧ H hd = some (.lst xs) ∧ ∀ (i : Nat) z, ns[i]? = some z → xs[i]? = some (.int z) := by
  obtain ⟨hd, rs, rfl, h1, _⟩ := h
  refine ⟨hd, _, rfl, h1, fun i z e => ?_⟩
  obtain ⟨hi, _⟩ := List.getElem?_eq_some_iff.mp e
  rw [List.getElem?_append_left (by rw [List.length_map]; exact hi), List.getElem?_map, e]
  rfl
theorem HandAt.lists {H : Hp} {v : V} {ls : List (List Int)} (h : HandAt H v [] ls) : ∃ hd xs, v = .ref hd ∧ H hd = some (.lst xs) ∧ ∀ (i : Nat) l, ls[i]? = some l → ∃ r, xs[i]? = some (.ref r) ∧ LI H r l := by
  obtain ⟨hd, rs, rfl, h1, h2, h3⟩ := h
  refine ⟨hd, _, rfl, h1, fun i l e => ?_⟩
  obtain ⟨hi, _⟩ := List.getElem?_eq_some_iff.mp e
  have hr : i < rs.length := by omega
  refine ⟨rs[i], ?_, h3 i _ l (List.getElem?_eq_getElem hr) e⟩
  show (rs.map V.ref)[i]? = _
  rw [List.getElem?_map, List.getElem?_eq_getElem hr]
  rfl
/-- the object's state -/
def StAt (K : PySem.W.Frag) (CT CL CM CW : Addr) (H : Hp) (s : Addr) (st : Vatdfb.State) : Prop := match st.tables with
  | none => ∃ dx, H s = some (.ins CW dx (twF .non))
  | some t => TwAt K CT CL CM CW H s t.1 t.2 st.cols
theorem StAt.ob {K : PySem.W.Frag} {CT CL CM CW : Addr} {H : Hp} {s : Addr} {st : Vatdfb.State} (h : StAt K CT CL CM CW H s st) : ∃ dx v, H s = some (.ins CW dx (twF v)) := by
  unfold StAt at h
  cases e : st.tables with
  | none =>
    rw [e] at h
    obtain ⟨dx, h⟩ := h
    exact ⟨dx, _, h⟩
  | some t =>
    rw [e] at h
    obtain ⟨dx, h, _, _, _, _, _, _, _, _, _, _, _, h1, _⟩ := h.ex
    exact ⟨dx, _, h1⟩
theorem TwAt.same {K : PySem.W.Frag} {CT CL CM CW : Addr} {H H' : Hp} {s : Addr} {a b : Table} {cols : Pairs} (h : TwAt K CT CL CM CW H s a b cols) (e : Same H H') : TwAt K CT CL CM CW H' s a b cols := by
  obtain ⟨dx, h1, d, o, n, y, p, l, dl, cd, wd, kc, kw, h2, h3⟩ := h.ex
  exact ⟨h.good, dx, h1, d, o, n, y, p, l, dl, cd, wd, kc, kw, e _ _ h2, h3.same e⟩
theorem StAt.same {K : PySem.W.Frag} {CT CL CM CW : Addr} {H H' : Hp} {s : Addr} {st : Vatdfb.State} (h : StAt K CT CL CM CW H s st) (e : Same H H') : StAt K CT CL CM CW H' s st := by
  unfold StAt at h ⊢
  cases q : st.tables with
  | none =>
    rw [q] at h
    obtain ⟨dx, h⟩ := h
    exact ⟨dx, e _ _ h⟩
  | some t =>
    rw [q] at h
    exact h.same e
theorem Good.small {a b : Table} {cols : Pairs} (g : Good a b cols) : a.rows.length ≤ 100 ∧ b.rows.length ≤ 100 := by
  have h1 := (isTable_sz g.oa).2
  have h2 := (isTable_sz g.ob).2
  exact ⟨by omega, by omega⟩
/-- what is raised for a refusal -/
abbrev Refuse (E : XK) (H : Hp) (C : Addr) : Prop := ∀ H', Same H H' → E (.ref C) none H'
/-- an answer that is given: the object stands as told -/
abbrev Gives (K : PySem.W.Frag) (CT CL CM CW : Addr) (H : Hp) (s : Addr) (Q : VK) (r : Vatdfb.State × List Int) : Prop :=
  ∀ H' q, KpB s H H' → Tk H H' → StAt K CT CL CM CW H' s r.1 → H q = none → H' q = some (.lst (r.2.map V.int)) → Q (.ref q) H'
theorem byNames_ok {a b : Table} (hb : VatdfBase.isTable b = true) : VatdfBase.okCols a.names.length b.names.length (Vatdfb.byNames a b) = true := by
  have mem : ∀ p ∈ Vatdfb.byNames a b, p.1 < a.names.length ∧ p.2 < b.names.length ∧ a.names[p.1]? = b.names[p.2]? := fun p hp => by
    obtain ⟨d, hd, e⟩ := List.mem_filterMap.mp hp
    have hd := List.mem_range.mp hd
    cases q : a.names.findIdx? (fun n => some n == b.names[d]?) with
    | none => rw [q] at e; cases e
    | some c =>
      rw [q] at e
      cases e
      obtain ⟨hc, h1, _⟩ := List.findIdx?_eq_some_iff_getElem.mp q
      have h1 : some a.names[c] = b.names[d]? := by simpa using h1
      exact ⟨hc, hd, by rw [List.getElem?_eq_getElem hc]; exact h1⟩
  have pw : (Vatdfb.byNames a b).Pairwise fun p q => p.2 < q.2 := by
    unfold Vatdfb.byNames
    rw [List.pairwise_filterMap]
    refine List.Pairwise.imp ?_ List.pairwise_lt_range
    intro d d' hdd p hp q hq
    cases q1 : a.names.findIdx? (fun n => some n == b.names[d]?) with
    | none => rw [q1] at hp; cases hp
    | some c =>
      rw [q1] at hp
      cases hp
      cases q2 : a.names.findIdx? (fun n => some n == b.names[d']?) with
      | none => rw [q2] at hq; cases hq
      | some c' =>
        rw [q2] at hq
        cases hq
        exact hdd
  have nb := ((isTable_iff b).mp hb).1.2.2.2
  refine (okCols_iff _ _ _).mpr ⟨fun p hp => ⟨(mem p hp).1, (mem p hp).2.1⟩, fun i hi => List.pairwise_iff_getElem.mp pw i (i + 1) (by omega) hi (by omega), ?_⟩
  rw [List.nodup_iff_pairwise_ne, List.pairwise_map, List.pairwise_iff_getElem]
  intro i j hi hj hij e
  have h1 := List.pairwise_iff_getElem.mp pw i j hi hj hij
  obtain ⟨_, m1, m2⟩ := mem _ (List.getElem_mem hi)
  obtain ⟨_, m3, m4⟩ := mem _ (List.getElem_mem hj)
  rw [e, m4] at m2
  rw [List.getElem?_eq_getElem m1, List.getElem?_eq_getElem m3] at m2
  rw [List.nodup_iff_pairwise_ne, List.pairwise_iff_getElem] at nb
  exact nb _ _ m1 m3 h1 (Option.some.inj m2).symm
end MR

namespace MR
open PySem PySem.Spec PyProof.Rows L2
open VatdfBase (Cell Row Table Bytes Pairs)
section
variable {P : Program} {w : World} {K : PySem.W.Frag} {mg : Str → Option Value} {base : Heap} {f : Addr} {fd : FuncData} {C CE CT CL CM CW XT XC XR XP XN : Addr}
abbrev s_answer_tables : Stmt := topS 78
theorem sc_answer_tables : FnScope ["both", "handed", "old", "new", "columns"] ["both", "handed"] (defScope s_answer_tables) := ⟨rfl, rfl, rfl, by decide +kernel, rfl, by decide +kernel, by decide +kernel⟩
def sp_answer_tables (K : PySem.W.Frag) (CT CL CM CW XT : Addr) : Sp := fun vs H Q E => ∃ (s : Addr) (hv : V) (x y : List Int) (st : Vatdfb.State), vs = [.ref s, hv] ∧ HandAt H hv [] [x, y] ∧ x.length ≤ 1000 ∧ y.length ≤ 1000 ∧ StAt K CT CL CM CW H s st ∧
  ((VatdfFlat.tableOf x = none ∨ VatdfFlat.tableOf y = none) → Refuse E H XT) ∧ Gives K CT CL CM CW H s Q (Vatdfb.step st (.tables x y))
theorem ok_answer_tables (T : Tops mg) (ST : TabC K CT) (C_read_table : CalX P w K mg base (L2.CX P w) 6 "read_table" (sp_read_table K XT CT)) (C_same_name_pairs : CalX P w K mg base CX0 1 "same_name_pairs" (sp_same_name_pairs K))
    (C_TwoTables_hold : MetX P w K mg base CX0 7 CW "hold" (sp_hold K CT CL CM CW)) (F : Fun K "answer_tables" "answer_tables" s_answer_tables f fd) : FnOk P w K mg base (L2.CX P w) 8 f fd ["both", "handed"] (sp_answer_tables K CT CL CM CW XT) := by
  refine F.okX sc_answer_tables (fun vs H Q E h => ?_) (fun cdv A outer s H vs Q E hr h => ⟨_, (pss_cons (ps_set (i := 2) sc_answer_tables.nd rfl (Or.inl rfl) (pe_k C_read_table hr (by decide) (by rfl) (loud (takes_of rfl rfl rfl rfl)) (pa_cons (pe_ix (ixL K) (pv 1) pe_int (fun _ _ => rfl)) pa_nil)))
  (pss_cons (ps_set (i := 3) sc_answer_tables.nd rfl (Or.inl rfl) (pe_k C_read_table hr (by decide) (by rfl) (loud (takes_of rfl rfl rfl rfl)) (pa_cons (pe_ix (ixL K) (pv 1) pe_int (fun _ _ => rfl)) pa_nil)))
  (pss_cons (ps_set (i := 4) sc_answer_tables.nd rfl (Or.inl rfl) (pe_k C_same_name_pairs hr (by decide) (by rfl) (fun _ => quiet) (pa_cons (fldK K (pv 2)) (pa_cons (fldK K (pv 3)) pa_nil))))
  (pss_cons (ps_expr (pe_m (pv 0) C_TwoTables_hold hr (by decide) (fun _ => quiet) (pa_cons (pv 2) (pa_cons (pv 3) (pa_cons (pv 4) pa_nil)))))
  (pss_one (ps_ret (pe_lst (pa_cons (pe_callB (lenK K) (by rfl) T.n_len PySem.boot_len (pa_cons (fldK K (pv 2)) pa_nil)) (pa_cons (pe_callB (lenK K) (by rfl) T.n_len PySem.boot_len (pa_cons (fldK K (pv 3)) pa_nil)) (pa_cons (pe_callB (lenK K) (by rfl) T.n_len PySem.boot_len (pa_cons (pv 4) pa_nil)) pa_nil)))))))))), ?_⟩)
  · obtain ⟨s, hv, x, y, st, rfl, _⟩ := h
    rfl
  obtain ⟨s, hv, x, y, st, rfl, hh, lx, ly, hst, hE, hQ⟩ := h
  obtain ⟨hd, xs, rfl, hhd, hat⟩ := hh.lists
  obtain ⟨r1, e1, hr1⟩ := hat 0 x rfl
  obtain ⟨r2, e2, hr2⟩ := hat 1 y rfl
  refine ⟨_, rfl, hd, _, _, _, rfl, rfl, SqL.of hhd, at_of (j := 0) rfl e1, r1, x, rfl, hr1, lx, fun n1 H1 s1 => ?_, fun nm rw_ ey t dx u v H1 s1 ht ht1 du dv => ?_⟩
  · refine hE (.inl ?_) H1 s1
    rw [rTable_eq] at n1
    exact Option.map_eq_none_iff.mp n1
  rw [rTable_eq] at ey
  obtain ⟨ta, eta, ep⟩ := Option.map_eq_some_iff.mp ey
  cases ep
  refine ⟨_, rfl, hd, _, _, _, rfl, rfl, SqL.of (s1 _ _ hhd), at_of (j := 1) rfl e2, r2, y, rfl, s1 _ _ hr2, ly, fun n1 H2 s2 => ?_, fun nm rw_ ey2 t2 dx2 u2 v2 H2 s2 ht2 hto2 du2 dv2 => ?_⟩
  · refine hE (.inr ?_) H2 (s1.trans s2)
    rw [rTable_eq] at n1
    exact Option.map_eq_none_iff.mp n1
  rw [rTable_eq] at ey2
  obtain ⟨tb, etb, ep⟩ := Option.map_eq_some_iff.mp ey2
  cases ep
  have ga := isTable_of eta
  have gb := isTable_of etb
  have hto := s2 _ _ ht1
  have du' := dmono s2 (dmono nw_in du)
  have dv' := dmono s2 (dmono nw_in dv)
  have du2' := dmono nw_in du2
  have dv2' := dmono nw_in dv2
  have gs := isTable_sz gb
  refine ⟨_, rfl, t, CT, dx, _, _, rfl, hto, ST.cl, ST.n1, rfl, _, rfl, t2, CT, dx2, _, _, rfl, hto2, ST.cl, ST.n1, rfl, u, u2, _, _, rfl, du', du2', by rw [namesI_len]; omega, fun v3 H3 s3 d3 => ?_⟩
  rw [names_eq] at d3
  have d3' := dmono nw_in d3
  obtain ⟨dxs, vs, hs⟩ := hst.ob
  have s03 : Same H H3 := (s1.trans s2).trans s3
  have G : Good ta tb (Vatdfb.byNames ta tb) := ⟨ga, gb, byNames_ok gb⟩
  refine ⟨_, rfl, s, dxs, _, rfl, s03 _ _ hs, rfl, _, rfl, _, rfl, _, rfl, s, dxs, t, t2, vs, v3, ta, tb, Vatdfb.byNames ta tb, rfl, s03 _ _ hs, ⟨⟨dx, u, v, s3 _ _ hto, dmono s3 du', dmono s3 dv'⟩⟩, ⟨⟨dx2, u2, v2, s3 _ _ hto2, dmono s3 du2', dmono s3 dv2'⟩⟩, d3', G, fun H4 k4 t4 TW => ?_⟩
  have hs3 := s03 _ _ hs
  have no : ∀ u v, twF vs ≠ tabF u v := fun _ _ z => nomatch z
  have ts : t ≠ s := ne_of (s3 _ _ hto) hs3 fun z => no u v (by injection z with _ _ z; exact z.symm)
  have ts2 : t2 ≠ s := ne_of (s3 _ _ hto2) hs3 fun z => no u2 v2 (by injection z with _ _ z; exact z.symm)
  have kd := k4.d hs3
  obtain ⟨pv_, xv, rfl, hpv, hxv⟩ := Dp.list (dmonoI kd (dmono s3 dv'))
  obtain ⟨pv2, xv2, rfl, hpv2, hxv2⟩ := Dp.list (dmonoI kd (dmono s3 dv2'))
  have d34 := dmonoI kd d3'
  rw [dP_pN] at d34
  obtain ⟨pc, xc, rfl, hpc, hxc⟩ := Dp.list d34
  have l1 : xv.length = ta.rows.length := by rw [DpAll.length hxv, List.length_map, rowsI_len]
  have l2 : xv2.length = tb.rows.length := by rw [DpAll.length hxv2, List.length_map, rowsI_len]
  have l3 : xc.length = (Vatdfb.byNames ta tb).length := by rw [DpAll.length hxc, List.length_map]
  refine ⟨_, rfl, t, CT, dx, _, _, rfl, k4 _ _ (s3 _ _ hto) ts, ST.cl, ST.n2, rfl, _, _, rfl, .inl hpv, _, rfl, t2, CT, dx2, _, _, rfl, k4 _ _ (s3 _ _ hto2) ts2, ST.cl, ST.n2, rfl, _, _, rfl, .inl hpv2, _, rfl, _, _, rfl, .inl hpc, by show 3 ≤ sizeLine; decide, fun D hD => ?_⟩
  rw [l1, l2, l3]
  have eS : Vatdfb.step st (.tables x y) = (⟨some (ta, tb), Vatdfb.byNames ta tb⟩, [Vatdfb.int ta.rows.length, Vatdfb.int tb.rows.length, Vatdfb.int (Vatdfb.byNames ta tb).length]) := by
    show (match VatdfFlat.tableOf x, VatdfFlat.tableOf y with | some a, some b => _ | _, _ => _) = _
    rw [eta, etb]
  unfold Gives at hQ
  rw [eS] at hQ
  have k04 : KpB s H H4 := (KpB.same s03).trans k4
  refine hQ _ D (k04.trans (KpB.same (Same.made1 hD))) (((Same.tk s03).trans t4).trans (Same.tk (Same.made1 hD))) ?_ ?_ upd_same
  · exact TW.same (Same.made1 hD)
  · exact ((Same.tk s03).trans t4) _ hD
end
end MR

namespace MR
open PySem PySem.Spec PyProof.Rows L2
open VatdfBase (Cell Row Table Bytes Pairs)
theorem tabLens {K : PySem.W.Frag} {CT : Addr} {H : Hp} {o : Addr} {t : Table} (h : TabAt K CT H o (namesI t) (rowsI t)) : ∃ dx pu pv xu xv, H o = some (.ins CT dx (tabF (.ref pu) (.ref pv))) ∧ SqL K H pu xu ∧ SqL K H pv xv ∧ xu.length = t.names.length ∧ xv.length = t.rows.length := by
  obtain ⟨dx, u, v, h1, h2, h3⟩ := h.ex
  obtain ⟨pu, xu, rfl, hpu, hxu⟩ := Dp.list h2
  obtain ⟨pv, xv, rfl, hpv, hxv⟩ := Dp.list h3
  exact ⟨dx, pu, pv, xu, xv, h1, hpu, hpv, by rw [DpAll.length hxu, List.length_map, namesI_len], by rw [DpAll.length hxv, List.length_map, rowsI_len]⟩
section
variable {P : Program} {w : World} {K : PySem.W.Frag} {mg : Str → Option Value} {base : Heap} {f : Addr} {fd : FuncData} {C CE CT CL CM CW XT XC XR XP XN : Addr}
abbrev s_answer_cols : Stmt := topS 79
theorem sc_answer_cols : FnScope ["both", "handed", "matched", "old", "new"] ["both", "handed"] (defScope s_answer_cols) := ⟨rfl, rfl, rfl, by decide +kernel, rfl, by decide +kernel, by decide +kernel⟩
def sp_answer_cols (K : PySem.W.Frag) (CT CL CM CW XC XN : Addr) : Sp := fun vs H Q E => ∃ (s : Addr) (hv : V) (x : List Int) (st : Vatdfb.State), vs = [.ref s, hv] ∧ HandAt H hv [] [x] ∧ x.length ≤ 1000 ∧ StAt K CT CL CM CW H s st ∧
  (st.tables = none → Refuse E H XN) ∧ (∀ t, st.tables = some t → (∀ p, VatdfFlat.pairsOf x = some p → ¬ VatdfBase.okCols t.1.names.length t.2.names.length p = true) → Refuse E H XC) ∧ Gives K CT CL CM CW H s Q (Vatdfb.step st (.cols x))
theorem ok_answer_cols (T : Tops mg) (S : MtC K CM) (ST : TabC K CT) (C_TwoTables_matched : MetX P w K mg base (L2.CX P w) 1 CW "matched" (sp_matched K CW XN)) (C_read_column_pairs : CalX P w K mg base (L2.CX P w) 3 "read_column_pairs" (sp_read_column_pairs K XC))
    (C_TwoTables_hold : MetX P w K mg base CX0 7 CW "hold" (sp_hold K CT CL CM CW)) (C_MatchedTables_cost_of_columns : MetX P w K mg base CX0 5 CM "cost_of_columns" (sp_cost_of_columns K CT CL CM)) (F : Fun K "answer_cols" "answer_cols" s_answer_cols f fd) :
    FnOk P w K mg base (L2.CX P w) 8 f fd ["both", "handed"] (sp_answer_cols K CT CL CM CW XC XN) := by
  refine F.okX sc_answer_cols (fun vs H Q E h => ?_) (fun cdv A outer s H vs Q E hr h => ⟨_, (pss_cons (ps_set (i := 2) sc_answer_cols.nd rfl (Or.inl rfl) (pe_m0 (pv 0) C_TwoTables_matched hr (by decide) (loud (takes_of rfl rfl rfl rfl))))
  (pss_cons (ps_set (i := 3) sc_answer_cols.nd rfl (Or.inl rfl) (fldK K (pv 2)))
  (pss_cons (ps_set (i := 4) sc_answer_cols.nd rfl (Or.inl rfl) (fldK K (pv 2)))
  (pss_cons (ps_expr (pe_m (pv 0) C_TwoTables_hold hr (by decide) (fun _ => quiet) (pa_cons (pv 3) (pa_cons (pv 4) (pa_cons (pe_k C_read_column_pairs hr (by decide) (by rfl) (loud (takes_of rfl rfl rfl rfl)) (pa_cons (pe_ix (ixL K) (pv 1) pe_int (fun _ _ => rfl)) (pa_cons (pe_callB (lenK K) (by rfl) T.n_len PySem.boot_len (pa_cons (fldK K (pv 3)) pa_nil)) (pa_cons (pe_callB (lenK K) (by rfl) T.n_len PySem.boot_len (pa_cons (fldK K (pv 4)) pa_nil)) pa_nil)))) pa_nil)))))
  (pss_one (ps_ret (pe_lst (pa_cons (pe_m0 (pe_m0 (pv 0) C_TwoTables_matched hr (by decide) (loud (takes_of rfl rfl rfl rfl))) C_MatchedTables_cost_of_columns hr (by decide) (fun _ => quiet)) pa_nil)))))))), ?_⟩)
  · obtain ⟨s, hv, x, st, rfl, _⟩ := h
    rfl
  obtain ⟨s, hv, x, st, rfl, hh, lx, hst, hN, hC, hQ⟩ := h
  obtain ⟨hd, xs, rfl, hhd, hat⟩ := hh.lists
  obtain ⟨r1, e1, hr1⟩ := hat 0 x rfl
  obtain ⟨stt, cols⟩ := st
  cases stt with
  | none =>
    obtain ⟨dx, hs⟩ := hst
    exact ⟨_, rfl, s, dx, _, rfl, hs, rfl, s, dx, .non, rfl, hs, .inl ⟨rfl, hN rfl⟩⟩
  | some t =>
  obtain ⟨a, b⟩ := t
  obtain ⟨G, dx, h, d, o, n, y, p, l, dl, cd, wd, kc, kw, hs, X⟩ := hst
  refine ⟨_, rfl, s, dx, _, rfl, hs, rfl, s, dx, .ref h, rfl, hs, .inr ⟨(fun z => nomatch z), ?_⟩⟩
  obtain ⟨da, pu, pv_, xu, xv, hA, hpu, hpv, lu, lv⟩ := tabLens X.ta
  obtain ⟨db, pu2, pv2, xu2, xv2, hB, hpu2, hpv2, lu2, lv2⟩ := tabLens X.tb
  refine ⟨_, rfl, h, CM, d, _, _, rfl, X.ob, S.cl, S.n1, rfl, ?_⟩
  refine ⟨_, rfl, h, CM, d, _, _, rfl, X.ob, S.cl, S.n2, rfl, ?_⟩
  refine ⟨_, rfl, s, dx, _, rfl, hs, rfl, _, rfl, _, rfl, _, rfl, hd, _, _, _, rfl, rfl, SqL.of hhd, at_of (j := 0) rfl e1, _, rfl, o, CT, da, _, _, rfl, hA, ST.cl, ST.n1, rfl, pu, xu, rfl, .inl hpu, _, rfl, n, CT, db, _, _, rfl, hB, ST.cl, ST.n1, rfl, pu2, xu2, rfl, .inl hpu2, ?_⟩
  rw [lu, lu2]
  refine ⟨r1, x, _, _, rfl, SqL.of hr1, lx, fun nok => ?_, fun ok v1 H1 s1 d1 => ?_⟩
  · rcases cols_read a.names.length b.names.length x with ⟨z, _⟩ | ⟨_, z⟩
    · exact absurd z nok
    · exact hC _ rfl z
  obtain ⟨_, q, eq1, eq2, eq3⟩ := (cols_read a.names.length b.names.length x).resolve_right fun z => z.1 ok
  rw [eq3] at d1
  have G' : Good a b q := ⟨G.oa, G.ob, eq2⟩
  refine ⟨s, dx, o, n, _, v1, a, b, q, rfl, s1 _ _ hs, X.ta.mono s1, X.tb.mono s1, dmono nw_in d1, G', fun H2 k2 t2 TW => ?_⟩
  obtain ⟨_, dx', h', d', o', n', y', p', l', dl', cd', wd', kc', kw', hs', X'⟩ := id TW
  refine ⟨_, rfl, s, dx', _, rfl, hs', rfl, s, dx', .ref h', rfl, hs', .inr ⟨(fun z => nomatch z), ?_⟩⟩
  refine ⟨h', d', _, rfl, X'.ob, rfl, h', a, b, q, d', o', n', y', p', l', dl', cd', wd', kc', kw', rfl, X', G', fun H3 s3 => ?_⟩
  refine ⟨by show 1 ≤ sizeLine; decide, fun D hD => ?_⟩
  have eS : Vatdfb.step ⟨some (a, b), cols⟩ (.cols x) = (⟨some (a, b), q⟩, [Vatdfb.int (VatdfBase.colsCost a.names b.names q)]) := by
    show (match VatdfFlat.pairsOf x with | none => _ | some p => _) = _
    rw [eq1]
    show (if _ then _ else _) = _
    rw [if_pos eq2]
  unfold Gives at hQ
  rw [eS] at hQ
  have k03 : KpB s H H3 := ((KpB.same s1).trans k2).trans (KpB.same s3)
  have t03 : Tk H H3 := ((Same.tk s1).trans t2).trans (Same.tk s3)
  exact hQ _ D (k03.trans (KpB.same (Same.made1 hD))) (t03.trans (Same.tk (Same.made1 hD))) ((TwAt.same TW s3).same (Same.made1 hD)) (t03 _ hD) upd_same
end
end MR

namespace MR
open PySem PySem.Spec PyProof.Rows L2
open VatdfBase (Cell Row Table Bytes Pairs)
theorem kthM_len (g : List (List Int)) (b : Nat → Nat → Int × Int) (m n : Nat) : ∀ (fu i j : Nat) (k : Int), (kthM g b m n fu i j k).length ≤ fu
  | 0, _, _, _ => Nat.le_refl _
  | fu + 1, i, j, k => by
    unfold kthM
    cases scan g b i j k (rowsFrom m n i j 0) 0 with
    | none => exact Nat.zero_le _
    | some x =>
      obtain ⟨p, q, r⟩ := x
      have := kthM_len g b m n fu (p + 1) (q + 1) r
      show (_ :: _).length ≤ _
      rw [List.length_cons]
      omega
theorem toldPairs_len (l : List (Int × Int)) : (toldPairs l).length = 2 * l.length + 1 := by
  unfold toldPairs
  rw [List.length_cons]
  congr 1
  induction l with
  | nil => rfl
  | cons p l ih =>
    simp only [List.flatMap_cons, List.length_append, ih, List.length_cons, List.length_nil]
    omega
/-- what least answers -/
theorem step_least (a b : Table) (cols : Pairs) : Vatdfb.step ⟨some (a, b), cols⟩ .least = (⟨some (a, b), cols⟩, [(bN (costsOf a b cols) a.rows.length b.rows.length 0 0).1, (bN (costsOf a b cols) a.rows.length b.rows.length 0 0).2] ++
    toldPairs ((kthM (gridI (costsOf a b cols)) (bN (costsOf a b cols) a.rows.length b.rows.length) a.rows.length b.rows.length (a.rows.length + 1) 0 0 0).map pN)) := by
  rw [toldPairs_pN]
  have e := kth_eq (costsOf a b cols) a.rows.length b.rows.length (a.rows.length + 1) 0 0 0 (Nat.zero_le _) (Nat.zero_le _) (by omega)
  rw [if_pos (many_pos _ _ _ a.rows.length 0 0 (Nat.zero_le _) (Nat.zero_le _) (by omega))] at e
  have ef : Vatdfb.first (Vatdfb.work a b cols) = kthM (gridI (costsOf a b cols)) (bN (costsOf a b cols) a.rows.length b.rows.length) a.rows.length b.rows.length (a.rows.length + 1) 0 0 0 := by
    show (Vatdfb.kthFrom (costsOf a b cols) a.rows.length b.rows.length (Vatdfb.bestsOf (costsOf a b cols) a.rows.length b.rows.length) (a.rows.length + 1) 0 0 0).getD [] = _
    rw [e]
    rfl
  show (_, Vatdfb.int (Vatdfb.least (Vatdfb.work a b cols)).cost :: Vatdfb.int (Vatdfb.least (Vatdfb.work a b cols)).many :: VatdfFlat.flatPairs (Vatdfb.first (Vatdfb.work a b cols))) = _
  rw [ef]
  rfl
section
variable {P : Program} {w : World} {K : PySem.W.Frag} {mg : Str → Option Value} {base : Heap} {f : Addr} {fd : FuncData} {C CE CT CL CM CW XT XC XR XP XN : Addr}
abbrev s_answer_least : Stmt := topS 80
theorem sc_answer_least : FnScope ["both", "handed", "least"] ["both", "handed"] (defScope s_answer_least) := ⟨rfl, rfl, rfl, by decide +kernel, rfl, by decide +kernel, by decide +kernel⟩
def sp_answer_least (K : PySem.W.Frag) (CT CL CM CW XN : Addr) : Sp := fun vs H Q E => ∃ (s : Addr) (hv : V) (st : Vatdfb.State), vs = [.ref s, hv] ∧ StAt K CT CL CM CW H s st ∧
  (st.tables = none → Refuse E H XN) ∧ Gives K CT CL CM CW H s Q (Vatdfb.step st .least)
theorem ok_answer_least (S : MtC K CM) (C_TwoTables_matched : MetX P w K mg base (L2.CX P w) 1 CW "matched" (sp_matched K CW XN)) (C_LeastMatchings_least_cost : MetX P w K mg base CX0 1 CL "least_cost" (sp_least_cost K CL))
    (C_LeastMatchings_how_many : MetX P w K mg base CX0 1 CL "how_many" (sp_how_many K CL)) (C_LeastMatchings_at_place : MetX P w K mg base CX0 4 CL "at_place" (sp_at_place K CL)) (C_told_pairs : CalX P w K mg base CX0 1 "told_pairs" (sp_told_pairs K)) (F : Fun K "answer_least" "answer_least" s_answer_least f fd) :
    FnOk P w K mg base (L2.CX P w) 5 f fd ["both", "handed"] (sp_answer_least K CT CL CM CW XN) := by
  refine F.okX sc_answer_least (fun vs H Q E h => ?_) (fun cdv A outer s H vs Q E hr h => ⟨_, (pss_cons (ps_set (i := 2) sc_answer_least.nd rfl (Or.inl rfl) (fldK K (pe_m0 (pv 0) C_TwoTables_matched hr (by decide) (loud (takes_of rfl rfl rfl rfl)))))
  (pss_one (ps_ret (pe_op op_cat (pe_lst (pa_cons (pe_m0 (pv 2) C_LeastMatchings_least_cost hr (by decide) (fun _ => quiet)) (pa_cons (pe_m0 (pv 2) C_LeastMatchings_how_many hr (by decide) (fun _ => quiet)) pa_nil))) (pe_k C_told_pairs hr (by decide) (by rfl) (fun _ => quiet) (pa_cons (pe_m (pv 2) C_LeastMatchings_at_place hr (by decide) (fun _ => quiet) (pa_cons pe_int pa_nil)) pa_nil)))))), ?_⟩)
  · obtain ⟨s, hv, st, rfl, _⟩ := h
    rfl
  obtain ⟨s, hv, st, rfl, hst, hN, hQ⟩ := h
  obtain ⟨stt, cols⟩ := st
  cases stt with
  | none =>
    obtain ⟨dx, hs⟩ := hst
    exact ⟨_, rfl, s, dx, _, rfl, hs, rfl, s, dx, .non, rfl, hs, .inl ⟨rfl, hN rfl⟩⟩
  | some t =>
  obtain ⟨a, b⟩ := t
  have hst : TwAt K CT CL CM CW H s a b cols := hst
  obtain ⟨G, dx, h, d, o, n, y, p, l, dl, cd, wd, kc, kw, hs, X⟩ := id hst
  refine ⟨_, rfl, s, dx, _, rfl, hs, rfl, s, dx, .ref h, rfl, hs, .inr ⟨(fun z => nomatch z), ?_⟩⟩
  refine ⟨h, CM, d, _, _, rfl, X.ob, S.cl, S.n5, rfl, ?_⟩
  obtain ⟨t1, t2⟩ := X.td 0 0 (Nat.zero_le _) (Nat.zero_le _)
  refine ⟨_, rfl, l, dl, _, rfl, X.lm.ob, rfl, l, dl, p, _, _, _, cd, wd, kc, kw, _, rfl, X.lm, t1, fun H1 s1 => ?_⟩
  have X1 := X.same s1
  refine ⟨_, rfl, l, dl, _, rfl, X1.lm.ob, rfl, l, dl, p, _, _, _, cd, wd, kc, kw, _, rfl, X1.lm, t2, fun H2 s2 => ?_⟩
  have X2 := X1.same s2
  refine ⟨by show 2 ≤ sizeLine; decide, fun D hD => ?_⟩
  have s3 : Same H2 (upd H2 D (.lst [.int (bN (costsOf a b cols) a.rows.length b.rows.length 0 0).1, .int (bN (costsOf a b cols) a.rows.length b.rows.length 0 0).2])) := Same.made1 hD
  have X3 := X2.same s3
  refine ⟨_, rfl, l, dl, _, rfl, X3.lm.ob, rfl, l, dl, p, _, _, _, cd, wd, kc, kw, 0, bN (costsOf a b cols) a.rows.length b.rows.length, rfl, X3.lm, G.gridOk, G.small.1, G.small.2, X3.td, fun v4 H4 s4 d4 => ?_⟩
  have hk := kthM_len (gridI (costsOf a b cols)) (bN (costsOf a b cols) a.rows.length b.rows.length) a.rows.length b.rows.length (a.rows.length + 1) 0 0 0
  have sz := (isTable_sz G.oa).2
  have sz : a.rows.length ≤ 12 := sz
  refine ⟨v4, _, rfl, dmono nw_in d4, by rw [List.length_map]; omega, fun q H5 s5 nq hq => ?_⟩
  have hl : ((toldPairs ((kthM (gridI (costsOf a b cols)) (bN (costsOf a b cols) a.rows.length b.rows.length) a.rows.length b.rows.length (a.rows.length + 1) 0 0 0).map pN)).map V.int).length ≤ 100 := by
    rw [List.length_map, toldPairs_len, List.length_map]
    omega
  refine ⟨D, q, _, _, rfl, rfl, s5 _ _ (s4 _ _ upd_same), hq, by show 2 + _ ≤ sizeLine; have : (100 : Nat) + 2 ≤ sizeLine := (by decide); omega, fun R hR => ?_⟩
  unfold Gives at hQ
  rw [step_least] at hQ
  have s05 : Same H H5 := ((((s1.trans s2).trans s3).trans s4).trans s5)
  refine hQ _ R (KpB.same (s05.trans (Same.made1 hR))) (Same.tk (s05.trans (Same.made1 hR))) ?_ (s05.free hR) ?_
  · exact TwAt.same hst (s05.trans (Same.made1 hR))
  · rw [List.map_append]
    exact upd_same
end
end MR

namespace MR
open PySem PySem.Spec PyProof.Rows L2
open VatdfBase (Cell Row Table Bytes Pairs)
/-- what kth answers -/
theorem step_kth (a b : Table) (cols : Pairs) (k : Int) : Vatdfb.step ⟨some (a, b), cols⟩ (.kth k) = (⟨some (a, b), cols⟩, if k < 0 then [-4] else if (bN (costsOf a b cols) a.rows.length b.rows.length 0 0).2 ≤ k then [0] else
    [1] ++ toldPairs ((kthM (gridI (costsOf a b cols)) (bN (costsOf a b cols) a.rows.length b.rows.length) a.rows.length b.rows.length (a.rows.length + 1) 0 0 k).map pN)) := by
  rw [toldPairs_pN]
  have e := kth_eq (costsOf a b cols) a.rows.length b.rows.length (a.rows.length + 1) 0 0 k.toNat (Nat.zero_le _) (Nat.zero_le _) (by omega)
  have ek : Vatdfb.kth (Vatdfb.work a b cols) k.toNat = Vatdfb.kthFrom (costsOf a b cols) a.rows.length b.rows.length (Vatdfb.bestsOf (costsOf a b cols) a.rows.length b.rows.length) (a.rows.length + 1) 0 0 k.toNat := rfl
  show (_, if k < 0 then [-4] else (match Vatdfb.kth (Vatdfb.work a b cols) k.toNat with | none => [0] | some l => 1 :: VatdfFlat.flatPairs l)) = _
  rw [ek, e]
  by_cases c : k < 0
  · rw [if_pos c, if_pos c]
  rw [if_neg c, if_neg c]
  have em : (bN (costsOf a b cols) a.rows.length b.rows.length 0 0).2 = ((Vatdfb.bestFrom (Vatdfb.bestsOf (costsOf a b cols) a.rows.length b.rows.length) 0 0).many : Nat) := rfl
  rw [em]
  by_cases c2 : k.toNat < (Vatdfb.bestFrom (Vatdfb.bestsOf (costsOf a b cols) a.rows.length b.rows.length) 0 0).many
  · rw [if_pos c2, if_neg (by omega)]
    show (_, 1 :: VatdfFlat.flatPairs (kthM _ _ _ _ _ _ _ ((k.toNat : Nat) : Int))) = _
    rw [show ((k.toNat : Nat) : Int) = k from by omega]
    rfl
  · rw [if_neg c2, if_pos (by omega)]
section
variable {P : Program} {w : World} {K : PySem.W.Frag} {mg : Str → Option Value} {base : Heap} {f : Addr} {fd : FuncData} {C CE CT CL CM CW XT XC XR XP XN : Addr}
abbrev s_answer_kth : Stmt := topS 81
theorem sc_answer_kth : FnScope ["both", "handed", "least", "place"] ["both", "handed"] (defScope s_answer_kth) := ⟨rfl, rfl, rfl, by decide +kernel, rfl, by decide +kernel, by decide +kernel⟩
def sp_answer_kth (K : PySem.W.Frag) (CT CL CM CW XP XN : Addr) : Sp := fun vs H Q E => ∃ (s : Addr) (hv : V) (k : Int) (st : Vatdfb.State), vs = [.ref s, hv] ∧ HandAt H hv [k] [] ∧ StAt K CT CL CM CW H s st ∧
  (st.tables = none → Refuse E H XN) ∧ (st.tables ≠ none → k < 0 → Refuse E H XP) ∧ Gives K CT CL CM CW H s Q (Vatdfb.step st (.kth k))
theorem ok_answer_kth (S : MtC K CM) (C_TwoTables_matched : MetX P w K mg base (L2.CX P w) 1 CW "matched" (sp_matched K CW XN))
    (C_LeastMatchings_how_many : MetX P w K mg base CX0 1 CL "how_many" (sp_how_many K CL)) (C_LeastMatchings_at_place : MetX P w K mg base CX0 4 CL "at_place" (sp_at_place K CL)) (C_told_pairs : CalX P w K mg base CX0 1 "told_pairs" (sp_told_pairs K))
    (X_NotThere : ErrX K mg "NotThere" XP) (F : Fun K "answer_kth" "answer_kth" s_answer_kth f fd) :
    FnOk P w K mg base (L2.CX P w) 5 f fd ["both", "handed"] (sp_answer_kth K CT CL CM CW XP XN) := by
  refine F.okX sc_answer_kth (fun vs H Q E h => ?_) (fun cdv A outer s H vs Q E hr h => ⟨_, (pss_cons (ps_set (i := 2) sc_answer_kth.nd rfl (Or.inl rfl) (fldK K (pe_m0 (pv 0) C_TwoTables_matched hr (by decide) (loud (takes_of rfl rfl rfl rfl)))))
  (pss_cons (ps_set (i := 3) sc_answer_kth.nd rfl (Or.inl rfl) (pe_ix (ixL K) (pv 1) pe_int (fun _ _ => rfl)))
  (pss_cons (ps_if (pt_cmpR op_lt (pv 3) pe_int (nomark _))
   (pss_one (ps_raise rfl (takes_of rfl rfl rfl rfl) (pmk_own0 PySem.F.excBase_Exception X_NotThere.q X_NotThere.g X_NotThere.kp (raises_own X_NotThere.b X_NotThere.t) (by rfl)))) pss_nil)
  (pss_cons (ps_if (pt_cmpR op_ge (pv 3) (pe_m0 (pv 2) C_LeastMatchings_how_many hr (by decide) (fun _ => quiet)) (nomark _))
   (pss_one (ps_ret (pe_lst (pa_cons pe_int pa_nil)))) pss_nil)
  (pss_one (ps_ret (pe_op op_cat (pe_lst (pa_cons pe_int pa_nil)) (pe_k C_told_pairs hr (by decide) (by rfl) (fun _ => quiet) (pa_cons (pe_m (pv 2) C_LeastMatchings_at_place hr (by decide) (fun _ => quiet) (pa_cons (pv 3) pa_nil)) pa_nil))))))))), ?_⟩)
  · obtain ⟨s, hv, k, st, rfl, _⟩ := h
    rfl
  obtain ⟨s, hv, k, st, rfl, hh, hst, hN, hP, hQ⟩ := h
  obtain ⟨hd, xs, rfl, hhd, hat⟩ := hh.num
  have e1 := hat 0 k rfl
  obtain ⟨stt, cols⟩ := st
  cases stt with
  | none =>
    obtain ⟨dx, hs⟩ := hst
    exact ⟨_, rfl, s, dx, _, rfl, hs, rfl, s, dx, .non, rfl, hs, .inl ⟨rfl, hN rfl⟩⟩
  | some t =>
  obtain ⟨a, b⟩ := t
  have hst : TwAt K CT CL CM CW H s a b cols := hst
  obtain ⟨G, dx, h, d, o, n, y, p, l, dl, cd, wd, kc, kw, hs, X⟩ := id hst
  refine ⟨_, rfl, s, dx, _, rfl, hs, rfl, s, dx, .ref h, rfl, hs, .inr ⟨(fun z => nomatch z), ?_⟩⟩
  refine ⟨h, CM, d, _, _, rfl, X.ob, S.cl, S.n5, rfl, ?_⟩
  obtain ⟨t1, t2⟩ := X.td 0 0 (Nat.zero_le _) (Nat.zero_le _)
  refine ⟨_, rfl, hd, _, _, _, rfl, rfl, SqL.of hhd, at_of (j := 0) rfl e1, ?_⟩
  unfold Gives at hQ
  rw [step_kth] at hQ
  refine ⟨_, rfl, _, _, rfl, rfl, _, rfl, ite_dec rfl (fun c => ?_) fun c => ?_⟩
  · exact hP (fun z => nomatch z) c H (Same.refl _)
  rw [if_neg c] at hQ
  refine ⟨_, rfl, _, rfl, l, dl, _, rfl, X.lm.ob, rfl, l, dl, p, _, _, _, cd, wd, kc, kw, _, rfl, X.lm, t2, fun H1 s1 => ?_⟩
  refine ⟨_, _, rfl, rfl, _, rfl, ite_dec rfl (fun c2 => ?_) fun c2 => ?_⟩
  · rw [if_pos c2] at hQ
    refine ⟨by show 1 ≤ sizeLine; decide, fun D hD => ?_⟩
    have s2 := s1.trans (Same.made1 (o := .lst [.int 0]) hD)
    exact hQ _ D (KpB.same s2) (Same.tk s2) (TwAt.same hst s2) (s1.free hD) upd_same
  rw [if_neg c2] at hQ
  refine ⟨by show 1 ≤ sizeLine; decide, fun D hD => ?_⟩
  have X1 := X.same s1
  have s3 : Same H1 (upd H1 D (.lst [.int 1])) := Same.made1 hD
  have X3 := X1.same s3
  refine ⟨_, rfl, l, dl, _, rfl, X3.lm.ob, rfl, _, rfl, l, dl, p, _, _, _, cd, wd, kc, kw, k, bN (costsOf a b cols) a.rows.length b.rows.length, rfl, X3.lm, G.gridOk, G.small.1, G.small.2, X3.td, fun v4 H4 s4 d4 => ?_⟩
  have hk := kthM_len (gridI (costsOf a b cols)) (bN (costsOf a b cols) a.rows.length b.rows.length) a.rows.length b.rows.length (a.rows.length + 1) 0 0 k
  have sz := (isTable_sz G.oa).2
  refine ⟨v4, _, rfl, dmono nw_in d4, by rw [List.length_map]; omega, fun q H5 s5 nq hq => ?_⟩
  have hl : ((toldPairs ((kthM (gridI (costsOf a b cols)) (bN (costsOf a b cols) a.rows.length b.rows.length) a.rows.length b.rows.length (a.rows.length + 1) 0 0 k).map pN)).map V.int).length ≤ 100 := by
    rw [List.length_map, toldPairs_len, List.length_map]
    omega
  refine ⟨D, q, _, _, rfl, rfl, s5 _ _ (s4 _ _ upd_same), hq, by show 1 + _ ≤ sizeLine; have : (100 : Nat) + 2 ≤ sizeLine := (by decide); omega, fun R hR => ?_⟩
  have s05 : Same H H5 := (((s1.trans s3).trans s4).trans s5)
  refine hQ _ R (KpB.same (s05.trans (Same.made1 hR))) (Same.tk (s05.trans (Same.made1 hR))) ?_ (s05.free hR) ?_
  · exact TwAt.same hst (s05.trans (Same.made1 hR))
  · rw [List.map_append]
    exact upd_same

abbrev s_answer_cost : Stmt := topS 82
theorem sc_answer_cost : FnScope ["both", "handed", "matched", "pairs", "cost"] ["both", "handed"] (defScope s_answer_cost) := ⟨rfl, rfl, rfl, by decide +kernel, rfl, by decide +kernel, by decide +kernel⟩
def sp_answer_cost (K : PySem.W.Frag) (CT CL CM CW XR XN : Addr) : Sp := fun vs H Q E => ∃ (s : Addr) (hv : V) (x : List Int) (st : Vatdfb.State), vs = [.ref s, hv] ∧ HandAt H hv [] [x] ∧ x.length ≤ 1000 ∧ StAt K CT CL CM CW H s st ∧
  (st.tables = none → Refuse E H XN) ∧ (∀ t, st.tables = some t → Vatdfb.rowsOf t.1 t.2 x = none → Refuse E H XR) ∧ Gives K CT CL CM CW H s Q (Vatdfb.step st (.cost x))
theorem ok_answer_cost (T : Tops mg) (S : MtC K CM) (ST : TabC K CT) (C_TwoTables_matched : MetX P w K mg base (L2.CX P w) 1 CW "matched" (sp_matched K CW XN)) (C_read_row_pairs : CalX P w K mg base (L2.CX P w) 3 "read_row_pairs" (sp_read_row_pairs K XR))
    (C_MatchedTables_cost_of_rows : MetX P w K mg base CX0 2 CM "cost_of_rows" (sp_cost_of_rows K CT CL CM)) (C_LeastMatchings_least_cost : MetX P w K mg base CX0 1 CL "least_cost" (sp_least_cost K CL)) (F : Fun K "answer_cost" "answer_cost" s_answer_cost f fd) :
    FnOk P w K mg base (L2.CX P w) 4 f fd ["both", "handed"] (sp_answer_cost K CT CL CM CW XR XN) := by
  refine F.okX sc_answer_cost (fun vs H Q E h => ?_) (fun cdv A outer s H vs Q E hr h => ⟨_, (pss_cons (ps_set (i := 2) sc_answer_cost.nd rfl (Or.inl rfl) (pe_m0 (pv 0) C_TwoTables_matched hr (by decide) (loud (takes_of rfl rfl rfl rfl))))
  (pss_cons (ps_set (i := 3) sc_answer_cost.nd rfl (Or.inl rfl) (pe_k C_read_row_pairs hr (by decide) (by rfl) (loud (takes_of rfl rfl rfl rfl)) (pa_cons (pe_ix (ixL K) (pv 1) pe_int (fun _ _ => rfl)) (pa_cons (pe_callB (lenK K) (by rfl) T.n_len PySem.boot_len (pa_cons (fldK K (fldK K (pv 2))) pa_nil)) (pa_cons (pe_callB (lenK K) (by rfl) T.n_len PySem.boot_len (pa_cons (fldK K (fldK K (pv 2))) pa_nil)) pa_nil)))))
  (pss_cons (ps_set (i := 4) sc_answer_cost.nd rfl (Or.inl rfl) (pe_m (pv 2) C_MatchedTables_cost_of_rows hr (by decide) (fun _ => quiet) (pa_cons (pv 3) pa_nil)))
  (pss_one (ps_ret (pe_lst (pa_cons (pv 4) (pa_cons (pe_op op_sub (pv 4) (pe_m0 (fldK K (pv 2)) C_LeastMatchings_least_cost hr (by decide) (fun _ => quiet))) pa_nil)))))))), ?_⟩)
  · obtain ⟨s, hv, x, st, rfl, _⟩ := h
    rfl
  obtain ⟨s, hv, x, st, rfl, hh, lx, hst, hN, hC, hQ⟩ := h
  obtain ⟨hd, xs, rfl, hhd, hat⟩ := hh.lists
  obtain ⟨r1, e1, hr1⟩ := hat 0 x rfl
  obtain ⟨stt, cols⟩ := st
  cases stt with
  | none =>
    obtain ⟨dx, hs⟩ := hst
    exact ⟨_, rfl, s, dx, _, rfl, hs, rfl, s, dx, .non, rfl, hs, .inl ⟨rfl, hN rfl⟩⟩
  | some t =>
  obtain ⟨a, b⟩ := t
  have hst : TwAt K CT CL CM CW H s a b cols := hst
  obtain ⟨G, dx, h, d, o, n, y, p, l, dl, cd, wd, kc, kw, hs, X⟩ := id hst
  refine ⟨_, rfl, s, dx, _, rfl, hs, rfl, s, dx, .ref h, rfl, hs, .inr ⟨(fun z => nomatch z), ?_⟩⟩
  obtain ⟨da, pu, pv_, xu, xv, hA, hpu, hpv, lu, lv⟩ := tabLens X.ta
  obtain ⟨db, pu2, pv2, xu2, xv2, hB, hpu2, hpv2, lu2, lv2⟩ := tabLens X.tb
  refine ⟨_, rfl, hd, _, _, _, rfl, rfl, SqL.of hhd, at_of (j := 0) rfl e1, _, rfl, h, CM, d, _, _, rfl, X.ob, S.cl, S.n1, rfl, o, CT, da, _, _, rfl, hA, ST.cl, ST.n2, rfl, pv_, xv, rfl, .inl hpv, _, rfl, h, CM, d, _, _, rfl, X.ob, S.cl, S.n2, rfl, n, CT, db, _, _, rfl, hB, ST.cl, ST.n2, rfl, pv2, xv2, rfl, .inl hpv2, ?_⟩
  rw [lv, lv2]
  have cr := rows_read a.rows.length b.rows.length x
  refine ⟨r1, x, _, _, rfl, SqL.of hr1, lx, fun nok => ?_, fun ok v1 H1 s1 d1 => ?_⟩
  · rcases cr with ⟨z, _⟩ | ⟨_, z⟩
    · exact absurd z nok
    · exact hC _ rfl z
  obtain ⟨_, q, eq1, eq3⟩ := cr.resolve_right fun z => z.1 ok
  have eq2 : VatdfBase.okRows a.rows.length b.rows.length q = true := by
    cases e : VatdfFlat.pairsOf x with
    | none => rw [e] at eq1; cases eq1
    | some q' =>
      rw [e, Option.bind_some] at eq1
      by_cases c : VatdfBase.okRows a.rows.length b.rows.length q' = true
      · rw [if_pos c] at eq1
        cases eq1
        exact c
      · rw [if_neg c] at eq1
        cases eq1
  rw [eq3] at d1
  have X1 := X.same s1
  refine ⟨_, rfl, h, d, _, rfl, X1.ob, rfl, _, rfl, h, a, b, cols, d, o, n, y, p, l, dl, cd, wd, kc, kw, v1, q, rfl, X1, G, dmono nw_in d1, eq2, fun H2 s2 => ?_⟩
  have X2 := X1.same s2
  obtain ⟨t1, t2⟩ := X.td 0 0 (Nat.zero_le _) (Nat.zero_le _)
  refine ⟨_, rfl, _, rfl, _, rfl, h, CM, d, _, _, rfl, X2.ob, S.cl, S.n5, rfl, l, dl, _, rfl, X2.lm.ob, rfl, l, dl, p, _, _, _, cd, wd, kc, kw, _, rfl, X2.lm, t1, fun H3 s3 => ?_⟩
  refine ⟨_, _, rfl, rfl, by show 2 ≤ sizeLine; decide, fun D hD => ?_⟩
  have eS : Vatdfb.step ⟨some (a, b), cols⟩ (.cost x) = (⟨some (a, b), cols⟩, [((Vatdfb.matchingCost (costsOf a b cols) a.rows.length b.rows.length q : Nat) : Int), ((Vatdfb.matchingCost (costsOf a b cols) a.rows.length b.rows.length q : Nat) : Int) - (bN (costsOf a b cols) a.rows.length b.rows.length 0 0).1]) := by
    show (_, match Vatdfb.rowsOf a b x with | none => [-3] | some p => _) = _
    rw [show Vatdfb.rowsOf a b x = some q from eq1]
    have := cost_over (g := costsOf a b cols) eq2
    rw [costM_eq eq2] at this
    rw [this]
    rfl
  unfold Gives at hQ
  rw [eS] at hQ
  have s03 : Same H H3 := (s1.trans s2).trans s3
  exact hQ _ D (KpB.same (s03.trans (Same.made1 hD))) (Same.tk (s03.trans (Same.made1 hD))) (TwAt.same hst (s03.trans (Same.made1 hD))) (s03.free hD) upd_same
end
end MR

namespace MR
open PySem PySem.Spec PyProof.Rows L2
open VatdfBase (Cell Row Table Bytes Pairs)
/-- what pair answers -/
theorem step_pair (a b : Table) (cols : Pairs) (i j : Int) : Vatdfb.step ⟨some (a, b), cols⟩ (.pair i j) = (⟨some (a, b), cols⟩, if (0 ≤ i ∧ i < a.rows.length) ∧ (0 ≤ j ∧ j < b.rows.length) then [gAt (gridI (costsOf a b cols)) i.toNat j.toNat] else [-4]) := by
  show (_, if i < 0 ∨ (a.rows.length : Int) ≤ i ∨ j < 0 ∨ (b.rows.length : Int) ≤ j then [-4] else [Vatdfb.int (Vatdfb.pairCost a b cols i.toNat j.toNat)]) = _
  by_cases c : (0 ≤ i ∧ i < a.rows.length) ∧ (0 ≤ j ∧ j < b.rows.length)
  · rw [if_pos c, if_neg (by omega), at_gI, grid_at_cost (by omega) (by omega)]
    rfl
  · rw [if_neg c, if_pos (by omega)]
section
variable {P : Program} {w : World} {K : PySem.W.Frag} {mg : Str → Option Value} {base : Heap} {f : Addr} {fd : FuncData} {C CE CT CL CM CW XT XC XR XP XN : Addr}
abbrev s_answer_pair : Stmt := topS 83
theorem sc_answer_pair : FnScope ["both", "handed", "matched", "old", "new"] ["both", "handed"] (defScope s_answer_pair) := ⟨rfl, rfl, rfl, by decide +kernel, rfl, by decide +kernel, by decide +kernel⟩
def sp_answer_pair (K : PySem.W.Frag) (CT CL CM CW XP XN : Addr) : Sp := fun vs H Q E => ∃ (s : Addr) (hv : V) (i j : Int) (st : Vatdfb.State), vs = [.ref s, hv] ∧ HandAt H hv [i, j] [] ∧ StAt K CT CL CM CW H s st ∧
  (st.tables = none → Refuse E H XN) ∧ (∀ t, st.tables = some t → ¬ ((0 ≤ i ∧ i < t.1.rows.length) ∧ (0 ≤ j ∧ j < t.2.rows.length)) → Refuse E H XP) ∧ Gives K CT CL CM CW H s Q (Vatdfb.step st (.pair i j))
theorem ok_answer_pair (T : Tops mg) (S : MtC K CM) (ST : TabC K CT) (C_TwoTables_matched : MetX P w K mg base (L2.CX P w) 1 CW "matched" (sp_matched K CW XN)) (C_is_there : CalX P w K mg base CX0 1 "is_there" sp_is_there)
    (X_NotThere : ErrX K mg "NotThere" XP) (F : Fun K "answer_pair" "answer_pair" s_answer_pair f fd) :
    FnOk P w K mg base (L2.CX P w) 2 f fd ["both", "handed"] (sp_answer_pair K CT CL CM CW XP XN) := by
  refine F.okX sc_answer_pair (fun vs H Q E h => ?_) (fun cdv A outer s H vs Q E hr h => ⟨_, (pss_cons (ps_set (i := 2) sc_answer_pair.nd rfl (Or.inl rfl) (pe_m0 (pv 0) C_TwoTables_matched hr (by decide) (loud (takes_of rfl rfl rfl rfl))))
  (pss_cons (ps_set (i := 3) sc_answer_pair.nd rfl (Or.inl rfl) (pe_ix (ixL K) (pv 1) pe_int (fun _ _ => rfl)))
  (pss_cons (ps_set (i := 4) sc_answer_pair.nd rfl (Or.inl rfl) (pe_ix (ixL K) (pv 1) pe_int (fun _ _ => rfl)))
  (pss_cons (ps_if (PW.pt (pw_or (pt_not (pt_val (pe_k C_is_there hr (by decide) (by rfl) (fun _ => quiet) (pa_cons (pv 3) (pa_cons (pe_callB (lenK K) (by rfl) T.n_len PySem.boot_len (pa_cons (fldK K (fldK K (pv 2))) pa_nil)) pa_nil))))) (pw_or1 (pt_not (pt_val (pe_k C_is_there hr (by decide) (by rfl) (fun _ => quiet) (pa_cons (pv 4) (pa_cons (pe_callB (lenK K) (by rfl) T.n_len PySem.boot_len (pa_cons (fldK K (fldK K (pv 2))) pa_nil)) pa_nil))))))))
   (pss_one (ps_raise rfl (takes_of rfl rfl rfl rfl) (pmk_own0 PySem.F.excBase_Exception X_NotThere.q X_NotThere.g X_NotThere.kp (raises_own X_NotThere.b X_NotThere.t) (by rfl)))) pss_nil)
  (pss_one (ps_ret (pe_lst (pa_cons (pe_ix (ixL K) (pe_ix (ixL K) (fldK K (pv 2)) (pv 3) (fun _ _ => rfl)) (pv 4) (fun _ _ => rfl)) pa_nil)))))))), ?_⟩)
  · obtain ⟨s, hv, i, j, st, rfl, _⟩ := h
    rfl
  obtain ⟨s, hv, i, j, st, rfl, hh, hst, hN, hP, hQ⟩ := h
  obtain ⟨hd, xs, rfl, hhd, hat⟩ := hh.num
  have e1 := hat 0 i rfl
  have e2 := hat 1 j rfl
  obtain ⟨stt, cols⟩ := st
  cases stt with
  | none =>
    obtain ⟨dx, hs⟩ := hst
    exact ⟨_, rfl, s, dx, _, rfl, hs, rfl, s, dx, .non, rfl, hs, .inl ⟨rfl, hN rfl⟩⟩
  | some t =>
  obtain ⟨a, b⟩ := t
  have hst : TwAt K CT CL CM CW H s a b cols := hst
  have hP : ¬ ((0 ≤ i ∧ i < a.rows.length) ∧ (0 ≤ j ∧ j < b.rows.length)) → Refuse E H XP := hP _ rfl
  obtain ⟨G, dx, h, d, o, n, y, p, l, dl, cd, wd, kc, kw, hs, X⟩ := id hst
  refine ⟨_, rfl, s, dx, _, rfl, hs, rfl, s, dx, .ref h, rfl, hs, .inr ⟨(fun z => nomatch z), ?_⟩⟩
  obtain ⟨da, pu, pv_, xu, xv, hA, hpu, hpv, lu, lv⟩ := tabLens X.ta
  obtain ⟨db, pu2, pv2, xu2, xv2, hB, hpu2, hpv2, lu2, lv2⟩ := tabLens X.tb
  refine ⟨_, rfl, hd, _, _, _, rfl, rfl, SqL.of hhd, at_of (j := 0) rfl e1, ?_⟩
  refine ⟨_, rfl, hd, _, _, _, rfl, rfl, SqL.of hhd, at_of (j := 1) rfl e2, ?_⟩
  refine ⟨_, rfl, _, rfl, h, CM, d, _, _, rfl, X.ob, S.cl, S.n1, rfl, o, CT, da, _, _, rfl, hA, ST.cl, ST.n2, rfl, pv_, xv, rfl, .inl hpv, ?_⟩
  rw [lv]
  unfold Gives at hQ
  rw [step_pair] at hQ
  refine ⟨i, _, rfl, _, rfl, ?_⟩
  by_cases c : ¬ (0 ≤ i ∧ i < (a.rows.length : Int))
  · rw [decide_eq_false c]
    exact iteT (iteT (hP (fun z => c z.1) H (Same.refl _)))
  have c := Decidable.not_not.mp c
  rw [decide_eq_true c]
  refine iteF ?_
  refine ⟨_, rfl, _, rfl, h, CM, d, _, _, rfl, X.ob, S.cl, S.n2, rfl, n, CT, db, _, _, rfl, hB, ST.cl, ST.n2, rfl, pv2, xv2, rfl, .inl hpv2, ?_⟩
  rw [lv2]
  refine ⟨j, _, rfl, _, rfl, ?_⟩
  by_cases c2 : ¬ (0 ≤ j ∧ j < (b.rows.length : Int))
  · rw [decide_eq_false c2]
    exact iteT (hP (fun z => c2 z.2) H (Same.refl _))
  have c2 := Decidable.not_not.mp c2
  rw [decide_eq_true c2]
  refine iteF ?_
  rw [if_pos ⟨c, c2⟩] at hQ
  obtain ⟨pg, xg, q, rfl, hpg, hxg, hq, hqj⟩ := grid_at X.lm.da G.gridOk (i := i.toNat) (j := j.toNat) (by omega) (by omega)
  refine ⟨_, rfl, h, CM, d, _, _, rfl, X.ob, S.cl, S.n4, rfl, _, rfl, pg, _, _, _, rfl, rfl, hpg, at_of (j := i.toNat) (by omega) hxg, _, rfl, q, _, _, _, rfl, rfl, hq, at_of (j := j.toNat) (by omega) hqj, by show 1 ≤ sizeLine; decide, fun D hD => ?_⟩
  have s2 := Same.made1 (H := H) (o := .lst [.int (gAt (gridI (costsOf a b cols)) i.toNat j.toNat)]) hD
  exact hQ _ D (KpB.same s2) (Same.tk s2) (TwAt.same hst s2) hD upd_same
end
end MR

/-! A table of defs at the file's top; what a try wishes. -/
namespace MR
open PySem PySem.Spec PyProof.Rows L2
open VatdfBase (Cell Row Table Bytes Pairs)
/-- a tuple at the file's top -/
structure TopT (K : PySem.W.Frag) (mg : Str → Option Value) (x : Str) (a : Addr) (vs : List V) : Prop where
  g : mg x = some (.ref a)
  t : ∀ H, SqT K H a vs
section
variable {X : Cx}
theorem pe_gt {K : PySem.W.Frag} {mg : Str → Option Value} {x : Str} {a : Addr} {vs : List V} {pos : Pos} (hg : Gl X x) (t : TopT K mg x a vs) (e : X.mg = mg := by rfl) (hd : (x == ("__debug__" : Str)) = false := by decide) : PE X (.Name x pos) (tC (.ref a)) := by
  subst e
  exact pe_glob hg t.g rfl hd
/-- a callee that may raise, inside a try -/
theorem loudW {W : WX} (tk : Takes X W) (σ : L2.St) : PassesAt (L2.CX X.prog X.w) X σ (fun c d H => W c d σ H) := fun _ _ _ e s' I c => tk e s' (XE.of_call (W := W) I (fun _ _ _ h => h) c)
end
/-- except C: return [-n] -/
abbrev bodyH (n : Int) : TS := tRet (tLst (tCons (tUn (rU fun i => V.int (-i)) (tC (.int n))) tNil))
abbrev hdl (p : Addr × Int) : Value × (Addr → Value → Option Addr → TS) := (.ref p.1, fun _ _ _ => bodyH p.2)
theorem wmany_at {K : PySem.W.Frag} {Wout : WX} {D : Ends} {σ : L2.St} {H : Hp} {p : Addr × Int} (h : bodyH p.2 D σ H) : ∀ (l : List (Addr × Int)) (i : Nat), l[i]? = some p →
    (∀ j q, l[j]? = some q → j ≤ i → PySem.W.exmOne K (.ref p.1) (.ref q.1) = some (decide (j = i))) → wMany K Wout D (l.map hdl) (.ref p.1) none σ H
  | [], i, e, _ => by cases e
  | q :: l, 0, e, m => by
    have e : q = p := Option.some.inj e
    subst e
    exact ⟨true, m 0 q rfl (Nat.le_refl _), fun _ _ _ => h, fun z => nomatch z⟩
  | q :: l, i + 1, e, m => by
    refine ⟨false, ?_, (fun z => nomatch z), fun _ => wmany_at h l i e fun j r hr hj => ?_⟩
    · rw [m 0 q rfl (Nat.zero_le _)]
      rfl
    · rw [m (j + 1) r hr (by omega)]
      congr 1
      exact decide_eq_decide.mpr (by omega)
theorem atI_of {xs : List V} {k : Int} {v : V} (h0 : 0 ≤ k) (h : xs[k.toNat]? = some v) : atI xs k = some v := at_of (j := k.toNat) (by omega) h
end MR

/-! Keys, the pairs by them, their first longest rising part. -/
namespace MR
open VatdfBase (Cell Row Table Bytes Pairs)
/-! ### Keys read -/
def natO (z : Int) : Option Nat := if 0 ≤ z then some z.toNat else none
theorem mapM_nat : ∀ ns : List Int, (∃ cs : List Nat, ns.mapM natO = some cs ∧ ns = cs.map fun n : Nat => (n : Int)) ∨ (ns.mapM natO = none ∧ ∃ z ∈ ns, z < 0)
  | [] => .inl ⟨[], rfl, rfl⟩
  | z :: ns => by
    rw [List.mapM_cons]
    by_cases c : 0 ≤ z
    · have e : natO z = some z.toNat := if_pos c
      rw [e]
      rcases mapM_nat ns with ⟨cs, h1, h2⟩ | ⟨h1, y, hy, h2⟩
      · refine .inl ⟨z.toNat :: cs, by rw [h1]; rfl, ?_⟩
        rw [List.map_cons, ← h2, Int.toNat_of_nonneg c]
      · exact .inr ⟨by rw [h1]; rfl, y, List.mem_cons_of_mem _ hy, h2⟩
    · have e : natO z = none := if_neg c
      rw [e]
      exact .inr ⟨rfl, z, List.mem_cons_self, by omega⟩
theorem rises_iff : ∀ l : List Nat, Vatdfb.rises l = true ↔ ∀ i : Nat, i + 1 < l.length → l.getD i 0 < l.getD (i + 1) 0
  | [] => ⟨fun _ i h => absurd h (by simp), fun _ => rfl⟩
  | [_] => ⟨fun _ i h => absurd h (by simp), fun _ => rfl⟩
  | a :: b :: l => by
    have e : Vatdfb.rises (a :: b :: l) = (decide (a < b) && Vatdfb.rises (b :: l)) := rfl
    rw [e, Bool.and_eq_true, decide_eq_true_eq, rises_iff (b :: l)]
    constructor
    · rintro ⟨h1, h2⟩ i hi
      cases i with
      | zero => exact h1
      | succ i => exact h2 i (by simpa using hi)
    · intro h
      exact ⟨h 0 (by simp), fun i hi => h (i + 1) (by simpa using hi)⟩
def KeysOk (cols : Pairs) (ns : List Int) : Prop := ns ≠ [] ∧ Rise ns ∧ ∀ z ∈ ns, ∃ p ∈ cols, ((p.1 : Nat) : Int) = z
theorem newOf_some {cols : Pairs} {c : Nat} : (VatdfBase.newOf cols c).isSome = true ↔ ∃ p ∈ cols, p.1 = c := by
  unfold VatdfBase.newOf
  rw [Option.isSome_map, List.find?_isSome]
  constructor
  · rintro ⟨p, hp, h⟩
    exact ⟨p, hp, eq_of_beq h⟩
  · rintro ⟨p, hp, h⟩
    exact ⟨p, hp, by rw [h]; exact beq_self_eq_true _⟩
theorem keys_read (cols : Pairs) (ns : List Int) : (KeysOk cols ns ∧ ∃ cs : List Nat, Vatdfb.keysOf cols ns = some cs ∧ ns = cs.map fun n : Nat => (n : Int)) ∨ (¬ KeysOk cols ns ∧ Vatdfb.keysOf cols ns = none) := by
  have ek : Vatdfb.keysOf cols ns = (ns.mapM natO).bind fun cs => if !cs.isEmpty && (Vatdfb.rises cs && cs.all fun c => (VatdfBase.newOf cols c).isSome) then some cs else none := rfl
  rw [ek]
  rcases mapM_nat ns with ⟨cs, h1, h2⟩ | ⟨h1, z, hz, h2⟩
  · rw [h1, Option.bind_some]
    have iff : (!cs.isEmpty && (Vatdfb.rises cs && cs.all fun c => (VatdfBase.newOf cols c).isSome)) = true ↔ KeysOk cols ns := by
      rw [Bool.and_eq_true, Bool.and_eq_true, rises_iff, List.all_eq_true]
      have e1 : (!cs.isEmpty) = true ↔ ns ≠ [] := by
        rw [h2]
        cases cs <;> simp
      rw [e1]
      unfold KeysOk
      have e2 : Rise ns ↔ ∀ i : Nat, i + 1 < cs.length → cs.getD i 0 < cs.getD (i + 1) 0 := by
        rw [h2]
        exact rise_nat cs
      rw [e2]
      have e3 : (∀ z ∈ ns, ∃ p ∈ cols, ((p.1 : Nat) : Int) = z) ↔ ∀ c ∈ cs, (VatdfBase.newOf cols c).isSome = true := by
        rw [h2]
        constructor
        · intro h c hc
          obtain ⟨p, hp, e⟩ := h (c : Int) (List.mem_map.mpr ⟨c, hc, rfl⟩)
          exact newOf_some.mpr ⟨p, hp, by omega⟩
        · intro h z hz
          obtain ⟨c, hc, rfl⟩ := List.mem_map.mp hz
          obtain ⟨p, hp, e⟩ := newOf_some.mp (h c hc)
          exact ⟨p, hp, by rw [e]⟩
      rw [e3]
    by_cases c : KeysOk cols ns
    · exact .inl ⟨c, cs, by rw [if_pos (iff.mpr c)], h2⟩
    · exact .inr ⟨c, by rw [if_neg fun z => c (iff.mp z)]⟩
  · refine .inr ⟨fun h => ?_, by rw [h1]; rfl⟩
    obtain ⟨p, _, e⟩ := h.2.2 z hz
    omega
/-! ### The first longest rising part -/
theorem firstRising_len : ∀ (l : Pairs) (last : Option Nat) (need : Nat), (need = 0 ∨ ∃ q, (q, need) ∈ (l.map fun p => p.2).zip (rl (l.map fun p => p.2)) ∧ (last.all fun j => decide (j < q)) = true) → (Vatdfb.firstRising l last need).length = need
  | [], last, need, h => by
    rcases h with h | ⟨q, h, _⟩
    · rw [h]
      rfl
    · simp at h
  | p :: l, last, need, h => by
    rw [firstRising_cons, rl_from]
    have ez : ((p :: l).map fun p => p.2).zip (rl ((p :: l).map fun p => p.2)) = (p.2, mx (((l.map fun p => p.2).zip (rl (l.map fun p => p.2))).map fun z => if p.2 < z.1 then z.2 else 0) + 1) :: (l.map fun p => p.2).zip (rl (l.map fun p => p.2)) := rfl
    have eh : (rl ((p :: l).map fun p => p.2)).head? = some (mx (((l.map fun p => p.2).zip (rl (l.map fun p => p.2))).map fun z => if p.2 < z.1 then z.2 else 0) + 1) := rfl
    rw [eh]
    rw [ez] at h
    generalize hM : mx (((l.map fun p => p.2).zip (rl (l.map fun p => p.2))).map fun z => if p.2 < z.1 then z.2 else 0) = M at h
    by_cases c : need ≠ 0 ∧ (last.all fun j => decide (j < p.2)) = true ∧ (some (M + 1) == some need) = true
    · rw [if_pos c, List.length_cons]
      have en : M + 1 = need := by simpa using c.2.2
      rw [firstRising_len l (some p.2) (need - 1)]
      · omega
      · rcases mx_in (((l.map fun p => p.2).zip (rl (l.map fun p => p.2))).map fun z => if p.2 < z.1 then z.2 else 0) with z | z
        · exact .inl (by omega)
        · rw [hM] at z
          obtain ⟨⟨u, r⟩, hm, e⟩ := List.mem_map.mp z
          by_cases c2 : p.2 < u
          · have e : r = M := by
              have : (if p.2 < u then r else 0) = M := e
              rwa [if_pos c2] at this
            refine .inr ⟨u, ?_, decide_eq_true c2⟩
            rw [show need - 1 = r from by omega]
            exact hm
          · have e : 0 = M := by
              have : (if p.2 < u then r else 0) = M := e
              rwa [if_neg c2] at this
            exact .inl (by omega)
    · rw [if_neg c]
      refine firstRising_len l last need ?_
      rcases h with h | ⟨q, h, hq⟩
      · exact .inl h
      · rcases List.mem_cons.mp h with z | z
        · obtain ⟨z1, z2⟩ := Prod.mk.inj z
          refine absurd ⟨by omega, by rw [← z1]; exact hq, by rw [z2]; simp⟩ c
        · exact .inr ⟨q, z, hq⟩
theorem longestRising_len (l : Pairs) : (Vatdfb.longestRising l).length = VatdfBase.longest (l.map fun p => p.2) := by
  refine firstRising_len l none _ ?_
  rw [← rl_longest]
  rcases mx_in (rl (l.map fun p => p.2)) with h | h
  · exact .inl h
  · refine .inr ?_
    obtain ⟨i, hi, e⟩ := List.mem_iff_getElem.mp h
    have hl : i < (l.map fun p => p.2).length := by rw [← rl_len]; exact hi
    refine ⟨(l.map fun p => p.2)[i], ?_, rfl⟩
    have : ((l.map fun p => p.2).zip (rl (l.map fun p => p.2)))[i]'(by rw [List.length_zip]; omega) = ((l.map fun p => p.2)[i], mx (rl (l.map fun p => p.2))) := by rw [List.getElem_zip, e]
    rw [← this]
    exact List.getElem_mem _
theorem firstRising_sub : ∀ (l : Pairs) (last : Option Nat) (need : Nat), (Vatdfb.firstRising l last need).Sublist l ∧ (Vatdfb.firstRising l last need).Pairwise (fun p q => p.2 < q.2) ∧ ∀ q ∈ Vatdfb.firstRising l last need, (last.all fun j => decide (j < q.2)) = true
  | [], last, need => ⟨List.Sublist.slnil, List.Pairwise.nil, fun q h => by cases h⟩
  | p :: l, last, need => by
    rw [firstRising_cons]
    by_cases c : need ≠ 0 ∧ (last.all fun j => decide (j < p.2)) = true ∧ ((Vatdfb.risingFrom (p :: l)).head? == some need) = true
    · rw [if_pos c]
      obtain ⟨h1, h2, h3⟩ := firstRising_sub l (some p.2) (need - 1)
      refine ⟨List.Sublist.cons_cons p h1, List.pairwise_cons.mpr ⟨fun q hq => ?_, h2⟩, fun q hq => ?_⟩
      · have := h3 q hq
        exact of_decide_eq_true this
      · rcases List.mem_cons.mp hq with z | z
        · rw [z]
          exact c.2.1
        · have h4 := of_decide_eq_true (h3 q z)
          cases last with
          | none => rfl
          | some j =>
            have h5 : j < p.2 := of_decide_eq_true c.2.1
            exact decide_eq_true (Nat.lt_trans h5 h4)
    · rw [if_neg c]
      obtain ⟨h1, h2, h3⟩ := firstRising_sub l last need
      exact ⟨List.Sublist.cons p h1, h2, h3⟩
/-! ### The pairs by keys -/
theorem key_eqv {α : Type} [BEq α] [LawfulBEq α] (x : α) : ∀ (l : List α) (i : Nat), l.countP (· == x) = 1 → (List.range' i l.length).filterMap (fun j => if (l[j - i]?).getD x == x ∧ j - i < l.length then some j else none) = [i + (l.findIdx (· == x))]
  | [], i, h => by simp at h
  | a :: l, i, h => by
    rw [List.length_cons, List.range'_succ, List.filterMap_cons, Nat.sub_self]
    have rest : ∀ P : Nat → Option Nat, (List.range' (i + 1) l.length).filterMap (fun j => if ((a :: l)[j - i]?).getD x == x ∧ j - i < l.length + 1 then some j else none) = (List.range' (i + 1) l.length).filterMap (fun j => if (l[j - (i + 1)]?).getD x == x ∧ j - (i + 1) < l.length then some j else none) := fun _ => by
      refine filterMap_ext fun j hj => ?_
      obtain ⟨h1, h2⟩ := List.mem_range'_1.mp hj
      have e : j - i = (j - (i + 1)) + 1 := by omega
      rw [e, List.getElem?_cons_succ]
      by_cases c : ((l[j - (i + 1)]?).getD x == x) = true
      · rw [if_pos ⟨c, by omega⟩, if_pos ⟨c, by omega⟩]
      · rw [if_neg fun z => c z.1, if_neg fun z => c z.1]
    rw [rest fun _ => none]
    rw [List.countP_cons] at h
    by_cases c : (a == x) = true
    · rw [if_pos c] at h
      have h0 : l.countP (· == x) = 0 := by omega
      have hn := List.countP_eq_zero.mp h0
      rw [if_pos ⟨by simpa using c, by omega⟩]
      have e0 : (List.range' (i + 1) l.length).filterMap (fun j => if (l[j - (i + 1)]?).getD x == x ∧ j - (i + 1) < l.length then some j else none) = [] := by
        rw [List.filterMap_eq_nil_iff]
        intro j hj
        obtain ⟨h1, h2⟩ := List.mem_range'_1.mp hj
        have hlt : j - (i + 1) < l.length := by omega
        rw [List.getElem?_eq_getElem hlt]
        exact if_neg fun z => hn _ (List.getElem_mem hlt) z.1
      rw [e0, List.findIdx_cons, c]
      rfl
    · rw [if_neg c] at h
      rw [if_neg fun z => c (by simpa using z.1)]
      show (List.range' (i + 1) l.length).filterMap _ = _
      rw [key_eqv x l (i + 1) (by omega), List.findIdx_cons, Bool.eq_false_iff.mpr c]
      show [i + 1 + _] = [i + (_ + 1)]
      rw [Nat.add_assoc, Nat.add_comm 1]
/-- by keys, as the program finds them -/
def keyPairsM {α : Type} [BEq α] (ka kb : List α) : Pairs := (List.range ka.length).filterMap fun i => (ka[i]?).bind fun k => if ka.countP (· == k) = 1 ∧ kb.countP (· == k) = 1 then some (i, kb.findIdx (· == k)) else none
theorem keyPairs_eq (a b : Table) (cols : Pairs) (cs : List Nat) : Vatdfb.keyPairs a b cols cs =
    keyPairsM ((List.range a.rows.length).map fun i => Vatdfb.keyOf a i cs) ((List.range b.rows.length).map fun j => Vatdfb.keyOf b j (cs.map fun c => (VatdfBase.newOf cols c).getD 0)) := by
  generalize hka : (List.range a.rows.length).map (fun i => Vatdfb.keyOf a i cs) = ka
  generalize hkb : (List.range b.rows.length).map (fun j => Vatdfb.keyOf b j (cs.map fun c => (VatdfBase.newOf cols c).getD 0)) = kb
  have la : ka.length = a.rows.length := by rw [← hka, List.length_map, List.length_range]
  have lb : kb.length = b.rows.length := by rw [← hkb, List.length_map, List.length_range]
  have e0 : Vatdfb.keyPairs a b cols cs = (List.range ka.length).flatMap fun i => (List.range kb.length).filterMap fun j => if ka[i]? == kb[j]? ∧ (ka.countP fun k => some k == ka[i]?) = 1 ∧ (kb.countP fun k => some k == kb[j]?) = 1 then some (i, j) else none := by
    rw [la, lb, ← hka, ← hkb]
    rfl
  rw [e0]
  unfold keyPairsM
  have fm : ∀ (l : List Nat) (f : Nat → List (Nat × Nat)) (g : Nat → Option (Nat × Nat)), (∀ i ∈ l, f i = (g i).toList) → l.flatMap f = l.filterMap g := by
    intro l f g
    induction l with
    | nil => exact fun _ => rfl
    | cons i l ih =>
      intro h
      rw [List.flatMap_cons, List.filterMap_cons, h i List.mem_cons_self, ih fun j hj => h j (List.mem_cons_of_mem _ hj)]
      cases g i <;> rfl
  refine fm _ _ _ fun i hi => ?_
  have hi := List.mem_range.mp hi
  rw [List.getElem?_eq_getElem hi, Option.bind_some]
  have ca : (ka.countP fun k => some k == some ka[i]) = ka.countP (· == ka[i]) := countP_ext fun k _ => by simp
  rw [ca]
  by_cases c : ka.countP (· == ka[i]) = 1 ∧ kb.countP (· == ka[i]) = 1
  · rw [if_pos c]
    have ek := key_eqv ka[i] kb 0 c.2
    rw [← List.range_eq_range', Nat.zero_add] at ek
    have : (List.range kb.length).filterMap (fun j => if (some ka[i] == kb[j]?) = true ∧ ka.countP (· == ka[i]) = 1 ∧ (kb.countP fun k => some k == kb[j]?) = 1 then some (i, j) else none) =
        ((List.range kb.length).filterMap (fun j => if (kb[j - 0]?).getD ka[i] == ka[i] ∧ j - 0 < kb.length then some j else none)).map fun j => (i, j) := by
      rw [List.map_filterMap]
      refine filterMap_ext fun j hj => ?_
      have hj := List.mem_range.mp hj
      rw [Nat.sub_zero, List.getElem?_eq_getElem hj]
      show _ = Option.map _ (if (kb[j] == ka[i]) = true ∧ j < kb.length then some j else none)
      by_cases c2 : kb[j] = ka[i]
      · have cb : (kb.countP fun k => some k == some kb[j]) = kb.countP (· == ka[i]) := countP_ext fun k _ => by rw [c2]; simp
        rw [cb, if_pos ⟨by rw [c2]; exact beq_self_eq_true _, c⟩, if_pos ⟨by rw [c2]; exact beq_self_eq_true _, hj⟩]
        rfl
      · rw [if_neg fun z => c2 (by have := eq_of_beq z.1; exact (Option.some.inj this).symm), if_neg fun z => c2 (eq_of_beq z.1)]
        rfl
    rw [this, ek]
    rfl
  · rw [if_neg c]
    rw [List.filterMap_eq_nil_iff.mpr]
    · rfl
    · intro j hj
      have hj := List.mem_range.mp hj
      rw [List.getElem?_eq_getElem hj]
      refine if_neg fun z => c ⟨z.2.1, ?_⟩
      have e := Option.some.inj (eq_of_beq z.1)
      have := z.2.2
      rw [← e] at this
      rw [← this]
      exact countP_ext fun k _ => by simp
/-- .. in the form that numbers have, keys may be told otherwise -/
theorem keyPairsM_map {α β : Type} [BEq α] [LawfulBEq α] [BEq β] [LawfulBEq β] {f : α → β} (hf : ∀ {a b}, f a = f b → a = b) (ka kb : List α) : keyPairsM (ka.map f) (kb.map f) = keyPairsM ka kb := by
  unfold keyPairsM
  rw [List.length_map]
  refine filterMap_ext fun i hi => ?_
  rw [List.getElem?_map]
  have hi := List.mem_range.mp hi
  rw [List.getElem?_eq_getElem hi]
  show (if (ka.map f).countP (· == f ka[i]) = 1 ∧ (kb.map f).countP (· == f ka[i]) = 1 then some (i, (kb.map f).findIdx (· == f ka[i])) else none) = _
  have e : ∀ l : List α, (l.map f).countP (· == f ka[i]) = l.countP (· == ka[i]) := fun l => by
    rw [List.countP_map]
    refine countP_ext fun k _ => ?_
    show (f k == f ka[i]) = (k == ka[i])
    have := bne_map (f := f) hf k ka[i]
    rw [bne, bne] at this
    simpa using congrArg (! ·) this
  have e2 : (kb.map f).findIdx (· == f ka[i]) = kb.findIdx (· == ka[i]) := by
    rw [List.findIdx_map]
    congr 1
    funext k
    show (f k == f ka[i]) = (k == ka[i])
    have := bne_map (f := f) hf k ka[i]
    rw [bne, bne] at this
    simpa using congrArg (! ·) this
  rw [e, e, e2]
  rfl
theorem keyPairs_ok {α : Type} [BEq α] [LawfulBEq α] {ka kb : List α} : (∀ p ∈ keyPairsM ka kb, p.1 < ka.length ∧ p.2 < kb.length) ∧ (keyPairsM ka kb).Pairwise (fun p q => p.1 < q.1) := by
  refine ⟨fun p hp => ?_, ?_⟩
  · obtain ⟨i, hi, e⟩ := List.mem_filterMap.mp hp
    have hi := List.mem_range.mp hi
    rw [List.getElem?_eq_getElem hi, Option.bind_some] at e
    by_cases c : ka.countP (· == ka[i]) = 1 ∧ kb.countP (· == ka[i]) = 1
    · rw [if_pos c] at e
      cases e
      refine ⟨hi, List.findIdx_lt_length_of_exists ?_⟩
      have : 0 < kb.countP (· == ka[i]) := by omega
      obtain ⟨k, hk, h⟩ := List.countP_pos_iff.mp this
      exact ⟨k, hk, h⟩
    · rw [if_neg c] at e
      cases e
  · unfold keyPairsM
    rw [List.pairwise_filterMap]
    refine List.pairwise_lt_range.imp fun {i j} h p hp q hq => ?_
    have fst : ∀ (i : Nat) (p : Nat × Nat), ((ka[i]?).bind fun k => if ka.countP (· == k) = 1 ∧ kb.countP (· == k) = 1 then some (i, kb.findIdx (· == k)) else none) = some p → p.1 = i := by
      intro i p e
      cases q : ka[i]? with
      | none => rw [q] at e; cases e
      | some k =>
        rw [q, Option.bind_some] at e
        by_cases c : ka.countP (· == k) = 1 ∧ kb.countP (· == k) = 1
        · rw [if_pos c] at e
          cases e
          rfl
        · rw [if_neg c] at e
          cases e
    rw [fst i p hp, fst j q hq]
    exact h
theorem part_ok {m n : Nat} {l : Pairs} (h1 : ∀ p ∈ l, p.1 < m ∧ p.2 < n) (h2 : l.Pairwise fun p q => p.1 < q.1) : VatdfBase.okRows m n (Vatdfb.longestRising l) = true := by
  obtain ⟨s1, s2, _⟩ := firstRising_sub l none (VatdfBase.longest (l.map fun p => p.2))
  have s3 := h2.sublist s1
  refine (okRows_iff _ _ _).mpr ⟨fun p hp => h1 p (s1.subset hp), fun i hi => ?_, fun i hi => ?_⟩
  · exact List.pairwise_iff_getElem.mp s3 i (i + 1) (Nat.lt_of_succ_lt hi) hi (by omega)
  · exact List.pairwise_iff_getElem.mp s2 i (i + 1) (Nat.lt_of_succ_lt hi) hi (by omega)
end MR

/-! Comprehensions whose items are old data; dicts made of pairs. -/
namespace MR
open PySem PySem.Spec PyProof.Rows L2
section
variable {K : PySem.W.Frag} {J : It} {g : TG} {tt : TT} {te : TE} {vs : List Nat} {σ : L2.St} {H1 : Hp} {D : Addr} {Qd : Hp → Prop}
/-- what one turn has to do, the item made of whatever data (but what stands at E0) -/
abbrev LcTurnA (K : PySem.W.Frag) (g : TG) (tt : TT) (te : TE) (vs : List Nat) (σ : L2.St) (H H' : Hp) (D E0 : Addr) (x : V) (o : Option PyData) : Prop :=
  ∀ (Kt : V → Hp → Prop) (Kf : Hp → Prop), (∀ y H4 d, o = some d → Same H H4 → Dp K (hd D (hd E0 H4)) y d → Kt y H4) → (∀ H4, o = none → Same H H4 → Kf H4) →
    g x (wipe σ vs) H' fun σ2 H2 => wipe σ2 vs = wipe σ vs ∧ tt σ2 H2 fun b H3 => if b = true then te σ2 H3 Kt else Kf H3
theorem hd2_mono {D E0 : Addr} {H H4 : Hp} (k : Same H H4) : Same (hd D (hd E0 H)) (hd D (hd E0 H4)) := fun b o e =>
  hd_of (hd_ne e).1 (hd_of (hd_ne (hd_ne e).2).1 (k b o (hd_ne (hd_ne e).2).2))
theorem lc_any (E0 : Addr) (n : Nat) (f : Nat → Option PyData) (hn : n < 100000) (hD : H1 D = none) (hJ : ∀ i H, Same H1 H → (i < n → J.go i H) ∧ (n ≤ i → J.stop i H))
    (turn : ∀ i H acc, i < n → Same H1 H → H D = some (.lst acc) → ∀ x H', J.yld i H x H' → LcTurnA K g tt te vs σ H H' D E0 x (f i))
    (fin : ∀ H acc, Same H1 H → H D = some (.lst acc) → DpAll K (hd D (hd E0 H)) acc ((List.range n).filterMap f) → Qd H) : LcGoal J g tt te vs σ H1 D Qd := by
  refine ⟨fun i m H => m = n - i ∧ i ≤ n ∧ Same H1 H ∧ ∃ acc, H D = some (.lst acc) ∧ acc.length ≤ i ∧ DpAll K (hd D (hd E0 H)) acc ((List.range i).filterMap f),
    ⟨n, by omega, Nat.zero_le _, Same.made1 hD, [], upd_same, Nat.le_refl _, .nil⟩, ?_⟩
  rintro i m H ⟨rfl, hi, k1, acc, hacc, hlen, hdat⟩
  obtain ⟨jg, js⟩ := hJ i H k1
  by_cases hlt : i < n
  · refine .inr ⟨jg hlt, fun H' => (i + 1 ≤ n ∧ Same H1 H' ∧ ∃ acc, H' D = some (.lst acc) ∧ acc.length ≤ i + 1 ∧ DpAll K (hd D (hd E0 H')) acc ((List.range (i + 1)).filterMap f)),
      fun H' ⟨q1, q2⟩ => ⟨n - (i + 1), by omega, rfl, q1, q2⟩, fun x H' y => ?_⟩
    refine turn i H acc hlt k1 hacc x H' y _ _ (fun v H4 d hf k dv => ?_) (fun H4 hf k => ?_)
    · refine ⟨acc, k _ _ hacc, by rw [sizeLine_eq]; omega, hlt, fun b o e => ?_, acc ++ [v], upd_same, by rw [List.length_append, List.length_singleton]; omega, ?_⟩
      · rw [upd_ne (ne_of_none e hD)]
        exact k b o (k1 b o e)
      · have e5 : Same (hd D (hd E0 H4)) (hd D (hd E0 (upd H4 D (.lst (acc ++ [v]))))) := fun b o e => hd_of (hd_ne e).1 (hd_of (hd_ne (hd_ne e).2).1 (by rw [upd_ne (hd_ne e).1]; exact (hd_ne (hd_ne e).2).2))
        rw [filterMap_range_succ, hf]
        exact DpAll.snoc (dmonoAll e5 (dmonoAll (hd2_mono k) hdat)) (dmono e5 dv)
    · refine ⟨hlt, k1.trans k, acc, k _ _ hacc, by omega, ?_⟩
      rw [filterMap_range_succ, hf, List.append_nil]
      exact dmonoAll (hd2_mono k) hdat
  · have e : i = n := by omega
    subst e
    exact .inl ⟨js (Nat.le_refl _), fin H acc k1 hacc hdat⟩
theorem lc_LA {α : Type} {enc : α → PyData} {l : List α} {a : Addr} {xs : List V} (E0 : Addr) (f : α → Option PyData) (hn : l.length < 100000) (hD : H1 D = none) (hp : SqL K H1 a xs) (hx : DpAll K H1 xs (l.map enc))
    (turn : ∀ (i : Nat) r x H acc, l[i]? = some r → Same H1 H → H D = some (.lst acc) → Dp K H1 x (enc r) → LcTurnA K g tt te vs σ H H D E0 x (f r))
    (fin : ∀ H acc, Same H1 H → H D = some (.lst acc) → DpAll K (hd D (hd E0 H)) acc (l.filterMap f) → Qd H) : LcGoal (Itl K a) g tt te vs σ H1 D Qd := by
  have hxl : xs.length = l.length := by rw [DpAll.length hx, List.length_map]
  refine lc_any (K := K) E0 l.length (fun i => (l[i]?).bind f) hn hD (fun i H k => hxl ▸ go_list (k.seq hp) i) ?_ ?_
  · rintro i H acc hi k hacc x H' ⟨rfl, q⟩ Kt Kf ht hf
    obtain ⟨r, hr, dx⟩ := DpAll.item hx (q xs (k.seq hp))
    have e : (l[i]?).bind f = f r := by rw [hr]; rfl
    exact turn i r x _ acc hr k hacc dx Kt Kf (fun y H4 d o s dd => ht y H4 d (e.trans o) s dd) fun H4 o s => hf H4 (e.trans o) s
  · intro H acc k h1 h2
    rw [fm_range] at h2
    exact fin H acc k h1 h2
end
/-! ### d.get -/
theorem m1_of {X : Cx} {o : Expr} {m : Str} {apos cpos : Pos} {e : Expr} (hb : attributeBase o m X.env (eval o X.env) = eval o X.env) (h1 : starEach [e] X.env = (false, eval e X.env) :: starEach [] X.env) (hl : (apos.endLine == cpos.line) = true) : M1 X o m apos e cpos := by
  have h0 : starEach [] X.env = [] := rfl
  have k0 : keywordEach [] X.env = [] := rfl
  have ht : backTo cpos (starEach [e] X.env) = [(false, eval e X.env)] := by
    rw [h1, h0]
    rfl
  refine ⟨hb, ?_, hl, ht⟩
  rw [ht, k0]
  rfl
theorem m2_of {X : Cx} {o : Expr} {m : Str} {apos cpos : Pos} {e f : Expr} (hb : attributeBase o m X.env (eval o X.env) = eval o X.env) (h1 : starEach [e, f] X.env = (false, eval e X.env) :: starEach [f] X.env) (h2 : starEach [f] X.env = (false, eval f X.env) :: starEach [] X.env) (hl : (apos.endLine == cpos.line) = true) : M2 X o m apos e f cpos := by
  have h0 : starEach [] X.env = [] := rfl
  have k0 : keywordEach [] X.env = [] := rfl
  have ht : backTo cpos (starEach [e, f] X.env) = [(false, eval e X.env), (false, eval f X.env)] := by
    rw [h1, h2, h0]
    rfl
  refine ⟨hb, ?_, hl, ht⟩
  rw [ht, k0]
  rfl
/-! ### a dict made of pairs -/
theorem valV_cons {kv : Key × V} {r : List (Key × V)} {k : Key} : valV (kv :: r) k = if kv.1 = k then some kv.2 else valV r k := by
  unfold valV
  rw [List.find?_cons]
  by_cases c : kv.1 = k
  · rw [if_pos c, decide_eq_true c]
    rfl
  · rw [if_neg c, decide_eq_false c]
theorem valV_out {k : Key} : ∀ {r : List (Key × V)}, k ∉ r.map (·.1) → valV r k = none
  | [], _ => rfl
  | kv :: r, h => by
    rw [List.map_cons, List.mem_cons, not_or] at h
    rw [valV_cons, if_neg (Ne.symm h.1)]
    exact valV_out h.2
theorem valV_mergeK : ∀ (r acc : List (Key × V)) (k : Key), (r.map (·.1)).Nodup → valV (mergeK acc r) k = (valV r k).or (valV acc k)
  | [], acc, k, _ => rfl
  | kv :: r, acc, k, h => by
    obtain ⟨h1, h2⟩ := List.nodup_cons.mp h
    have e : mergeK acc (kv :: r) = mergeK (putK acc kv.1 kv.2) r := rfl
    rw [e, valV_mergeK r _ k h2, valV_put, valV_cons]
    by_cases c : kv.1 = k
    · rw [if_pos c, if_pos c.symm, valV_out (by rw [← c]; exact h1)]
      rfl
    · rw [if_neg c, if_neg (Ne.symm c)]
/-- the pairs of a list as the entries of a dict -/
def kvsP (l : List (Nat × Nat)) : List (Key × V) := l.map fun p => (.inl (p.1 : Int), .int (p.2 : Nat))
theorem kvsP_keys (l : List (Nat × Nat)) (h : (l.map fun p => p.1).Nodup) : ((kvsP l).map (·.1)).Nodup := by
  unfold kvsP
  rw [List.map_map]
  rw [List.nodup_iff_pairwise_ne, List.pairwise_map] at h ⊢
  refine h.imp fun {p q} n e => n ?_
  have e : (Sum.inl ((p.1 : Nat) : Int) : Key) = Sum.inl ((q.1 : Nat) : Int) := e
  injection e with e
  omega
theorem kvsP_val (l : List (Nat × Nat)) (c : Nat) : valV (kvsP l) (.inl (c : Int)) = (VatdfBase.newOf l c).map fun d : Nat => V.int (d : Int) := by
  unfold VatdfBase.newOf
  induction l with
  | nil => rfl
  | cons p l ih =>
    show valV ((.inl ((p.1 : Nat) : Int), .int (p.2 : Nat)) :: kvsP l) _ = _
    rw [valV_cons, ih, List.find?_cons]
    by_cases e : p.1 = c
    · rw [if_pos (by rw [e])]
      rw [show (p.1 == c) = true from beq_iff_eq.mpr e]
      rfl
    · rw [if_neg (fun z => e (by injection z with z; omega)), show (p.1 == c) = false from beq_eq_false_iff_ne.mpr e]
theorem kvsP_not (l : List (Nat × Nat)) (z : Int) (h : ¬ ∃ p ∈ l, ((p.1 : Nat) : Int) = z) : valV (kvsP l) (.inl z) = none := by
  refine valV_out fun hm => h ?_
  unfold kvsP at hm
  rw [List.map_map] at hm
  obtain ⟨p, hp, e⟩ := List.mem_map.mp hm
  have e : (Sum.inl ((p.1 : Nat) : Int) : Key) = Sum.inl z := e
  injection e with e
  exact ⟨p, hp, e⟩
theorem dict_val (l : List (Nat × Nat)) (h : (l.map fun p => p.1).Nodup) (k : Key) : valV (mergeK [] (kvsP l)) k = valV (kvsP l) k := by
  rw [valV_mergeK _ _ _ (kvsP_keys l h)]
  cases valV (kvsP l) k <;> rfl
/-- pairs in the heap, as dict(..) reads them -/
theorem pairs_at {K : PySem.W.Frag} {H : Hp} : ∀ {l : List (Nat × Nat)} {xs : List V}, DpAll K H xs (l.map fun p => dP ((p.1 : Int), (p.2 : Int))) → ∃ ps : List Addr, xs = ps.map V.ref ∧ Paired (fun p kv => SqT K H p [kV kv.1, kv.2]) ps (kvsP l)
  | [], _, h => by
    cases h
    exact ⟨[], rfl, .nil⟩
  | p :: l, _, h => by
    cases h with
    | cons h t =>
      obtain ⟨b, rfl, hb⟩ := Dp.pair h
      obtain ⟨ps, rfl, hp⟩ := pairs_at t
      exact ⟨b :: ps, rfl, .cons hb hp⟩
end MR

namespace MR
open PySem PySem.Spec PyProof.Rows L2
theorem eqv_LLI : ∀ a b : List (List Int), PyData.eqvAll (a.map dLI) (b.map dLI) = decide (a = b)
  | [], [] => rfl
  | [], _ :: _ => rfl
  | _ :: _, [] => rfl
  | x :: a, y :: b => by
    show (PyData.eqv (dLI x) (dLI y) && PyData.eqvAll (a.map dLI) (b.map dLI)) = _
    rw [eqv_LLI a b, eqv_LI]
    by_cases h : x = y
    · subst h
      rw [decide_eq_true rfl, Bool.true_and]
      exact decide_eq_decide.mpr ⟨fun e => by rw [e], fun e => (List.cons.inj e).2⟩
    · rw [decide_eq_false h, Bool.false_and]
      exact (decide_eq_false fun e => h (List.cons.inj e).1).symm
theorem eqv_key (a b : List (List Int)) : PyData.eqv (dL dLI a) (dL dLI b) = decide (a = b) := by
  show PyData.eqv (.list (a.map dLI)) (.list (b.map dLI)) = _
  rw [PyData.eqv]
  exact eqv_LLI a b
theorem lay_keys : ∀ a : List (List (List Int)), PyData.canLayAll0 (a.map (dL dLI)) = true
  | [] => by simp [PyData.canLayAll0]
  | x :: a => by
    have h := SeqAt.canLay_of_shaped (shaped_LLI x)
    simp only [List.map_cons, PyData.canLayAll0, lay_keys a, h, Bool.and_self]
theorem depth_keys : ∀ a : List (List (List Int)), PyData.depthAll (a.map (dL dLI)) ≤ 2
  | [] => by simp [PyData.depthAll]
  | x :: a => by
    have e : (dL dLI x).depth ≤ 2 := by
      show (PyData.list (x.map dLI)).depth ≤ 2
      have := depth_LLI x
      simp only [PyData.depth]
      omega
    have ih := depth_keys a
    simp only [List.map_cons, PyData.depthAll]
    omega
theorem shaped_keys (a : List (List (List Int))) : SeqAt.shaped (dL (dL dLI) a) = true := by
  show ((PyData.list (a.map (dL dLI))).canLay0 && decide ((PyData.list (a.map (dL dLI))).depth ≤ 64)) = true
  have h := depth_keys a
  have e : (PyData.list (a.map (dL dLI))).canLay0 = true := by simp only [PyData.canLay0, lay_keys a]
  have e2 : (PyData.list (a.map (dL dLI))).depth ≤ 64 := by
    simp only [PyData.depth]
    omega
  rw [e, decide_eq_true e2]
  rfl
theorem count_key (k : List (List Int)) (l : List (List (List Int))) : ((l.map (dL dLI)).countP fun z => PyData.eqv z (dL dLI k)) = l.countP (· == k) := by
  rw [List.countP_map]
  refine countP_ext fun x _ => ?_
  show PyData.eqv (dL dLI x) (dL dLI k) = (x == k)
  rw [eqv_key]
  by_cases h : x = k
  · rw [h, decide_eq_true rfl, beq_self_eq_true]
  · rw [decide_eq_false h, beq_eq_false_iff_ne.mpr h]
section
variable {P : Program} {w : World} {K : PySem.W.Frag} {mg : Str → Option Value} {base : Heap} {f : Addr} {fd : FuncData} {C CE CT XK_ : Addr}
abbrev s_read_keys : Stmt := topS 27
theorem sc_read_keys : FnScope ["numbers", "columns", "matched", "number", "old"] ["numbers", "columns"] (defScope s_read_keys) := ⟨rfl, rfl, rfl, by decide +kernel, rfl, by decide +kernel, by decide +kernel⟩
def keysM (cols : List (Nat × Nat)) (cs : List Nat) : List (Nat × Nat) := cs.map fun c => (c, (VatdfBase.newOf cols c).getD 0)
def sp_read_keys (K : PySem.W.Frag) (C : Addr) : Sp := fun vs H Q E => ∃ (a : Addr) (y : V) (ns : List Int) (cols : List (Nat × Nat)), vs = [.ref a, y] ∧ SqL K H a (ns.map V.int) ∧ ns.length ≤ 1000 ∧ Dp K H y (dL dP (cols.map pN)) ∧ (cols.map fun p => p.1).Nodup ∧ cols.length ≤ 1000 ∧
  (Vatdfb.keysOf cols ns = none → ∀ H', Same H H' → E (.ref C) none H') ∧ ∀ cs, Vatdfb.keysOf cols ns = some cs → New K H Q (dL dP ((keysM cols cs).map pN))
theorem ok_read_keys (T : Tops mg) (C_rises : CalX P w K mg base CX0 1 "rises" (sp_rises K)) (X_NotKeys : ErrX K mg "NotKeys" C) (F : Fun K "read_keys" "read_keys" s_read_keys f fd) : FnOk P w K mg base (L2.CX P w) 2 f fd ["numbers", "columns"] (sp_read_keys K C) := by
  refine F.okX sc_read_keys (fun vs H Q E h => ?_) (fun cdv A outer s H vs Q E hr h => ⟨_, (pss_cons (ps_if (PW.pt (pw_or (pt_cmpR op_eqI (pe_callB (lenK K) (by rfl) T.n_len PySem.boot_len (pa_cons (pv 0) pa_nil)) pe_int (nomark _)) (pw_or1 (pt_not (pt_val (pe_k C_rises hr (by decide) (by rfl) (fun _ => quiet) (pa_cons (pv 0) pa_nil)))))))
   (pss_one (ps_raise rfl (takes_of rfl rfl rfl rfl) (pmk_own0 PySem.F.excBase_Exception X_NotKeys.q X_NotKeys.g X_NotKeys.kp (raises_own X_NotKeys.b X_NotKeys.t) (by rfl)))) pss_nil)
  (pss_cons (ps_set (i := 2) sc_read_keys.nd rfl (Or.inr rfl) (pe_callTy (dictK K) (by rfl) T.n_dict (by decide +kernel) (pa_cons (pv 1) pa_nil)))
  (pss_cons (ps_for (passes_of rfl) rfl (lstK K (pv 0)) (pg_name (i := 3) sc_read_keys.nd rfl (Or.inl rfl))
   (pss_one (ps_if (pt_cmp (pc_dnotin (hu_of hr) (pv 3) (pv 2)) rfl)
   (pss_one (ps_raise rfl (takes_of rfl rfl rfl rfl) (pmk_own0 PySem.F.excBase_Exception X_NotKeys.q X_NotKeys.g X_NotKeys.kp (raises_own X_NotKeys.b X_NotKeys.t) (by rfl)))) pss_nil)))
  (pss_one (ps_ret (pe_lc (own := [("old", 4)]) rfl sc_read_keys.nd (lstK K (pv 0)) (blkOk_by (N := ["numbers", "columns", "matched", "number", "old"]) (sc := defScope s_read_keys) (by decide +kernel)) (fun _ _ _ _ _ => (pg_name (i := 4) sc_read_keys.nd rfl (Or.inl rfl))) (fun _ _ _ _ _ => pts_nil) (fun _ _ _ _ _ => (pe_tup (pa_cons (pv 4) (pa_cons (pe_dget (hu_of hr) (pv 2) (pv 4) (fun _ _ => rfl)) pa_nil)))))))))), ?_⟩)
  · obtain ⟨a, y, ns, cols, rfl, _⟩ := h
    rfl
  obtain ⟨a, y, ns, cols, rfl, hs, hl, dy, hnd, hcl, hE, hQ⟩ := h
  have ellen : (ns.map V.int).length = ns.length := List.length_map _
  have cr := keys_read cols ns
  have hE : ¬ KeysOk cols ns → ∀ H', Same H H' → E (.ref C) none H' := fun nk => by
    rcases cr with ⟨z, _⟩ | ⟨_, z⟩
    · exact absurd z nk
    · exact hE z
  refine ⟨_, rfl, a, _, rfl, .inl hs, _, _, rfl, rfl, _, rfl, ?_⟩
  by_cases c0 : ns = []
  · have e0 : decide (((ns.map V.int).length : Int) = 0) = true := by rw [c0]; rfl
    rw [e0]
    exact iteT (iteT (hE (fun z => z.1 c0) H (Same.refl _)))
  have e0 : decide (((ns.map V.int).length : Int) = 0) = false := decide_eq_false fun z => c0 (List.length_eq_zero_iff.mp (by omega))
  rw [e0]
  refine iteF ⟨_, rfl, a, ns, rfl, hs, hl, fun b hb => ⟨b, rfl, ?_⟩⟩
  cases b with
  | false => exact iteT (hE (fun z => Bool.noConfusion (hb.mpr z.2.1)) H (Same.refl _))
  | true =>
  have hrise := hb.mp rfl
  rw [dP_pN] at dy
  obtain ⟨p, xs, rfl, hp, hx⟩ := Dp.list dy
  obtain ⟨ps, rfl, hps⟩ := pairs_at hx
  refine iteF ⟨_, rfl, p, ps, kvsP cols, rfl, hp, hps, fun d hd => ?_⟩
  have s1 : Same H (upd H d (.dK (mergeK [] (kvsP cols)))) := Same.made1 hd
  have hd1 : upd H d (.dK (mergeK [] (kvsP cols))) d = some (.dK (mergeK [] (kvsP cols))) := upd_same
  generalize upd H d (.dK (mergeK [] (kvsP cols))) = H1 at s1 hd1 ⊢
  have look : ∀ (z : Int) {H'}, Same H1 H' → DGet H' d (.int z) (valV (kvsP cols) (.inl z)) := fun z H' s' => by
    have e := DGet.k (k := Sum.inl z) (s' _ _ hd1)
    rw [dict_val cols hnd] at e
    exact e
  refine ⟨_, rfl, a, rfl, ⟨_, s1.seq hs⟩, for_list (K := K) (a := a) (xs := ns.map V.int) (fun i σ H' => Same H1 H' ∧ (∃ u, σ = [some (.ref a), some (.ref p), some (.ref d), u, none]) ∧ ∀ j z, j < i → ns[j]? = some z → ∃ p ∈ cols, ((p.1 : Nat) : Int) = z)
    ⟨Same.refl _, ⟨_, rfl⟩, fun j z h => absurd h (Nat.not_lt_zero _)⟩ (fun i σ H' _ q => q.1.seq (s1.seq hs)) ?_ ?_⟩
  · rintro i x σ H2 hi ⟨s2, ⟨u, rfl⟩, hall⟩
    rw [List.getElem?_map] at hi
    cases hz : ns[i]? with
    | none => rw [hz] at hi; cases hi
    | some z =>
    rw [hz] at hi
    cases hi
    refine ⟨_, rfl, _, rfl, d, _, rfl, look z s2, _, rfl, ?_⟩
    by_cases c : ∃ p ∈ cols, ((p.1 : Nat) : Int) = z
    · have es : (valV (kvsP cols) (.inl z)).isSome = true := by
        obtain ⟨q, hq, rfl⟩ := c
        rw [kvsP_val, Option.isSome_map]
        exact newOf_some.mpr ⟨q, hq, rfl⟩
      rw [es]
      refine iteF ⟨s2, ⟨_, rfl⟩, fun j y hj hy => ?_⟩
      by_cases e : j = i
      · rw [e, hz] at hy
        cases hy
        exact c
      · exact hall j y (by omega) hy
    · rw [kvsP_not cols z c]
      exact iteT (hE (fun w => c (w.2.2 z (List.mem_of_getElem? hz))) H2 (s1.trans s2))
  · rintro σ H2 ⟨s2, ⟨u, rfl⟩, hall⟩
    rw [ellen] at hall
    have ok : KeysOk cols ns := ⟨c0, hrise, fun z hz => by
      obtain ⟨j, hj⟩ := List.mem_iff_getElem?.mp hz
      exact hall j z (List.getElem?_eq_some_iff.mp hj).1 hj⟩
    obtain ⟨_, cs, ecs, ens⟩ := cr.resolve_right fun z => z.1 ok
    have s02 := s1.trans s2
    refine ⟨_, rfl, a, rfl, ⟨_, s02.seq hs⟩, fun D hD => ?_⟩
    have dns : DpAll K H2 (ns.map V.int) (cs.map fun c : Nat => dI (c : Int)) := by
      have := dint (K := K) (H := H2) ns
      rw [ens] at this ⊢
      rw [List.map_map (g := PyData.int)] at this
      exact this
    refine lc_L (K := K) (enc := fun c : Nat => dI (c : Int)) (l := cs) (fun c => some (dP (pN (c, (VatdfBase.newOf cols c).getD 0)))) (by have := congrArg List.length ens; rw [List.length_map] at this; omega) hD (s02.seq hs) dns ?_ ?_
    · intro i c x H3 acc hc s3 hacc dx Kt Kf ht hf
      cases dx
      obtain ⟨q, hq, eq⟩ := ok.2.2 (c : Int) (by rw [ens]; exact List.mem_map.mpr ⟨c, List.mem_of_getElem? hc, rfl⟩)
      have eq : q.1 = c := by omega
      obtain ⟨dd, hdd⟩ := Option.isSome_iff_exists.mp (newOf_some.mpr ⟨q, hq, eq⟩)
      have ev : valV (kvsP cols) (.inl ((c : Nat) : Int)) = some (.int (((VatdfBase.newOf cols c).getD 0 : Nat) : Int)) := by rw [kvsP_val, hdd]; rfl
      refine ⟨rfl, lc_yes ⟨_, rfl, _, rfl, _, rfl, d, _, rfl, by rw [← ev]; exact look _ (s2.trans s3), by show 2 ≤ sizeLine; decide, fun t h2 => ?_⟩⟩
      exact ht _ _ _ rfl (Same.made1 h2) (dmono (hd_nw (Same.tk s3) hacc) (.tup (.inl (.inl (nw_made h2))) (.cons (.int _) (.cons (.int _) .nil))))
    · intro H3 s3 d3
      rw [filterMap_some_map] at d3
      refine hQ cs ecs _ _ (s02.trans s3) ?_
      rw [dP_pN]
      unfold keysM
      rw [List.map_map]
      exact dmono (nw_left (Same.tk s02)) d3

abbrev s_row_keys : Stmt := topS 29
theorem sc_row_keys : FnScope ["rows", "columns", "row", "column"] ["rows", "columns"] (defScope s_row_keys) := ⟨rfl, rfl, rfl, by decide +kernel, rfl, by decide +kernel, by decide +kernel⟩
def rowKeysM (rows : List RowI) (cs : List Nat) : List (List (List Int)) := rows.map fun r => cs.map fun c => (r[c]?).getD []
def sp_row_keys (K : PySem.W.Frag) : Sp := fun vs H Q _ => ∃ (u : V) (a : Addr) (rows : List RowI) (cs : List Nat), vs = [u, .ref a] ∧ Dp K H u (dL (dL dLI) rows) ∧ SqL K H a ((cs.map Int.ofNat).map V.int) ∧ rows.length ≤ 1000 ∧ cs.length ≤ 1000 ∧ (∀ r ∈ rows, ∀ c ∈ cs, c < r.length) ∧ Ans K H Q (dL (dL dLI) (rowKeysM rows cs))
theorem ok_row_keys (T : Tops mg) (F : Fun K "row_keys" "row_keys" s_row_keys f fd) : FnOk P w K mg base CX0 1 f fd ["rows", "columns"] (sp_row_keys K) := by
  refine F.ok sc_row_keys (fun vs H Q E h => ?_) (fun cdv A outer s H vs Q E hr h => ⟨_, (pss_one (ps_ret (pe_lc (own := [("row", 2)]) rfl sc_row_keys.nd (lstK K (pv 0)) (blkOk_by (N := ["rows", "columns", "row", "column"]) (sc := defScope s_row_keys) (by decide +kernel)) (fun _ _ _ _ _ => (pg_name (i := 2) sc_row_keys.nd rfl (Or.inr rfl))) (fun _ _ _ _ _ => pts_nil) (fun _ _ _ _ _ => (pe_lc (own := [("column", 3)]) rfl sc_row_keys.nd (lstK K (pv 1)) (blkOk_by (by rfl)) (fun _ _ _ _ _ => (pg_name (i := 3) sc_row_keys.nd rfl (Or.inl rfl))) (fun _ _ _ _ _ => pts_nil) (fun _ _ _ _ _ => (pe_ix (ixL K) (pv 2) (pv 3) (fun _ _ => rfl)))))))), ?_⟩)
  · obtain ⟨u, a, rows, cs, rfl, _⟩ := h
    rfl
  obtain ⟨u, a, rows, cs, rfl, du, ha, hrl, hcl, hin, hQ⟩ := h
  obtain ⟨p, xs, rfl, hp, hx⟩ := Dp.list du
  refine ⟨_, rfl, p, rfl, ⟨xs, hp⟩, fun D hD => ?_⟩
  refine lc_LA (K := K) (enc := dL dLI) (l := rows) D (fun r => some (dL dLI (cs.map fun c => (r[c]?).getD []))) (by omega) hD hp hx ?_ ?_
  · intro i r x H2 acc hr2 s2 hacc dx Kt Kf ht hf
    have hc := hin r (List.mem_of_getElem? hr2)
    obtain ⟨pr, xr, rfl, hpr, hxr⟩ := Dp.list dx
    refine ⟨rfl, lc_yes ⟨_, rfl, a, rfl, ⟨_, s2.seq ha⟩, fun D2 hD2 => ?_⟩⟩
    have nD2 : D2 ≠ D := fun z => by rw [z, hacc] at hD2; cases hD2
    have hD20 : H D2 = none := s2.free hD2
    refine lc_LA (K := K) (enc := fun c : Nat => dI c) (l := cs) D (fun c => some (dLI ((r[c]?).getD []))) (by omega) hD2 (s2.seq ha) ?_ ?_ ?_
    · have := dmonoAll s2 (dint (K := K) (H := H) (cs.map Int.ofNat))
      rw [List.map_map (g := PyData.int)] at this
      exact this
    · intro j c x H3 acc3 hc2 s3 hacc3 dx3 Kt2 Kf2 ht2 hf2
      cases dx3
      have hcr := hc c (List.mem_of_getElem? hc2)
      obtain ⟨vc, ec, dc⟩ := DpAll.get hxr (show (r.map dLI)[c]? = some (dLI r[c]) from by rw [List.getElem?_map, List.getElem?_eq_getElem hcr]; rfl)
      have eg : (r[c]?).getD [] = r[c] := by rw [List.getElem?_eq_getElem hcr]; rfl
      refine ⟨rfl, lc_yes ⟨_, rfl, _, rfl, pr, _, _, _, rfl, rfl, (s2.trans s3).seq hpr, at_of (j := c) rfl ec, ht2 _ _ _ (by rw [eg]) (Same.refl _) ?_⟩⟩
      exact dmono (fun b o z => hd_of (ne_of_none z hD20) (hd_of (ne_of_none z hD) ((s2.trans s3) b o z))) dc
    · intro H3 acc3 s3 h3 d3
      rw [filterMap_some_map] at d3
      refine ht _ _ _ rfl s3 ?_
      have e : dL dLI (cs.map fun c => (r[c]?).getD []) = PyData.list (cs.map fun c => dLI ((r[c]?).getD [])) := by
        show PyData.list ((cs.map _).map dLI) = _
        rw [List.map_map]
        rfl
      rw [e]
      refine .lst (SqL.of (hd_of nD2 (hd_of nD2 h3))) (dmonoAll (fun b o z => ?_) d3)
      exact hd_of (hd_ne (hd_ne z).2).1 (hd_ne z).2
  · intro H2 acc2 s2 h2 d2
    rw [filterMap_some_map] at d2
    refine hQ _ _ s2 ?_
    have e : dL (dL dLI) (rowKeysM rows cs) = PyData.list (rows.map fun r => dL dLI (cs.map fun c => (r[c]?).getD [])) := by
      show PyData.list ((rowKeysM rows cs).map (dL dLI)) = _
      unfold rowKeysM
      rw [List.map_map]
      rfl
    rw [e]
    exact .lst (SqL.of h2) (dmonoAll (fun b o z => (hd_ne (hd_ne z).2).2) d2)
end
end MR

/-! The place of a least matching. -/
namespace MR
open VatdfBase (Cell Row Table Bytes Pairs)
open Vatdfb (Grid Best better nextPairs withPair noPair bestAt rowBests bestsOf bestFrom at_ kthFrom)
def LexLt (p q : Nat × Nat) : Prop := p.1 < q.1 ∨ (p.1 = q.1 ∧ p.2 < q.2)
theorem next_sorted (m n i j : Nat) : (nextPairs m n i j).Pairwise LexLt := by
  unfold nextPairs
  rw [List.pairwise_flatMap]
  refine ⟨fun p _ => ?_, ?_⟩
  · rw [List.pairwise_map]
    exact List.pairwise_lt_range.imp fun {x y} h => .inr ⟨rfl, by show j + x < j + y; omega⟩
  · refine List.pairwise_lt_range.imp fun {p q} h x hx y hy => ?_
    obtain ⟨_, _, rfl⟩ := List.mem_map.mp hx
    obtain ⟨_, _, rfl⟩ := List.mem_map.mp hy
    exact .inl (by show i + p < i + q; omega)
abbrev lexB (p q : Nat × Nat) : Bool := decide (q.1 < p.1) || (q.1 == p.1 && decide (q.2 < p.2))
theorem lexB_iff {p q : Nat × Nat} : lexB p q = true ↔ LexLt q p := by
  unfold LexLt
  simp [lexB]
/-- the ways of some pairs, added up -/
def sumW (f : Nat × Nat → Nat) (l : Pairs) : Nat := l.foldl (fun k q => k + f q) 0
theorem foldl_f (f : Nat × Nat → Nat) : ∀ (l : Pairs) (a : Nat), l.foldl (fun k q => k + f q) a = a + sumW f l
  | [], a => rfl
  | q :: l, a => by
    unfold sumW
    rw [List.foldl_cons, List.foldl_cons, foldl_f f l, foldl_f f l (0 + f q)]
    omega
theorem sumW_cons (f : Nat × Nat → Nat) (q : Nat × Nat) (l : Pairs) : sumW f (q :: l) = f q + sumW f l := by
  show (q :: l).foldl (fun k q => k + f q) 0 = _
  rw [List.foldl_cons, foldl_f]
  omega
theorem waysA_none {b : Nat → Nat → Int × Int} {f : Nat × Nat → Nat} {q : Nat × Nat} : ∀ (l : Pairs) (x : Int), (∀ p ∈ l, p ≠ q ∧ (b (p.1 + 1) (p.2 + 1)).2 = (f p : Nat)) → waysA b q l x = x + (sumW f l : Nat)
  | [], x, _ => (Int.add_zero x).symm
  | p :: l, x, h => by
    obtain ⟨h1, h2⟩ := h p List.mem_cons_self
    show (if p = q then x else waysA b q l (x + (b (p.1 + 1) (p.2 + 1)).2)) = _
    rw [if_neg h1, waysA_none l _ fun r hr => h r (List.mem_cons_of_mem _ hr), h2, sumW_cons]
    omega
theorem waysA_some {b : Nat → Nat → Int × Int} {f : Nat × Nat → Nat} {q : Nat × Nat} : ∀ (l : Pairs) (x : Int), (∀ p ∈ l, (b (p.1 + 1) (p.2 + 1)).2 = (f p : Nat)) → l.Pairwise LexLt → q ∈ l → waysA b q l x = x + (sumW f (l.filter (lexB q)) : Nat)
  | [], x, _, _, hq => absurd hq (by simp)
  | p :: l, x, h, hs, hq => by
    obtain ⟨h1, h2⟩ := List.pairwise_cons.mp hs
    show (if p = q then x else waysA b q l (x + (b (p.1 + 1) (p.2 + 1)).2)) = _
    by_cases c : p = q
    · rw [if_pos c]
      have e : (p :: l).filter (lexB q) = [] := by
        rw [List.filter_eq_nil_iff]
        intro r hr hl
        have hl := lexB_iff.mp hl
        rcases List.mem_cons.mp hr with z | z
        · rw [z, c] at hl
          unfold LexLt at hl
          omega
        · have := h1 r z
          rw [c] at this
          unfold LexLt at this hl
          omega
      rw [e]
      exact (Int.add_zero x).symm
    · have hq2 : q ∈ l := by
        rcases List.mem_cons.mp hq with z | z
        · exact absurd z.symm c
        · exact z
      rw [if_neg c, waysA_some l _ (fun r hr => h r (List.mem_cons_of_mem _ hr)) h2 hq2, List.filter_cons, if_pos (lexB_iff.mpr (h1 q hq2)), sumW_cons, h p List.mem_cons_self]
      omega
/-- the pairs with which the least ones begin, as the specification has them -/
theorem firsts_eq (g : Grid) (m n i j : Nat) : firstsM (gridI g) (bN g m n) m n i j = (nextPairs m n i j).filter fun q => (withPair g (bestsOf g m n) i j q).cost == (bestFrom (bestsOf g m n) i j).cost := by
  unfold firstsM
  rw [rows_next]
  refine List.filter_congr fun q hq => ?_
  obtain ⟨h1, h2⟩ := mem_next.mp hq
  obtain ⟨w1, _⟩ := way_eq g m n i j h1.1 h2.1
  show decide (wayCost _ _ _ _ _ _ = _) = _
  rw [w1]
  show decide (((withPair g (bestsOf g m n) i j q).cost : Int) = ((bestFrom (bestsOf g m n) i j).cost : Nat)) = _
  by_cases c : (withPair g (bestsOf g m n) i j q).cost = (bestFrom (bestsOf g m n) i j).cost
  · rw [c]
    simp
  · rw [decide_eq_false (by omega), beq_eq_false_iff_ne.mpr c]
/-- what a least matching's next pair is -/
theorem tight_next {g : Grid} {m n : Nat} {p : Nat × Nat} {l : Pairs} {i j : Nat} (h : From m n i j (p :: l)) (e : 3 * ((m - i) + (n - j) - 2 * (p :: l).length) + sumG g (p :: l) = (bestFrom (bestsOf g m n) i j).cost) :
    (withPair g (bestsOf g m n) i j p).cost = (bestFrom (bestsOf g m n) i j).cost ∧ 3 * ((m - (p.1 + 1)) + (n - (p.2 + 1)) - 2 * l.length) + sumG g l = (bestFrom (bestsOf g m n) (p.1 + 1) (p.2 + 1)).cost := by
  obtain ⟨h1, h2, h3⟩ := h
  have ih := least_from g m n l _ _ h3
  have hl := from_len h3
  have := (best_le g m n i j (by omega) (by omega)).2 p h1 h2
  have e2 : (withPair g (bestsOf g m n) i j p).cost = 3 * ((p.1 - i) + (p.2 - j)) + at_ g p.1 p.2 + (bestFrom (bestsOf g m n) (p.1 + 1) (p.2 + 1)).cost := rfl
  rw [sumG_cons, List.length_cons] at e
  omega
/-- **the place that the program tells is the specification's** -/
theorem place_eq (w : Vatdfb.Worked) (hb : w.bests = bestsOf w.grid w.m w.n) : ∀ (l : Pairs) (i j : Nat), From w.m w.n i j l → 3 * ((w.m - i) + (w.n - j) - 2 * l.length) + sumG w.grid l = (bestFrom (bestsOf w.grid w.m w.n) i j).cost →
    placeM (gridI w.grid) (bN w.grid w.m w.n) w.m w.n i j (l ++ [(w.m, w.n)]) = (Vatdfb.rankFrom w i j l : Nat)
  | [], i, j, h, e => by
    show waysA _ (w.m, w.n) _ 0 + 0 = _
    rw [firsts_eq, waysA_none (f := fun q => (withPair w.grid (bestsOf w.grid w.m w.n) i j q).many) _ _ fun p hp => ?_]
    · show (0 : Int) + _ + 0 = ((((nextPairs w.m w.n i j).filter fun q => (withPair w.grid w.bests i j q).cost == (bestFrom w.bests i j).cost).foldl (fun k q => k + (withPair w.grid w.bests i j q).many) 0 : Nat) : Int)
      rw [hb]
      show (0 : Int) + ((sumW _ _ : Nat) : Int) + 0 = ((sumW (fun q => (withPair w.grid (bestsOf w.grid w.m w.n) i j q).many) _ : Nat) : Int)
      omega
    · obtain ⟨h1, h2⟩ := mem_next.mp (List.mem_filter.mp hp).1
      refine ⟨fun z => ?_, (way_eq w.grid w.m w.n i j h1.1 h2.1).2⟩
      rw [z] at h1
      have := h1.2
      exact absurd this (Nat.lt_irrefl _)
  | p :: l, i, j, h, e => by
    obtain ⟨t1, t2⟩ := tight_next h e
    obtain ⟨h1, h2, h3⟩ := h
    have ih := place_eq w hb l (p.1 + 1) (p.2 + 1) h3 t2
    show waysA _ p _ 0 + placeM (gridI w.grid) (bN w.grid w.m w.n) w.m w.n (p.1 + 1) (p.2 + 1) (l ++ [(w.m, w.n)]) = _
    rw [ih, firsts_eq, waysA_some (f := fun q => (withPair w.grid (bestsOf w.grid w.m w.n) i j q).many) _ _ (fun q hq => ?_) ((next_sorted w.m w.n i j).filter _) (List.mem_filter.mpr ⟨mem_next.mpr ⟨h1, h2⟩, by rw [t1]; exact beq_self_eq_true _⟩)]
    · show (0 : Int) + _ + _ = (((((nextPairs w.m w.n i j).filter fun q => (withPair w.grid w.bests i j q).cost == (bestFrom w.bests i j).cost && (decide (q.1 < p.1) || (q.1 == p.1 && decide (q.2 < p.2)))).foldl (fun k q => k + (withPair w.grid w.bests i j q).many) 0) + Vatdfb.rankFrom w (p.1 + 1) (p.2 + 1) l : Nat) : Int)
      rw [hb, List.filter_filter]
      have ef : ((nextPairs w.m w.n i j).filter fun q => lexB p q && ((withPair w.grid (bestsOf w.grid w.m w.n) i j q).cost == (bestFrom (bestsOf w.grid w.m w.n) i j).cost)) = (nextPairs w.m w.n i j).filter fun q => (withPair w.grid (bestsOf w.grid w.m w.n) i j q).cost == (bestFrom (bestsOf w.grid w.m w.n) i j).cost && (decide (q.1 < p.1) || (q.1 == p.1 && decide (q.2 < p.2))) :=
        List.filter_congr fun q _ => Bool.and_comm _ _
      rw [ef]
      show (0 : Int) + ((sumW _ _ : Nat) : Int) + _ = ((sumW (fun q => (withPair w.grid (bestsOf w.grid w.m w.n) i j q).many) _ + Vatdfb.rankFrom w (p.1 + 1) (p.2 + 1) l : Nat) : Int)
      omega
    · obtain ⟨h1, h2⟩ := mem_next.mp (List.mem_filter.mp hq).1
      exact (way_eq w.grid w.m w.n i j h1.1 h2.1).2
end MR

namespace MR
open PySem PySem.Spec PyProof.Rows L2
open VatdfBase (Cell Row Table Bytes Pairs)
theorem rows_of_some {a b : Table} {x : List Int} {q : Pairs} (e : Vatdfb.rowsOf a b x = some q) : VatdfBase.okRows a.rows.length b.rows.length q = true := by
  have e : (VatdfFlat.pairsOf x).bind (fun p => if VatdfBase.okRows a.rows.length b.rows.length p then some p else none) = some q := e
  cases e1 : VatdfFlat.pairsOf x with
  | none => rw [e1] at e; cases e
  | some q' =>
    rw [e1, Option.bind_some] at e
    by_cases c : VatdfBase.okRows a.rows.length b.rows.length q' = true
    · rw [if_pos c] at e
      cases e
      exact c
    · rw [if_neg c] at e
      cases e
/-- what rank answers -/
theorem step_rank {a b : Table} {cols : Pairs} {x : List Int} {q : Pairs} (e : Vatdfb.rowsOf a b x = some q) : Vatdfb.step ⟨some (a, b), cols⟩ (.rank x) = (⟨some (a, b), cols⟩,
    if (bN (costsOf a b cols) a.rows.length b.rows.length 0 0).1 < ((Vatdfb.matchingCost (costsOf a b cols) a.rows.length b.rows.length q : Nat) : Int) then [0] else [1, placeM (gridI (costsOf a b cols)) (bN (costsOf a b cols) a.rows.length b.rows.length) a.rows.length b.rows.length 0 0 (q ++ [(a.rows.length, b.rows.length)])]) := by
  have ok := rows_of_some e
  have le := least_le (g := costsOf a b cols) ok
  show (_, match Vatdfb.rowsOf a b x with | none => [-3] | some p => if Vatdfb.isLeast (Vatdfb.work a b cols) p then [1, Vatdfb.int (Vatdfb.rankFrom (Vatdfb.work a b cols) 0 0 p)] else [0]) = _
  rw [e]
  show (_, if (VatdfBase.okRows a.rows.length b.rows.length q && Vatdfb.matchingCost (costsOf a b cols) a.rows.length b.rows.length q == (Vatdfb.bestFrom (Vatdfb.bestsOf (costsOf a b cols) a.rows.length b.rows.length) 0 0).cost) = true then [1, Vatdfb.int (Vatdfb.rankFrom (Vatdfb.work a b cols) 0 0 q)] else [0]) = _
  rw [ok, Bool.true_and]
  have e1 : (bN (costsOf a b cols) a.rows.length b.rows.length 0 0).1 = ((Vatdfb.bestFrom (Vatdfb.bestsOf (costsOf a b cols) a.rows.length b.rows.length) 0 0).cost : Nat) := rfl
  rw [e1]
  by_cases c : Vatdfb.matchingCost (costsOf a b cols) a.rows.length b.rows.length q = (Vatdfb.bestFrom (Vatdfb.bestsOf (costsOf a b cols) a.rows.length b.rows.length) 0 0).cost
  · rw [c, beq_self_eq_true, if_pos rfl, if_neg (Int.lt_irrefl _)]
    have := place_eq (Vatdfb.work a b cols) rfl q 0 0 (from_ok ok) (by
      show 3 * ((a.rows.length - 0) + (b.rows.length - 0) - 2 * q.length) + sumG (costsOf a b cols) q = (Vatdfb.bestFrom (Vatdfb.bestsOf (costsOf a b cols) a.rows.length b.rows.length) 0 0).cost
      rw [Nat.sub_zero, Nat.sub_zero]
      exact c)
    rw [show placeM (gridI (costsOf a b cols)) (bN (costsOf a b cols) a.rows.length b.rows.length) a.rows.length b.rows.length 0 0 (q ++ [(a.rows.length, b.rows.length)]) = _ from this]
    rfl
  · rw [beq_eq_false_iff_ne.mpr c, if_neg Bool.false_ne_true, if_pos (by omega)]
section
variable {P : Program} {w : World} {K : PySem.W.Frag} {mg : Str → Option Value} {base : Heap} {f : Addr} {fd : FuncData} {C CE CT CL CM CW XT XC XR XP XN : Addr}
abbrev s_answer_rank : Stmt := topS 89
theorem sc_answer_rank : FnScope ["both", "handed", "matched", "pairs"] ["both", "handed"] (defScope s_answer_rank) := ⟨rfl, rfl, rfl, by decide +kernel, rfl, by decide +kernel, by decide +kernel⟩
def sp_answer_rank (K : PySem.W.Frag) (CT CL CM CW XR XN : Addr) : Sp := fun vs H Q E => ∃ (s : Addr) (hv : V) (x : List Int) (st : Vatdfb.State), vs = [.ref s, hv] ∧ HandAt H hv [] [x] ∧ x.length ≤ 1000 ∧ StAt K CT CL CM CW H s st ∧
  (st.tables = none → Refuse E H XN) ∧ (∀ t, st.tables = some t → Vatdfb.rowsOf t.1 t.2 x = none → Refuse E H XR) ∧ Gives K CT CL CM CW H s Q (Vatdfb.step st (.rank x))
theorem ok_answer_rank (T : Tops mg) (S : MtC K CM) (ST : TabC K CT) (C_TwoTables_matched : MetX P w K mg base (L2.CX P w) 1 CW "matched" (sp_matched K CW XN)) (C_read_row_pairs : CalX P w K mg base (L2.CX P w) 3 "read_row_pairs" (sp_read_row_pairs K XR))
    (C_MatchedTables_cost_of_rows : MetX P w K mg base CX0 2 CM "cost_of_rows" (sp_cost_of_rows K CT CL CM)) (C_LeastMatchings_least_cost : MetX P w K mg base CX0 1 CL "least_cost" (sp_least_cost K CL)) (C_LeastMatchings_place_of : MetX P w K mg base CX0 4 CL "place_of" (sp_place_of K CL)) (F : Fun K "answer_rank" "answer_rank" s_answer_rank f fd) :
    FnOk P w K mg base (L2.CX P w) 5 f fd ["both", "handed"] (sp_answer_rank K CT CL CM CW XR XN) := by
  refine F.okX sc_answer_rank (fun vs H Q E h => ?_) (fun cdv A outer s H vs Q E hr h => ⟨_, (pss_cons (ps_set (i := 2) sc_answer_rank.nd rfl (Or.inl rfl) (pe_m0 (pv 0) C_TwoTables_matched hr (by decide) (loud (takes_of rfl rfl rfl rfl))))
  (pss_cons (ps_set (i := 3) sc_answer_rank.nd rfl (Or.inl rfl) (pe_k C_read_row_pairs hr (by decide) (by rfl) (loud (takes_of rfl rfl rfl rfl)) (pa_cons (pe_ix (ixL K) (pv 1) pe_int (fun _ _ => rfl)) (pa_cons (pe_callB (lenK K) (by rfl) T.n_len PySem.boot_len (pa_cons (fldK K (fldK K (pv 2))) pa_nil)) (pa_cons (pe_callB (lenK K) (by rfl) T.n_len PySem.boot_len (pa_cons (fldK K (fldK K (pv 2))) pa_nil)) pa_nil)))))
  (pss_cons (ps_if (pt_cmpR op_gt (pe_m (pv 2) C_MatchedTables_cost_of_rows hr (by decide) (fun _ => quiet) (pa_cons (pv 3) pa_nil)) (pe_m0 (fldK K (pv 2)) C_LeastMatchings_least_cost hr (by decide) (fun _ => quiet)) (nomark _))
   (pss_one (ps_ret (pe_lst (pa_cons pe_int pa_nil)))) pss_nil)
  (pss_one (ps_ret (pe_lst (pa_cons pe_int (pa_cons (pe_m (fldK K (pv 2)) C_LeastMatchings_place_of hr (by decide) (fun _ => quiet) (pa_cons (pv 3) pa_nil)) pa_nil)))))))), ?_⟩)
  · obtain ⟨s, hv, x, st, rfl, _⟩ := h
    rfl
  obtain ⟨s, hv, x, st, rfl, hh, lx, hst, hN, hC, hQ⟩ := h
  obtain ⟨hd, xs, rfl, hhd, hat⟩ := hh.lists
  obtain ⟨r1, e1, hr1⟩ := hat 0 x rfl
  obtain ⟨stt, cols⟩ := st
  cases stt with
  | none =>
    obtain ⟨dx, hs⟩ := hst
    exact ⟨_, rfl, s, dx, _, rfl, hs, rfl, s, dx, .non, rfl, hs, .inl ⟨rfl, hN rfl⟩⟩
  | some t =>
  obtain ⟨a, b⟩ := t
  have hst : TwAt K CT CL CM CW H s a b cols := hst
  obtain ⟨G, dx, h, d, o, n, y, p, l, dl, cd, wd, kc, kw, hs, X⟩ := id hst
  refine ⟨_, rfl, s, dx, _, rfl, hs, rfl, s, dx, .ref h, rfl, hs, .inr ⟨(fun z => nomatch z), ?_⟩⟩
  obtain ⟨da, pu, pv_, xu, xv, hA, hpu, hpv, lu, lv⟩ := tabLens X.ta
  obtain ⟨db, pu2, pv2, xu2, xv2, hB, hpu2, hpv2, lu2, lv2⟩ := tabLens X.tb
  refine ⟨_, rfl, hd, _, _, _, rfl, rfl, SqL.of hhd, at_of (j := 0) rfl e1, _, rfl, h, CM, d, _, _, rfl, X.ob, S.cl, S.n1, rfl, o, CT, da, _, _, rfl, hA, ST.cl, ST.n2, rfl, pv_, xv, rfl, .inl hpv, _, rfl, h, CM, d, _, _, rfl, X.ob, S.cl, S.n2, rfl, n, CT, db, _, _, rfl, hB, ST.cl, ST.n2, rfl, pv2, xv2, rfl, .inl hpv2, ?_⟩
  rw [lv, lv2]
  have cr := rows_read a.rows.length b.rows.length x
  refine ⟨r1, x, _, _, rfl, SqL.of hr1, lx, fun nok => ?_, fun ok v1 H1 s1 d1 => ?_⟩
  · rcases cr with ⟨z, _⟩ | ⟨_, z⟩
    · exact absurd z nok
    · exact hC _ rfl z
  obtain ⟨_, q, eq1, eq3⟩ := cr.resolve_right fun z => z.1 ok
  have eq2 := rows_of_some (a := a) (b := b) (x := x) eq1
  rw [eq3] at d1
  have X1 := X.same s1
  refine ⟨_, rfl, h, d, _, rfl, X1.ob, rfl, _, rfl, h, a, b, cols, d, o, n, y, p, l, dl, cd, wd, kc, kw, v1, q, rfl, X1, G, dmono nw_in d1, eq2, fun H2 s2 => ?_⟩
  have X2 := X1.same s2
  obtain ⟨t1, t2⟩ := X.td 0 0 (Nat.zero_le _) (Nat.zero_le _)
  refine ⟨_, rfl, h, CM, d, _, _, rfl, X2.ob, S.cl, S.n5, rfl, l, dl, _, rfl, X2.lm.ob, rfl, l, dl, p, _, _, _, cd, wd, kc, kw, _, rfl, X2.lm, t1, fun H3 s3 => ?_⟩
  unfold Gives at hQ
  rw [step_rank (a := a) (b := b) (x := x) eq1] at hQ
  have s03 : Same H H3 := (s1.trans s2).trans s3
  have X3 := X2.same s3
  refine ⟨_, _, rfl, rfl, _, rfl, ite_dec (c := (bN (costsOf a b cols) a.rows.length b.rows.length 0 0).1 < ((Vatdfb.matchingCost (costsOf a b cols) a.rows.length b.rows.length q : Nat) : Int)) rfl (fun c => ?_) fun c => ?_⟩
  · rw [if_pos c] at hQ
    refine ⟨by show 1 ≤ sizeLine; decide, fun D hD => ?_⟩
    exact hQ _ D (KpB.same (s03.trans (Same.made1 hD))) (Same.tk (s03.trans (Same.made1 hD))) (TwAt.same hst (s03.trans (Same.made1 hD))) (s03.free hD) upd_same
  · rw [if_neg c] at hQ
    have hlen := (rows_len eq2).1
    have hsm := G.small
    refine ⟨_, rfl, h, CM, d, _, _, rfl, X3.ob, S.cl, S.n5, rfl, l, dl, _, rfl, X3.lm.ob, rfl, _, rfl, l, dl, p, _, _, _, cd, wd, kc, kw, v1, q, bN (costsOf a b cols) a.rows.length b.rows.length, rfl, X3.lm, G.gridOk, hsm.1, hsm.2, X3.td, dmono (s2.trans s3) (dmono nw_in d1), by omega, ((okRows_iff _ _ _).mp eq2).1, fun H4 s4 => ?_⟩
    refine ⟨by show 2 ≤ sizeLine; decide, fun D hD => ?_⟩
    have s04 := s03.trans s4
    exact hQ _ D (KpB.same (s04.trans (Same.made1 hD))) (Same.tk (s04.trans (Same.made1 hD))) (TwAt.same hst (s04.trans (Same.made1 hD))) (s04.free hD) upd_same
end
end MR

namespace MR
open PySem PySem.Spec PyProof.Rows L2
open VatdfBase (Cell Row Table Bytes Pairs)
section
variable {P : Program} {w : World} {K : PySem.W.Frag} {mg : Str → Option Value} {base : Heap} {f : Addr} {fd : FuncData} {C CE CT CL CM CW XT XC XR XP XN XK_ : Addr}
theorem side_nat (g : Nat × Nat → Nat) (h : Int × Int → Int) (e : ∀ p : Nat × Nat, h (pN p) = (g p : Int)) (l : List (Nat × Nat)) : (l.map pN).map h = (l.map g).map Int.ofNat := by
  rw [List.map_map, List.map_map]
  exact List.map_congr_left fun p _ => e p
/-- where an equal key stands first -/
theorem find_key {l : List (List (List Int))} {k : List (List Int)} (h : l.countP (· == k) = 1) : l.findIdx (· == k) < l.length ∧ l[l.findIdx (· == k)]? = some k ∧ ∀ m z, m < l.findIdx (· == k) → l[m]? = some z → z ≠ k := by
  have ex : ∃ x ∈ l, (x == k) = true := List.countP_pos_iff.mp (by omega)
  have lt := List.findIdx_lt_length_of_exists ex
  refine ⟨lt, ?_, fun m z hm hz e => ?_⟩
  · have := List.findIdx_getElem (w := lt)
    rw [List.getElem?_eq_getElem lt, eq_of_beq this]
  · have h1 := List.not_of_lt_findIdx hm
    rw [List.getElem?_eq_getElem (by omega)] at hz
    rw [Option.some.inj hz, e, beq_self_eq_true] at h1
    cases h1
abbrev s_pairs_by_keys : Stmt := topS 28
theorem sc_pairs_by_keys : FnScope ["old_rows", "new_rows", "keys", "old_keys", "new_keys", "pairs", "place", "key", "old", "new"] ["old_rows", "new_rows", "keys"] (defScope s_pairs_by_keys) := ⟨rfl, rfl, rfl, by decide +kernel, rfl, by decide +kernel, by decide +kernel⟩
def sp_pairs_by_keys (K : PySem.W.Frag) : Sp := fun vs H Q _ => ∃ (u v y : V) (ra rb : List RowI) (ks : List (Nat × Nat)), vs = [u, v, y] ∧ Dp K H u (dL (dL dLI) ra) ∧ Dp K H v (dL (dL dLI) rb) ∧ Dp K H y (dL dP (ks.map pN)) ∧ ra.length ≤ 1000 ∧ rb.length ≤ 1000 ∧ ks.length ≤ 1000 ∧
  (∀ r ∈ ra, ∀ k ∈ ks, k.1 < r.length) ∧ (∀ r ∈ rb, ∀ k ∈ ks, k.2 < r.length) ∧ New K H Q (dL dP ((keyPairsM (rowKeysM ra (ks.map fun k => k.1)) (rowKeysM rb (ks.map fun k => k.2))).map pN))
theorem ok_pairs_by_keys (T : Tops mg) (C_row_keys : CalX P w K mg base CX0 1 "row_keys" (sp_row_keys K)) (F : Fun K "pairs_by_keys" "pairs_by_keys" s_pairs_by_keys f fd) : FnOk P w K mg base CX0 2 f fd ["old_rows", "new_rows", "keys"] (sp_pairs_by_keys K) := by
  refine F.ok sc_pairs_by_keys (fun vs H Q E h => ?_) (fun cdv A outer s H vs Q E hr h => ⟨_, (pss_cons (ps_set (i := 3) sc_pairs_by_keys.nd rfl (Or.inl rfl) (pe_k C_row_keys hr (by decide) (by rfl) (fun _ => quiet) (pa_cons (pv 0) (pa_cons (pe_lc (own := [("old", 8), ("new", 9)]) rfl sc_pairs_by_keys.nd (lstK K (pv 2)) (blkOk_by (N := ["old_rows", "new_rows", "keys", "old_keys", "new_keys", "pairs", "place", "key", "old", "new"]) (sc := defScope s_pairs_by_keys) (by decide +kernel)) (fun _ _ _ _ _ => (tupK K (n := 2) (pgs_cons (pg_name (i := 8) sc_pairs_by_keys.nd rfl (Or.inl rfl)) (pgs_cons (pg_name (i := 9) sc_pairs_by_keys.nd rfl (Or.inl rfl)) pgs_nil)))) (fun _ _ _ _ _ => pts_nil) (fun _ _ _ _ _ => (pv 8))) pa_nil))))
  (pss_cons (ps_set (i := 4) sc_pairs_by_keys.nd rfl (Or.inl rfl) (pe_k C_row_keys hr (by decide) (by rfl) (fun _ => quiet) (pa_cons (pv 1) (pa_cons (pe_lc (own := [("old", 8), ("new", 9)]) rfl sc_pairs_by_keys.nd (lstK K (pv 2)) (blkOk_by (N := ["old_rows", "new_rows", "keys", "old_keys", "new_keys", "pairs", "place", "key", "old", "new"]) (sc := defScope s_pairs_by_keys) (by decide +kernel)) (fun _ _ _ _ _ => (tupK K (n := 2) (pgs_cons (pg_name (i := 8) sc_pairs_by_keys.nd rfl (Or.inl rfl)) (pgs_cons (pg_name (i := 9) sc_pairs_by_keys.nd rfl (Or.inl rfl)) pgs_nil)))) (fun _ _ _ _ _ => pts_nil) (fun _ _ _ _ _ => (pv 9))) pa_nil))))
  (pss_cons (ps_set (i := 5) sc_pairs_by_keys.nd rfl (Or.inl rfl) (pe_lst pa_nil))
  (pss_cons (ps_for PassesOwn.never rfl (enumK K (by rfl) T.n_enumerate (pa_cons (pv 3) pa_nil)) (tupK K (n := 2) (pgs_cons (pg_name (i := 6) sc_pairs_by_keys.nd rfl (Or.inl rfl)) (pgs_cons (pg_name (i := 7) sc_pairs_by_keys.nd rfl (Or.inl rfl)) pgs_nil)))
   (pss_one (ps_if (PW.pt (pw_and (pt_cmpR op_eqI (pe_bm PySem.F.plainAttrs_list PySem.F.slot_list_count PySem.F.type_list_count (cntD K (units65 hr)) (pv 3) (pa_cons (pv 7) pa_nil)) pe_int (nomark _)) (pw_and1 (pt_cmpR op_eqI (pe_bm PySem.F.plainAttrs_list PySem.F.slot_list_count PySem.F.type_list_count (cntD K (units65 hr)) (pv 4) (pa_cons (pv 7) pa_nil)) pe_int (nomark _)))))
   (pss_one (ps_expr (pe_bm PySem.F.plainAttrs_list PySem.F.slot_list_append PySem.F.type_list_append mt_append (pv 5) (pa_cons (pe_tup (pa_cons (pv 6) (pa_cons (pe_bm PySem.F.plainAttrs_list PySem.F.slot_list_index PySem.F.type_list_index (idxD K (units65 hr)) (pv 4) (pa_cons (pv 7) pa_nil)) pa_nil))) pa_nil)))) pss_nil)))
  (pss_one (ps_ret (pv 5))))))), ?_⟩)
  · obtain ⟨u, v, y, ra, rb, ks, rfl, _⟩ := h
    rfl
  obtain ⟨u, v, y, ra, rb, ks, rfl, du, dv, dy, hra, hrb, hks, hia, hib, hQ⟩ := h
  obtain ⟨p, xs, rfl, hp, hx⟩ := Dp.list dy
  have lks : (ks.map pN).length < 100000 := by rw [List.length_map]; omega
  refine ⟨_, rfl, _, rfl, p, rfl, ⟨xs, hp⟩, fun D1 hD1 => lc_side (K := K) (fun r => r.1) lks hD1 hp hx (fun r t H Q Kt Kf h2 k => ⟨t, _, rfl, h2, rfl, _, _, rfl, _, _, rfl, rfl, rfl, lc_yes ⟨_, rfl, k⟩⟩) fun H1 v1 s1 d1 ev => ?_⟩
  subst ev
  rw [side_nat (fun k => k.1) (fun r => r.1) fun _ => rfl] at d1
  obtain ⟨q1, eq1, hq1⟩ := Dp.ints (dmono nw_in d1)
  cases eq1
  refine ⟨u, D1, ra, ks.map fun k => k.1, rfl, dmono s1 du, hq1, hra, by rw [List.length_map]; exact hks, fun r hr2 c hc => ?_, fun v2 H2 s2 d2 => ?_⟩
  · obtain ⟨k, hk, rfl⟩ := List.mem_map.mp hc
    exact hia r hr2 k hk
  have s02 := s1.trans s2
  refine ⟨_, rfl, _, rfl, p, rfl, ⟨xs, s02.seq hp⟩, fun D3 hD3 => lc_side (K := K) (fun r => r.2) lks hD3 (s02.seq hp) (dmonoAll s02 hx) (fun r t H Q Kt Kf h2 k => ⟨t, _, rfl, h2, rfl, _, _, rfl, _, _, rfl, rfl, rfl, lc_yes ⟨_, rfl, k⟩⟩) fun H3 v3 s3 d3 ev => ?_⟩
  subst ev
  rw [side_nat (fun k => k.2) (fun r => r.2) fun _ => rfl] at d3
  obtain ⟨q3, eq3, hq3⟩ := Dp.ints (dmono nw_in d3)
  cases eq3
  have s03 := s02.trans s3
  refine ⟨v, D3, rb, ks.map fun k => k.2, rfl, dmono s03 dv, hq3, hrb, by rw [List.length_map]; exact hks, fun r hr2 c hc => ?_, fun v4 H4 s4 d4 => ?_⟩
  · obtain ⟨k, hk, rfl⟩ := List.mem_map.mp hc
    exact hib r hr2 k hk
  have s04 := s03.trans s4
  have d2' := dmono (s3.trans s4) d2
  generalize hka : rowKeysM ra (ks.map fun k => k.1) = ka at d2' hQ
  generalize hkb : rowKeysM rb (ks.map fun k => k.2) = kb at d4 hQ
  have lka : ka.length ≤ 1000 := by rw [← hka]; unfold rowKeysM; rw [List.length_map]; exact hra
  obtain ⟨pa, xa, rfl, hpa, hxa⟩ := Dp.list d2'
  obtain ⟨pb, xb, rfl, hpb, hxb⟩ := Dp.list d4
  have lxa : xa.length = ka.length := by rw [DpAll.length hxa, List.length_map]
  refine ⟨Nat.zero_le _, fun D hD => ?_⟩
  have s5 : Same H4 (upd H4 D (.lst [])) := Same.made1 hD
  have hD5 : upd H4 D (.lst []) D = some (.lst []) := upd_same
  generalize upd H4 D (.lst []) = H5 at s5 hD5 ⊢
  have nD : H D = none := s04.free hD
  have s05 := s04.trans s5
  let fk : Nat → Option (Nat × Nat) := fun i => (ka[i]?).bind fun k => if ka.countP (· == k) = 1 ∧ kb.countP (· == k) = 1 then some (i, kb.findIdx (· == k)) else none
  refine ⟨_, rfl, pa, _, rfl, s5.seq hpa, ?_⟩
  refine for_E (K := K) (fun i σ H' => Same H4 H' ∧ ∃ (acc : List V) (x6 x7 : Option V), σ = [some u, some v, some (.ref p), some (.ref pa), some (.ref pb), some (.ref D), x6, x7, none, none] ∧ H' D = some (.lst acc) ∧ acc.length ≤ i ∧ DpAll K (hd D (nw H H')) acc (((List.range i).filterMap fk).map fun q => dP (pN q)))
    ⟨s5, [], none, none, rfl, hD5, Nat.le_refl _, .nil⟩ (fun i σ H' _ z => z.1.seq hpa) ?_ ?_
  · rintro i x σ H6 tT hi ⟨s6, acc, x6, x7, rfl, hD6, hal, hacc⟩ hT
    obtain ⟨k, hk0, dk⟩ := DpAll.item (enc := dL dLI) hxa hi
    have hik : i < ka.length := (List.getElem?_eq_some_iff.mp hk0).1
    have sT : Same H6 (upd H6 tT (.tup [.int (i : Nat), x])) := Same.made1 hT
    have hTT : upd H6 tT (.tup [.int (i : Nat), x]) tT = some (.tup [.int (i : Nat), x]) := upd_same
    refine ⟨tT, _, rfl, .inl (.inl hTT), rfl, _, _, rfl, _, _, rfl, rfl, ?_⟩
    generalize upd H6 tT (.tup [.int (i : Nat), x]) = H7 at sT hTT ⊢
    have s47 := s6.trans sT
    have dka : Dp K H7 (.ref pa) (.list (ka.map (dL dLI))) := .lst (s47.seq hpa) (dmonoAll s47 hxa)
    have dkb : Dp K H7 (.ref pb) (.list (kb.map (dL dLI))) := .lst (s47.seq hpb) (dmonoAll s47 hxb)
    have dk7 := dmono s47 dk
    have hD7 := sT _ _ hD6
    have ef : fk i = if ka.countP (· == k) = 1 ∧ kb.countP (· == k) = 1 then some (i, kb.findIdx (· == k)) else none := by
      show (ka[i]?).bind _ = _
      rw [hk0]
      rfl
    have upN : Same (hd D (nw H H6)) (hd D (nw H H7)) := fun c o e => hd_of (hd_ne e).1 (nw_right0 sT _ _ (hd_ne e).2)
    have skip : ¬ (ka.countP (· == k) = 1 ∧ kb.countP (· == k) = 1) → DpAll K (hd D (nw H H7)) acc (((List.range (i + 1)).filterMap fk).map fun q => dP (pN q)) := fun hc => by
      rw [filterMap_range_succ, ef, if_neg hc]
      show DpAll K _ acc ((((List.range i).filterMap fk) ++ []).map _)
      rw [List.append_nil]
      exact dmonoAll upN hacc
    refine ⟨_, rfl, .inl ⟨rfl, _, s47.seq hpa⟩, _, rfl, pa, x, _, _, rfl, rfl, dka, dk7, shaped_keys ka, shaped_LLI k, _, _, rfl, rfl, _, rfl, ?_⟩
    rw [count_key]
    refine ite_dec (c := ka.countP (· == k) = 1) (decide_eq_decide.mpr (by omega)) (fun c1 => ?_) (fun c1 => ?_)
    · refine ⟨_, rfl, .inl ⟨rfl, _, s47.seq hpb⟩, _, rfl, pb, x, _, _, rfl, rfl, dkb, dk7, shaped_keys kb, shaped_LLI k, _, _, rfl, rfl, _, rfl, ?_⟩
      rw [count_key]
      refine ite_dec (c := kb.countP (· == k) = 1) (decide_eq_decide.mpr (by omega)) (fun c2 => ?_) (fun c2 => ?_)
      · obtain ⟨g1, g2, g3⟩ := find_key c2
        refine ⟨_, rfl, .inl ⟨rfl, _, SqL.of hD7⟩, _, rfl, _, rfl, .inl ⟨rfl, _, s47.seq hpb⟩, _, rfl, pb, x, dL dLI k, _, kb.findIdx (· == k), dL dLI k, rfl, rfl, dkb, dk7, shaped_keys kb, shaped_LLI k, ?_, ?_, fun m z' hm hz => ?_, by show 2 ≤ sizeLine; decide, fun t ht => ?_⟩
        · rw [List.getElem?_map, g2]
          rfl
        · rw [eqv_key]
          exact decide_eq_true rfl
        · rw [List.getElem?_map] at hz
          cases hm2 : kb[m]? with
          | none => rw [hm2] at hz; cases hz
          | some z =>
            rw [hm2] at hz
            cases hz
            rw [eqv_key]
            exact decide_eq_false (g3 m z hm hm2)
        have s8 : Same H7 (upd H7 t (.tup [.int (i : Nat), .int (kb.findIdx (· == k) : Nat)])) := Same.made1 ht
        have ht8 : upd H7 t (.tup [.int (i : Nat), .int (kb.findIdx (· == k) : Nat)]) t = some (.tup [.int (i : Nat), .int (kb.findIdx (· == k) : Nat)]) := upd_same
        have tD : t ≠ D := fun z => by rw [z, hD7] at ht; cases ht
        have nt : H t = none := (s04.trans s47).free ht
        generalize upd H7 t (.tup [.int (i : Nat), .int (kb.findIdx (· == k) : Nat)]) = H8 at s8 ht8 ⊢
        refine ⟨D, acc, _, rfl, rfl, s8 _ _ hD7, by have : (2000 : Nat) ≤ sizeLine := (by decide); omega, ?_⟩
        have k9 : ∀ c o, H7 c = some o → c ≠ D → upd H8 D (.lst (acc ++ [.ref t])) c = some o := fun c o e nc => by
          rw [upd_ne nc]
          exact s8 _ _ e
        refine ⟨fun c o e => k9 c o (s47 _ _ e) (ne_of_none e hD), acc ++ [.ref t], _, _, rfl, upd_same, by rw [List.length_append, List.length_singleton]; omega, ?_⟩
        rw [filterMap_range_succ, ef, if_pos ⟨c1, c2⟩, List.map_append]
        refine DpAll.snoc (dmonoAll (fun c o e => hd_of (hd_ne (upN c o e)).1 (nw_of (nw_some (hd_ne (upN c o e)).2).1 (k9 c o (nw_some (hd_ne (upN c o e)).2).2 (hd_ne (upN c o e)).1))) hacc) ?_
        exact .tup (.inl (.inl (hd_of tD (nw_of nt ((upd_ne tD).trans ht8))))) (.cons (.int _) (.cons (.int _) .nil))
      · exact ⟨s47, acc, _, _, rfl, hD7, by omega, skip fun z => c2 z.2⟩
    · exact iteF ⟨s47, acc, _, _, rfl, hD7, by omega, skip fun z => c1 z.1⟩
  · rintro σ H6 ⟨s6, acc, x6, x7, rfl, hD6, hal, hacc⟩
    rw [lxa] at hacc
    refine ⟨_, rfl, hQ _ _ (s04.trans s6) ?_⟩
    rw [dP_pN]
    exact .lst (.inl (.inl (nw_of nD hD6))) (dmonoAll hd_in hacc)
end
end MR

namespace MR
open PySem PySem.Spec PyProof.Rows L2
open VatdfBase (Cell Row Table Bytes Pairs)
/-- the keys of a table's rows, as the program tells them -/
theorem rowKeys_eq {t : Table} (g : VatdfBase.isTable t = true) {cs : List Nat} (hc : ∀ c ∈ cs, c < t.names.length) : rowKeysM (rowsI t) cs = ((List.range t.rows.length).map fun i => Vatdfb.keyOf t i cs).map (fun k => k.map VatdfFlat.flatCell) := by
  unfold rowKeysM rowsI
  rw [List.map_map, List.map_map]
  symm
  refine map_range t.rows _ _ fun i r hr => ?_
  show (Vatdfb.keyOf t i cs).map VatdfFlat.flatCell = cs.map fun c => ((r.map VatdfFlat.flatCell)[c]?).getD []
  unfold Vatdfb.keyOf
  rw [List.map_map]
  refine List.map_congr_left fun c hcm => ?_
  have hl : r.length = t.names.length := square_of g r (List.mem_of_getElem? hr)
  rw [cell_at hr (by rw [hl]; exact hc c hcm)]
  rfl
theorem mapCell_inj {a b : List Cell} (h : a.map VatdfFlat.flatCell = b.map VatdfFlat.flatCell) : a = b := map_inj (fun e => flatCell_inj e) h
theorem keys_in {a b : Table} {cols : Pairs} (G : Good a b cols) {x : List Int} {cs : List Nat} (e : Vatdfb.keysOf cols x = some cs) : ∀ c ∈ cs, c < a.names.length ∧ (VatdfBase.newOf cols c).getD 0 < b.names.length := by
  intro c hc
  rcases keys_read cols x with ⟨ok, cs', e', ens⟩ | ⟨_, e'⟩
  · rw [e] at e'
    cases e'
    obtain ⟨p, hp, ep⟩ := ok.2.2 (c : Int) (by rw [ens]; exact List.mem_map.mpr ⟨c, hc, rfl⟩)
    have ep : p.1 = c := by omega
    refine ⟨by rw [← ep]; exact (G.in p hp).1, ?_⟩
    obtain ⟨d, hd⟩ := Option.isSome_iff_exists.mp (newOf_some.mpr ⟨p, hp, ep⟩)
    rw [hd]
    unfold VatdfBase.newOf at hd
    obtain ⟨q, hq, rfl⟩ := Option.map_eq_some_iff.mp hd
    exact (G.in q (List.mem_of_find?_eq_some hq)).2
  · rw [e] at e'
    cases e'
theorem keyPairs_prog {a b : Table} {cols : Pairs} (G : Good a b cols) {x : List Int} {cs : List Nat} (e : Vatdfb.keysOf cols x = some cs) : keyPairsM (rowKeysM (rowsI a) cs) (rowKeysM (rowsI b) (cs.map fun c => (VatdfBase.newOf cols c).getD 0)) = Vatdfb.keyPairs a b cols cs := by
  have hin := keys_in G e
  rw [keyPairs_eq, rowKeys_eq G.oa fun c hc => (hin c hc).1, rowKeys_eq G.ob fun d hd => ?_]
  · exact keyPairsM_map (f := fun k : List Cell => k.map VatdfFlat.flatCell) (fun e => mapCell_inj e) _ _
  · obtain ⟨c, hc, rfl⟩ := List.mem_map.mp hd
    exact (hin c hc).2
theorem keyPairs_good {a b : Table} {cols : Pairs} {cs : List Nat} : (∀ p ∈ Vatdfb.keyPairs a b cols cs, p.1 < a.rows.length ∧ p.2 < b.rows.length) ∧ (Vatdfb.keyPairs a b cols cs).Pairwise (fun p q => p.1 < q.1) := by
  rw [keyPairs_eq]
  have h := keyPairs_ok (ka := (List.range a.rows.length).map fun i => Vatdfb.keyOf a i cs) (kb := (List.range b.rows.length).map fun j => Vatdfb.keyOf b j (cs.map fun c => (VatdfBase.newOf cols c).getD 0))
  rw [List.length_map, List.length_map, List.length_range, List.length_range] at h
  exact h
/-- what keyed answers -/
theorem step_keyed {a b : Table} {cols : Pairs} {x : List Int} {cs : List Nat} (e : Vatdfb.keysOf cols x = some cs) : Vatdfb.step ⟨some (a, b), cols⟩ (.keyed x) = (⟨some (a, b), cols⟩,
    toldPairs ((Vatdfb.keyPairs a b cols cs).map pN) ++ [((Vatdfb.keyPairs a b cols cs).length : Int) - ((Vatdfb.longestRising (Vatdfb.keyPairs a b cols cs)).length : Int), ((Vatdfb.matchingCost (costsOf a b cols) a.rows.length b.rows.length (Vatdfb.longestRising (Vatdfb.keyPairs a b cols cs)) : Nat) : Int)] ++
      toldPairs ((Vatdfb.longestRising (Vatdfb.keyPairs a b cols cs)).map pN)) := by
  show (_, match Vatdfb.keysOf cols x with | none => [-2] | some cs => VatdfFlat.flatPairs (Vatdfb.keyPairs a b cols cs) ++ (Vatdfb.int (Vatdfb.outOfOrder (Vatdfb.keyPairs a b cols cs)) :: Vatdfb.int (Vatdfb.matchingCost (costsOf a b cols) a.rows.length b.rows.length (Vatdfb.longestRising (Vatdfb.keyPairs a b cols cs))) :: VatdfFlat.flatPairs (Vatdfb.longestRising (Vatdfb.keyPairs a b cols cs)))) = _
  rw [e]
  show (_, VatdfFlat.flatPairs (Vatdfb.keyPairs a b cols cs) ++ (Vatdfb.int (Vatdfb.outOfOrder (Vatdfb.keyPairs a b cols cs)) :: Vatdfb.int (Vatdfb.matchingCost (costsOf a b cols) a.rows.length b.rows.length (Vatdfb.longestRising (Vatdfb.keyPairs a b cols cs))) :: VatdfFlat.flatPairs (Vatdfb.longestRising (Vatdfb.keyPairs a b cols cs)))) = _
  rw [toldPairs_pN, toldPairs_pN, List.append_assoc]
  have hl := longestRising_len (Vatdfb.keyPairs a b cols cs)
  have hle := longest_le ((Vatdfb.keyPairs a b cols cs).map fun p => p.2)
  rw [List.length_map] at hle
  have eo : Vatdfb.int (Vatdfb.outOfOrder (Vatdfb.keyPairs a b cols cs)) = ((Vatdfb.keyPairs a b cols cs).length : Int) - ((Vatdfb.longestRising (Vatdfb.keyPairs a b cols cs)).length : Int) := by
    show (((Vatdfb.keyPairs a b cols cs).length - VatdfBase.longest ((Vatdfb.keyPairs a b cols cs).map fun p => p.2) : Nat) : Int) = _
    rw [hl]
    omega
  rw [eo]
  rfl
section
variable {P : Program} {w : World} {K : PySem.W.Frag} {mg : Str → Option Value} {base : Heap} {f : Addr} {fd : FuncData} {C CE CT CL CM CW XT XC XR XP XN XK_ : Addr}
abbrev s_answer_keyed : Stmt := topS 87
theorem sc_answer_keyed : FnScope ["both", "handed", "matched", "keys", "pairs", "part"] ["both", "handed"] (defScope s_answer_keyed) := ⟨rfl, rfl, rfl, by decide +kernel, rfl, by decide +kernel, by decide +kernel⟩
def sp_answer_keyed (K : PySem.W.Frag) (CT CL CM CW XK_ XN : Addr) : Sp := fun vs H Q E => ∃ (s : Addr) (hv : V) (x : List Int) (st : Vatdfb.State), vs = [.ref s, hv] ∧ HandAt H hv [] [x] ∧ x.length ≤ 1000 ∧ StAt K CT CL CM CW H s st ∧
  (st.tables = none → Refuse E H XN) ∧ (st.tables ≠ none → Vatdfb.keysOf st.cols x = none → Refuse E H XK_) ∧ Gives K CT CL CM CW H s Q (Vatdfb.step st (.keyed x))
theorem ok_answer_keyed (T : Tops mg) (S : MtC K CM) (ST : TabC K CT) (C_TwoTables_matched : MetX P w K mg base (L2.CX P w) 1 CW "matched" (sp_matched K CW XN)) (C_read_keys : CalX P w K mg base (L2.CX P w) 2 "read_keys" (sp_read_keys K XK_))
    (C_pairs_by_keys : CalX P w K mg base CX0 2 "pairs_by_keys" (sp_pairs_by_keys K)) (C_first_longest_part : CalX P w K mg base CX0 2 "first_longest_part" (sp_first_longest_part K)) (C_told_pairs : CalX P w K mg base CX0 1 "told_pairs" (sp_told_pairs K))
    (C_MatchedTables_cost_of_rows : MetX P w K mg base CX0 2 CM "cost_of_rows" (sp_cost_of_rows K CT CL CM)) (F : Fun K "answer_keyed" "answer_keyed" s_answer_keyed f fd) :
    FnOk P w K mg base (L2.CX P w) 3 f fd ["both", "handed"] (sp_answer_keyed K CT CL CM CW XK_ XN) := by
  refine F.okX sc_answer_keyed (fun vs H Q E h => ?_) (fun cdv A outer s H vs Q E hr h => ⟨_, (pss_cons (ps_set (i := 2) sc_answer_keyed.nd rfl (Or.inl rfl) (pe_m0 (pv 0) C_TwoTables_matched hr (by decide) (loud (takes_of rfl rfl rfl rfl))))
  (pss_cons (ps_set (i := 3) sc_answer_keyed.nd rfl (Or.inl rfl) (pe_k C_read_keys hr (by decide) (by rfl) (loud (takes_of rfl rfl rfl rfl)) (pa_cons (pe_ix (ixL K) (pv 1) pe_int (fun _ _ => rfl)) (pa_cons (fldK K (pv 2)) pa_nil))))
  (pss_cons (ps_set (i := 4) sc_answer_keyed.nd rfl (Or.inl rfl) (pe_k C_pairs_by_keys hr (by decide) (by rfl) (fun _ => quiet) (pa_cons (fldK K (fldK K (pv 2))) (pa_cons (fldK K (fldK K (pv 2))) (pa_cons (pv 3) pa_nil)))))
  (pss_cons (ps_set (i := 5) sc_answer_keyed.nd rfl (Or.inl rfl) (pe_k C_first_longest_part hr (by decide) (by rfl) (fun _ => quiet) (pa_cons (pv 4) pa_nil)))
  (pss_one (ps_ret (pe_op (catK K) (pe_op (catK K) (pe_k C_told_pairs hr (by decide) (by rfl) (fun _ => quiet) (pa_cons (pv 4) pa_nil)) (pe_lst (pa_cons (pe_op op_sub (pe_callB (lenK K) (by rfl) T.n_len PySem.boot_len (pa_cons (pv 4) pa_nil)) (pe_callB (lenK K) (by rfl) T.n_len PySem.boot_len (pa_cons (pv 5) pa_nil))) (pa_cons (pe_m (pv 2) C_MatchedTables_cost_of_rows hr (by decide) (fun _ => quiet) (pa_cons (pv 5) pa_nil)) pa_nil)))) (pe_k C_told_pairs hr (by decide) (by rfl) (fun _ => quiet) (pa_cons (pv 5) pa_nil))))))))), ?_⟩)
  · obtain ⟨s, hv, x, st, rfl, _⟩ := h
    rfl
  obtain ⟨s, hv, x, st, rfl, hh, lx, hst, hN, hC, hQ⟩ := h
  obtain ⟨hd, xs, rfl, hhd, hat⟩ := hh.lists
  obtain ⟨r1, e1, hr1⟩ := hat 0 x rfl
  obtain ⟨stt, cols⟩ := st
  cases stt with
  | none =>
    obtain ⟨dx, hs⟩ := hst
    exact ⟨_, rfl, s, dx, _, rfl, hs, rfl, s, dx, .non, rfl, hs, .inl ⟨rfl, hN rfl⟩⟩
  | some t =>
  obtain ⟨a, b⟩ := t
  have hst : TwAt K CT CL CM CW H s a b cols := hst
  obtain ⟨G, dx, h, d, o, n, y, p, l, dl, cd, wd, kc, kw, hs, X⟩ := id hst
  have hsm := G.small
  have hcl := G.len
  refine ⟨_, rfl, s, dx, _, rfl, hs, rfl, s, dx, .ref h, rfl, hs, .inr ⟨(fun z => nomatch z), ?_⟩⟩
  refine ⟨_, rfl, hd, _, _, _, rfl, rfl, SqL.of hhd, at_of (j := 0) rfl e1, _, rfl, h, CM, d, _, _, rfl, X.ob, S.cl, S.n3, rfl, r1, y, x, cols, rfl, SqL.of hr1, lx, X.dy, ((okCols_iff _ _ _).mp G.oc).2.2, by omega, fun nok => hC (fun z => nomatch z) nok, fun cs ecs v1 H1 s1 d1 => ?_⟩
  have hin := keys_in G ecs
  have X1 := X.same s1
  obtain ⟨dxa, ua, va, hA, dua, dva⟩ := id X1.ta.ex
  obtain ⟨dxb, ub, vb, hB, dub, dvb⟩ := id X1.tb.ex
  have tA := tabOk G.oa
  have tB := tabOk G.ob
  have lcs : cs.length ≤ 1000 := by
    rcases keys_read cols x with ⟨_, cs', e', ens⟩ | ⟨_, e'⟩
    · rw [ecs] at e'
      cases e'
      have := congrArg List.length ens
      rw [List.length_map] at this
      omega
    · rw [ecs] at e'
      cases e'
  have k1 : (keysM cols cs).map (fun k => k.1) = cs := by unfold keysM; rw [List.map_map]; exact List.map_id cs
  have k2 : (keysM cols cs).map (fun k => k.2) = cs.map fun c => (VatdfBase.newOf cols c).getD 0 := by unfold keysM; rw [List.map_map]; rfl
  refine ⟨_, rfl, h, CM, d, _, _, rfl, X1.ob, S.cl, S.n1, rfl, o, CT, dxa, _, _, rfl, hA, ST.cl, ST.n2, rfl, _, rfl, h, CM, d, _, _, rfl, X1.ob, S.cl, S.n2, rfl, n, CT, dxb, _, _, rfl, hB, ST.cl, ST.n2, rfl, _, rfl, va, vb, v1, rowsI a, rowsI b, keysM cols cs, rfl, dva, dvb, dmono nw_in d1, by rw [rowsI_len]; omega, by rw [rowsI_len]; omega, by unfold keysM; rw [List.length_map]; exact lcs, fun r hr2 k hk => ?_, fun r hr2 k hk => ?_, fun v2 H2 s2 d2 => ?_⟩
  · obtain ⟨c, hc, rfl⟩ := List.mem_map.mp hk
    rw [tA.rl r hr2, namesI_len]
    exact (hin c hc).1
  · obtain ⟨c, hc, rfl⟩ := List.mem_map.mp hk
    rw [tB.rl r hr2, namesI_len]
    exact (hin c hc).2
  rw [k1, k2, keyPairs_prog G ecs] at d2
  obtain ⟨hkin, hkp⟩ := keyPairs_good (a := a) (b := b) (cols := cols) (cs := cs)
  have hQ0 := hQ
  unfold Gives at hQ0
  rw [step_keyed ecs] at hQ0
  have hok := part_ok hkin hkp
  have llr := longestRising_len (Vatdfb.keyPairs a b cols cs)
  have lle := longest_le ((Vatdfb.keyPairs a b cols cs).map fun p => p.2)
  rw [List.length_map] at lle
  have lkp : (Vatdfb.keyPairs a b cols cs).length ≤ 100 := by
    rw [keyPairs_eq]
    have := List.length_filterMap_le (fun i => (((List.range a.rows.length).map fun i => Vatdfb.keyOf a i cs)[i]?).bind fun k => if ((List.range a.rows.length).map fun i => Vatdfb.keyOf a i cs).countP (· == k) = 1 ∧ ((List.range b.rows.length).map fun j => Vatdfb.keyOf b j (cs.map fun c => (VatdfBase.newOf cols c).getD 0)).countP (· == k) = 1 then some (i, ((List.range b.rows.length).map fun j => Vatdfb.keyOf b j (cs.map fun c => (VatdfBase.newOf cols c).getD 0)).findIdx (· == k)) else none) (List.range ((List.range a.rows.length).map fun i => Vatdfb.keyOf a i cs).length)
    rw [List.length_range, List.length_map, List.length_range] at this
    have h2 := hsm.1
    unfold keyPairsM
    rw [List.length_map, List.length_range]
    omega
  generalize Vatdfb.keyPairs a b cols cs = kp at *
  have dk2 := dmono (nw_in (H := H1)) d2
  refine ⟨_, rfl, v2, kp, rfl, dk2, by omega, fun v3 H3 s3 d3 => ?_⟩
  have dk3 := dmono s3 dk2
  have sz : (5000 : Nat) ≤ sizeLine := by decide
  have s03 := (s1.trans s2).trans s3
  -- what is told
  refine ⟨_, rfl, v2, kp.map pN, rfl, dk3, by rw [List.length_map]; omega, fun p4 H4 s4 n4 h4 => ?_⟩
  have dk4 := dmono s4 dk3
  have dl4 := dmono s4 d3
  rw [dP_pN] at dk4
  obtain ⟨pk, xk, rfl, hpk, hxk⟩ := Dp.list dk4
  have dl4' := dl4
  rw [dP_pN] at dl4'
  obtain ⟨pl, xl, rfl, hpl, hxl⟩ := Dp.list dl4'
  have lxk : xk.length = kp.length := by rw [DpAll.length hxk, List.length_map]
  have lxl : xl.length = (Vatdfb.longestRising kp).length := by rw [DpAll.length hxl, List.length_map]
  have X4 := X.same (s03.trans s4)
  refine ⟨_, rfl, pk, xk, rfl, .inl hpk, _, rfl, pl, xl, rfl, .inl hpl, _, _, rfl, rfl, _, rfl, h, d, _, rfl, X4.ob, rfl, _, rfl, h, a, b, cols, d, o, n, y, p, l, dl, cd, wd, kc, kw, .ref pl, Vatdfb.longestRising kp, rfl, X4, G, dl4, hok, fun H5 s5 => ?_⟩
  refine ⟨by show 2 ≤ sizeLine; decide, fun D5 hD5 => ?_⟩
  rw [lxk, lxl]
  have l1 : ((toldPairs (kp.map pN)).map V.int).length ≤ 300 := by rw [List.length_map, toldPairs_len, List.length_map]; omega
  have l2 : ((toldPairs ((Vatdfb.longestRising kp).map pN)).map V.int).length ≤ 300 := by rw [List.length_map, toldPairs_len, List.length_map]; omega
  generalize hM : [V.int ((kp.length : Int) - ((Vatdfb.longestRising kp).length : Int)), V.int ((Vatdfb.matchingCost (costsOf a b cols) a.rows.length b.rows.length (Vatdfb.longestRising kp) : Nat) : Int)] = M at *
  have lM : M.length = 2 := by rw [← hM]; rfl
  have s6 : Same H5 (upd H5 D5 (.lst M)) := Same.made1 hD5
  have hD6 : upd H5 D5 (.lst M) D5 = some (.lst M) := upd_same
  generalize upd H5 D5 (.lst M) = H6 at s6 hD6 ⊢
  refine ⟨p4, D5, _, _, rfl, rfl, SqL.of (s6 _ _ (s5 _ _ h4)), SqL.of hD6, by omega, fun D7 hD7 => ?_⟩
  have s7 : Same H6 (upd H6 D7 (.lst ((toldPairs (kp.map pN)).map V.int ++ M))) := Same.made1 hD7
  have hD77 : upd H6 D7 (.lst ((toldPairs (kp.map pN)).map V.int ++ M)) D7 = some (.lst ((toldPairs (kp.map pN)).map V.int ++ M)) := upd_same
  generalize upd H6 D7 (.lst ((toldPairs (kp.map pN)).map V.int ++ M)) = H7 at s7 hD77 ⊢
  have s47 := (s5.trans s6).trans s7
  refine ⟨_, rfl, .ref pl, (Vatdfb.longestRising kp).map pN, rfl, dmono s47 dl4, by rw [List.length_map]; omega, fun p8 H8 s8 n8 h8 => ?_⟩
  refine ⟨D7, p8, _, _, rfl, rfl, SqL.of (s8 _ _ hD77), SqL.of h8, by rw [List.length_append]; omega, fun R hR => ?_⟩
  have s08 : Same H H8 := ((s03.trans s4).trans s47).trans s8
  have s09 := s08.trans (Same.made1 (o := .lst (((toldPairs (kp.map pN)).map V.int ++ M) ++ (toldPairs ((Vatdfb.longestRising kp).map pN)).map V.int)) hR)
  refine hQ0 _ R (KpB.same s09) (Same.tk s09) (TwAt.same hst s09) (s08.free hR) ?_
  rw [upd_same, List.map_append, List.map_append, ← hM]
  rfl
end
end MR

/-! The rows ahead: the bests of the grid turned upside down keep the same recurrence the other way. -/
namespace MR
open VatdfBase (Cell Row Table Bytes Pairs)
open Vatdfb (Grid Best better nextPairs withPair noPair bestAt rowBests bestsOf bestFrom at_ kthFrom)
/-- the best of some: its cost, by how many -/
structure BestOf (b b0 : Best) (l : List Best) : Prop where
  le0 : b.cost ≤ b0.cost
  le : ∀ x ∈ l, b.cost ≤ x.cost
  at_ : b.cost = b0.cost ∨ ∃ x ∈ l, b.cost = x.cost
  many : b.many = manyAt b.cost b0 + sumAt b.cost l
theorem fold_at : ∀ (l : List Best) (b : Best), (l.foldl better b).cost = b.cost ∨ ∃ x ∈ l, (l.foldl better b).cost = x.cost
  | [], b => .inl rfl
  | a :: l, b => by
    rw [List.foldl_cons]
    rcases fold_at l (better b a) with h | ⟨x, hx, h⟩
    · rw [h]
      unfold better
      split
      · exact .inl rfl
      · split
        · exact .inr ⟨a, List.mem_cons_self, rfl⟩
        · exact .inl rfl
    · exact .inr ⟨x, List.mem_cons_of_mem _ hx, h⟩
theorem bestOf_fold (b : Best) (l : List Best) : BestOf (l.foldl better b) b l := by
  obtain ⟨h1, h2, h3⟩ := fold_better l b
  exact ⟨h1, h2, fold_at l b, h3⟩
theorem BestOf.uniq {b b' b0 : Best} {l : List Best} (x : BestOf b b0 l) (y : BestOf b' b0 l) : b = b' := by
  have e : b.cost = b'.cost := by
    apply Nat.le_antisymm
    · rcases y.at_ with h | ⟨z, hz, h⟩
      · rw [h]
        exact x.le0
      · rw [h]
        exact x.le z hz
    · rcases x.at_ with h | ⟨z, hz, h⟩
      · rw [h]
        exact y.le0
      · rw [h]
        exact y.le z hz
  have m := x.many
  rw [e, ← y.many] at m
  obtain ⟨c, k⟩ := b
  obtain ⟨c', k'⟩ := b'
  have e : c = c' := e
  have m : k = k' := m
  rw [e, m]
theorem sumAt_append (c : Nat) : ∀ (l k : List Best), sumAt c (l ++ k) = sumAt c l + sumAt c k
  | [], k => (Nat.zero_add _).symm
  | b :: l, k => by
    show manyAt c b + sumAt c (l ++ k) = manyAt c b + sumAt c l + sumAt c k
    rw [sumAt_append c l k]
    omega
theorem sumAt_reverse (c : Nat) : ∀ l : List Best, sumAt c l.reverse = sumAt c l
  | [] => rfl
  | b :: l => by
    rw [List.reverse_cons, sumAt_append, sumAt_reverse c l]
    show sumAt c l + (manyAt c b + 0) = manyAt c b + sumAt c l
    omega
theorem BestOf.reverse {b b0 : Best} {l : List Best} (x : BestOf b b0 l) : BestOf b b0 l.reverse :=
  ⟨x.le0, fun y hy => x.le y (List.mem_reverse.mp hy), x.at_.imp id fun ⟨z, hz, h⟩ => ⟨z, List.mem_reverse.mpr hz, h⟩, by rw [sumAt_reverse]; exact x.many⟩
/-- the bests from behind -/
theorem best_of (g : Grid) (m n i j : Nat) (hi : i ≤ m) (hj : j ≤ n) : BestOf (bestFrom (bestsOf g m n) i j) (noPair m n i j) ((nextPairs m n i j).map (withPair g (bestsOf g m n) i j)) := by
  have e : bestFrom (bestsOf g m n) i j = ((nextPairs m n i j).map (withPair g (bestsOf g m n) i j)).foldl better (noPair m n i j) := by
    rw [best_eq g m n i j hi hj]
    unfold bestAt
    rw [List.foldl_map]
  rw [e]
  exact bestOf_fold _ _
/-! ### Upside down -/
def upG (g : Grid) : Grid := (g.map fun r => r.reverse).reverse
structure Dims (g : Grid) (m n : Nat) : Prop where
  r : g.length = m
  c : ∀ r ∈ g, r.length = n
theorem at_up {g : Grid} {m n i j : Nat} (d : Dims g m n) (hi : i < m) (hj : j < n) : at_ (upG g) i j = at_ g (m - 1 - i) (n - 1 - j) := by
  unfold at_ upG
  have hg : (g.map fun r => r.reverse).length = m := by rw [List.length_map, d.r]
  rw [List.getElem?_reverse (by rw [hg]; exact hi), hg, List.getElem?_map]
  have hi2 : m - 1 - i < g.length := by rw [d.r]; omega
  rw [List.getElem?_eq_getElem hi2]
  show ((g[m - 1 - i].reverse)[j]?).getD 0 = ((g[m - 1 - i])[n - 1 - j]?).getD 0
  have hn := d.c _ (List.getElem_mem hi2)
  rw [List.getElem?_reverse (by rw [hn]; exact hj), hn]
theorem range_rev (n : Nat) : (List.range n).reverse = (List.range n).map fun k => n - 1 - k := by
  refine List.ext_getElem (by simp) fun i h1 h2 => ?_
  rw [List.getElem_reverse, List.getElem_map, List.getElem_range, List.getElem_range, List.length_range]
theorem map_range_ext {α : Type} {f g : Nat → α} {n : Nat} (h : ∀ k, k < n → f k = g k) : (List.range n).map f = (List.range n).map g := List.map_congr_left fun k hk => h k (List.mem_range.mp hk)
theorem flatMap_ext {α β : Type} {f g : α → List β} : ∀ {l : List α}, (∀ a ∈ l, f a = g a) → l.flatMap f = l.flatMap g
  | [], _ => rfl
  | a :: l, h => by
    rw [List.flatMap_cons, List.flatMap_cons, h a List.mem_cons_self, flatMap_ext fun b hb => h b (List.mem_cons_of_mem _ hb)]
theorem flatMap_rev {α β : Type} (f : α → List β) : ∀ l : List α, (l.flatMap f).reverse = l.reverse.flatMap fun a => (f a).reverse
  | [] => rfl
  | a :: l => by
    rw [List.flatMap_cons, List.reverse_append, flatMap_rev f l, List.reverse_cons, List.flatMap_append]
    congr 1
    show (f a).reverse = (f a).reverse ++ []
    rw [List.append_nil]
theorem next_turn {m n i j : Nat} (hi : i ≤ m) (hj : j ≤ n) : (nextPairs m n (m - i) (n - j)).map (fun p => (m - 1 - p.1, n - 1 - p.2)) = (nextPairs i j 0 0).reverse := by
  unfold nextPairs
  rw [flatMap_rev, List.map_flatMap, show m - (m - i) = i from by omega, show n - (n - j) = j from by omega, Nat.sub_zero, Nat.sub_zero, range_rev i, List.flatMap_map]
  refine flatMap_ext fun p hp => ?_
  have hp := List.mem_range.mp hp
  rw [List.map_map, ← List.map_reverse, range_rev j, List.map_map]
  refine map_range_ext fun q hq => ?_
  show (m - 1 - (m - i + p), n - 1 - (n - j + q)) = (0 + (i - 1 - p), 0 + (j - 1 - q))
  rw [show m - 1 - (m - i + p) = 0 + (i - 1 - p) from by omega, show n - 1 - (n - j + q) = 0 + (j - 1 - q) from by omega]
/-- the best of the rows ahead of a place -/
def ahead (g : Grid) (m n i j : Nat) : Best := bestFrom (bestsOf (upG g) m n) (m - i) (n - j)
/-- .. with a pair last -/
def lastPair (g : Grid) (m n i j : Nat) (p : Nat × Nat) : Best := ⟨3 * ((i - 1 - p.1) + (j - 1 - p.2)) + at_ g p.1 p.2 + (ahead g m n p.1 p.2).cost, (ahead g m n p.1 p.2).many⟩
theorem ahead_of {g : Grid} {m n : Nat} (d : Dims g m n) {i j : Nat} (hi : i ≤ m) (hj : j ≤ n) : BestOf (ahead g m n i j) ⟨3 * (i + j), 1⟩ ((nextPairs i j 0 0).map (lastPair g m n i j)) := by
  have h := best_of (upG g) m n (m - i) (n - j) (by omega) (by omega)
  have e0 : noPair m n (m - i) (n - j) = ⟨3 * (i + j), 1⟩ := by
    show (⟨3 * ((m - (m - i)) + (n - (n - j))), 1⟩ : Best) = _
    rw [show m - (m - i) = i from by omega, show n - (n - j) = j from by omega]
  have e1 : (nextPairs m n (m - i) (n - j)).map (withPair (upG g) (bestsOf (upG g) m n) (m - i) (n - j)) = ((nextPairs i j 0 0).map (lastPair g m n i j)).reverse := by
    rw [← List.map_reverse, ← next_turn hi hj, List.map_map]
    refine List.map_congr_left fun p hp => ?_
    obtain ⟨⟨h1, h2⟩, h3, h4⟩ := mem_next.mp hp
    show (⟨3 * ((p.1 - (m - i)) + (p.2 - (n - j))) + at_ (upG g) p.1 p.2 + (bestFrom (bestsOf (upG g) m n) (p.1 + 1) (p.2 + 1)).cost, (bestFrom (bestsOf (upG g) m n) (p.1 + 1) (p.2 + 1)).many⟩ : Best) = lastPair g m n i j (m - 1 - p.1, n - 1 - p.2)
    unfold lastPair ahead
    rw [at_up d h2 h4, show m - (m - 1 - p.1, n - 1 - p.2).1 = p.1 + 1 from by show m - (m - 1 - p.1) = p.1 + 1; omega, show n - (m - 1 - p.1, n - 1 - p.2).2 = p.2 + 1 from by show n - (n - 1 - p.2) = p.2 + 1; omega]
    show (⟨3 * ((p.1 - (m - i)) + (p.2 - (n - j))) + _ + _, _⟩ : Best) = ⟨3 * ((i - 1 - (m - 1 - p.1)) + (j - 1 - (n - 1 - p.2))) + _ + _, _⟩
    rw [show i - 1 - (m - 1 - p.1) = p.1 - (m - i) from by omega, show j - 1 - (n - 1 - p.2) = p.2 - (n - j) from by omega]
  rw [e0, e1] at h
  have := h.reverse
  rwa [List.reverse_reverse] at this
theorem dims_of (a b : Table) (cols : Pairs) : Dims (Vatdfb.gridOf a b cols) a.rows.length b.rows.length := by
  refine ⟨?_, fun r hr => ?_⟩
  · unfold Vatdfb.gridOf
    rw [List.length_map, List.length_range]
  · unfold Vatdfb.gridOf at hr
    obtain ⟨i, _, rfl⟩ := List.mem_map.mp hr
    rw [List.length_map, List.length_range]
/-- how many least matchings have a pair, by the bests ahead and behind -/
theorem withIt_eq (w : Vatdfb.Worked) (p : Nat × Nat) : Vatdfb.withIt w (Vatdfb.upside w) p = if (ahead w.grid w.m w.n p.1 p.2).cost + at_ w.grid p.1 p.2 + (bestFrom w.bests (p.1 + 1) (p.2 + 1)).cost = (Vatdfb.least w).cost then (ahead w.grid w.m w.n p.1 p.2).many * (bestFrom w.bests (p.1 + 1) (p.2 + 1)).many else 0 := rfl
end MR

/-! In how many ways least matchings begin, up to a pair. -/
namespace MR
open VatdfBase (Cell Row Table Bytes Pairs)
open Vatdfb (Grid Best better nextPairs withPair noPair bestAt rowBests bestsOf bestFrom at_ kthFrom)
section
variable {g : Grid} {m n : Nat}
abbrev behC (g : Grid) (m n : Nat) (p : Nat × Nat) : Nat := (bestFrom (bestsOf g m n) (p.1 + 1) (p.2 + 1)).cost
abbrev leastC (g : Grid) (m n : Nat) : Nat := (bestFrom (bestsOf g m n) 0 0).cost
/-- a pair that is in a least matching -/
def InLeast (g : Grid) (m n : Nat) (p : Nat × Nat) : Prop := (ahead g m n p.1 p.2).cost + at_ g p.1 p.2 + behC g m n p = leastC g m n
instance : Decidable (InLeast g m n p) := by unfold InLeast; exact inferInstance
/-- in how many ways least matchings begin, up to it -/
def begN (g : Grid) (m n : Nat) (p : Nat × Nat) : Nat := if InLeast g m n p then (ahead g m n p.1 p.2).many else 0
/-- a pair that may come next behind (i, j) -/
def tightN (g : Grid) (m n i j : Nat) (p : Nat × Nat) : Prop := (i ≤ p.1 ∧ p.1 < m) ∧ (j ≤ p.2 ∧ p.2 < n) ∧ 3 * ((p.1 - i) + (p.2 - j)) + at_ g p.1 p.2 + behC g m n p = (bestFrom (bestsOf g m n) i j).cost
instance : Decidable (tightN g m n i j p) := by unfold tightN; exact inferInstance
theorem ahead_gap {p q : Nat × Nat} (h : q ∈ nextPairs p.1 p.2 0 0) : (q.1 < p.1 ∧ q.2 < p.2) := by
  obtain ⟨⟨_, h1⟩, _, h2⟩ := mem_next.mp h
  exact ⟨h1, h2⟩
/-- nothing costs less than the least -/
theorem opt (d : Dims g m n) : ∀ (k : Nat) (p : Nat × Nat), p.1 ≤ k → p.1 < m → p.2 < n → leastC g m n ≤ (ahead g m n p.1 p.2).cost + at_ g p.1 p.2 + behC g m n p
  | k, p, hk, h1, h2 => by
    have A := ahead_of d (i := p.1) (j := p.2) (by omega) (by omega)
    rcases A.at_ with e | ⟨x, hx, e⟩
    · have := (best_le g m n 0 0 (Nat.zero_le _) (Nat.zero_le _)).2 p ⟨Nat.zero_le _, h1⟩ ⟨Nat.zero_le _, h2⟩
      have ew : (withPair g (bestsOf g m n) 0 0 p).cost = 3 * ((p.1 - 0) + (p.2 - 0)) + at_ g p.1 p.2 + behC g m n p := rfl
      have e : (ahead g m n p.1 p.2).cost = 3 * (p.1 + p.2) := e
      show (bestFrom (bestsOf g m n) 0 0).cost ≤ _
      omega
    · obtain ⟨q, hq, rfl⟩ := List.mem_map.mp hx
      obtain ⟨g1, g2⟩ := ahead_gap hq
      have e : (ahead g m n p.1 p.2).cost = 3 * ((p.1 - 1 - q.1) + (p.2 - 1 - q.2)) + at_ g q.1 q.2 + (ahead g m n q.1 q.2).cost := e
      have := (best_le g m n (q.1 + 1) (q.2 + 1) (by omega) (by omega)).2 p ⟨by omega, h1⟩ ⟨by omega, h2⟩
      have ew : (withPair g (bestsOf g m n) (q.1 + 1) (q.2 + 1) p).cost = 3 * ((p.1 - (q.1 + 1)) + (p.2 - (q.2 + 1))) + at_ g p.1 p.2 + behC g m n p := rfl
      cases k with
      | zero => omega
      | succ k =>
        have ih := opt d k q (by omega) (by omega) (by omega)
        have eb : behC g m n q = (bestFrom (bestsOf g m n) (q.1 + 1) (q.2 + 1)).cost := rfl
        omega
/-- what a pair ahead adds -/
def addN (g : Grid) (m n : Nat) (p : Nat × Nat) (l : Pairs) : Nat := l.foldr (fun q s => (if tightN g m n (q.1 + 1) (q.2 + 1) p then begN g m n q else 0) + s) 0
theorem addN_cons (p q : Nat × Nat) (l : Pairs) : addN g m n p (q :: l) = (if tightN g m n (q.1 + 1) (q.2 + 1) p then begN g m n q else 0) + addN g m n p l := rfl
theorem addN_append (p : Nat × Nat) : ∀ (l k : Pairs), addN g m n p (l ++ k) = addN g m n p l + addN g m n p k
  | [], k => (Nat.zero_add _).symm
  | q :: l, k => by
    rw [List.cons_append, addN_cons, addN_cons, addN_append p l k]
    omega
theorem addN_zero (p : Nat × Nat) : ∀ (l : Pairs), (∀ q ∈ l, ¬ (q.1 < p.1 ∧ q.2 < p.2)) → addN g m n p l = 0
  | [], _ => rfl
  | q :: l, h => by
    rw [addN_cons, addN_zero p l fun r hr => h r (List.mem_cons_of_mem _ hr), if_neg fun z => h q List.mem_cons_self ⟨by have := z.1.1; omega, by have := z.2.1.1; omega⟩]
theorem addN_filter (p : Nat × Nat) : ∀ (l : Pairs), addN g m n p l = addN g m n p (l.filter fun q => decide (q.1 < p.1 ∧ q.2 < p.2))
  | [] => rfl
  | q :: l => by
    rw [List.filter_cons]
    by_cases c : q.1 < p.1 ∧ q.2 < p.2
    · rw [if_pos (decide_eq_true c), addN_cons, addN_cons, addN_filter p l]
    · rw [if_neg (by rw [decide_eq_false c]; exact Bool.false_ne_true), addN_cons, if_neg fun z => c ⟨by have := z.1.1; omega, by have := z.2.1.1; omega⟩, Nat.zero_add, addN_filter p l]
/-- lists in strict order with the same members are the same -/
theorem sorted_ext : ∀ (l k : Pairs), l.Pairwise LexLt → k.Pairwise LexLt → (∀ x, x ∈ l ↔ x ∈ k) → l = k
  | [], [], _, _, _ => rfl
  | [], y :: k, _, _, h => absurd ((h y).mpr List.mem_cons_self) (by simp)
  | x :: l, [], _, _, h => absurd ((h x).mp List.mem_cons_self) (by simp)
  | x :: l, y :: k, hl, hk, h => by
    obtain ⟨l1, l2⟩ := List.pairwise_cons.mp hl
    obtain ⟨k1, k2⟩ := List.pairwise_cons.mp hk
    have exy : x = y := by
      rcases List.mem_cons.mp ((h x).mp List.mem_cons_self) with z | z
      · exact z
      · rcases List.mem_cons.mp ((h y).mpr List.mem_cons_self) with w | w
        · exact w.symm
        · have a := k1 x z
          have b := l1 y w
          unfold LexLt at a b
          omega
    subst exy
    congr 1
    refine sorted_ext l k l2 k2 fun z => ?_
    have irr : ¬ LexLt x x := fun q => by unfold LexLt at q; omega
    constructor
    · intro hz
      rcases List.mem_cons.mp ((h z).mp (List.mem_cons_of_mem _ hz)) with w | w
      · exact absurd (w ▸ l1 z hz) irr
      · exact w
    · intro hz
      rcases List.mem_cons.mp ((h z).mpr (List.mem_cons_of_mem _ hz)) with w | w
      · exact absurd (w ▸ k1 z hz) irr
      · exact w
theorem next_part {i j : Nat} (hi : i ≤ m) (hj : j ≤ n) : (nextPairs m n 0 0).filter (fun q => decide (q.1 < i ∧ q.2 < j)) = nextPairs i j 0 0 := by
  refine sorted_ext _ _ ((next_sorted m n 0 0).filter _) (next_sorted i j 0 0) fun x => ?_
  rw [List.mem_filter, mem_next, mem_next, decide_eq_true_eq]
  omega
theorem addN_sumAt (d : Dims g m n) {p : Nat × Nat} (h1 : p.1 < m) (h2 : p.2 < n) (hL : InLeast g m n p) : ∀ (l : Pairs), (∀ q ∈ l, q.1 < p.1 ∧ q.2 < p.2) → sumAt (ahead g m n p.1 p.2).cost (l.map (lastPair g m n p.1 p.2)) = addN g m n p l
  | [], _ => rfl
  | q :: l, h => by
    obtain ⟨g1, g2⟩ := h q List.mem_cons_self
    rw [addN_cons, ← addN_sumAt d h1 h2 hL l fun r hr => h r (List.mem_cons_of_mem _ hr)]
    show manyAt _ (lastPair g m n p.1 p.2 q) + sumAt _ _ = _
    congr 1
    have A := ahead_of d (i := p.1) (j := p.2) (by omega) (by omega)
    have le : (ahead g m n p.1 p.2).cost ≤ 3 * ((p.1 - 1 - q.1) + (p.2 - 1 - q.2)) + at_ g q.1 q.2 + (ahead g m n q.1 q.2).cost := A.le _ (List.mem_map.mpr ⟨q, mem_next.mpr ⟨⟨Nat.zero_le _, g1⟩, Nat.zero_le _, g2⟩, rfl⟩)
    have bl := (best_le g m n (q.1 + 1) (q.2 + 1) (by omega) (by omega)).2 p ⟨by omega, h1⟩ ⟨by omega, h2⟩
    have ew : (withPair g (bestsOf g m n) (q.1 + 1) (q.2 + 1) p).cost = 3 * ((p.1 - (q.1 + 1)) + (p.2 - (q.2 + 1))) + at_ g p.1 p.2 + behC g m n p := rfl
    have oq := opt d q.1 q (Nat.le_refl _) (by omega) (by omega)
    have eb : behC g m n q = (bestFrom (bestsOf g m n) (q.1 + 1) (q.2 + 1)).cost := rfl
    have hL2 := hL
    unfold InLeast at hL2
    have ec : (lastPair g m n p.1 p.2 q).cost = 3 * ((p.1 - 1 - q.1) + (p.2 - 1 - q.2)) + at_ g q.1 q.2 + (ahead g m n q.1 q.2).cost := rfl
    have em : (lastPair g m n p.1 p.2 q).many = (ahead g m n q.1 q.2).many := rfl
    unfold manyAt
    by_cases c : (lastPair g m n p.1 p.2 q).cost = (ahead g m n p.1 p.2).cost
    · have t : tightN g m n (q.1 + 1) (q.2 + 1) p := ⟨⟨by omega, h1⟩, ⟨by omega, h2⟩, by omega⟩
      have iq : InLeast g m n q := by
        unfold InLeast
        omega
      rw [if_pos c, if_pos t, em]
      unfold begN
      rw [if_pos iq]
    · rw [if_neg c]
      by_cases t : tightN g m n (q.1 + 1) (q.2 + 1) p
      · rw [if_pos t]
        unfold begN
        rw [if_neg fun iq => c ?_]
        unfold InLeast at iq
        have := t.2.2
        omega
      · rw [if_neg t]
/-- **the recurrence** -/
theorem begN_rec (d : Dims g m n) {p : Nat × Nat} (h1 : p.1 < m) (h2 : p.2 < n) : begN g m n p = (if tightN g m n 0 0 p then 1 else 0) + addN g m n p (nextPairs m n 0 0) := by
  have A := ahead_of d (i := p.1) (j := p.2) (by omega) (by omega)
  have op := opt d p.1 p (Nat.le_refl _) h1 h2
  have bl := (best_le g m n 0 0 (Nat.zero_le _) (Nat.zero_le _)).2 p ⟨Nat.zero_le _, h1⟩ ⟨Nat.zero_le _, h2⟩
  have ew : (withPair g (bestsOf g m n) 0 0 p).cost = 3 * ((p.1 - 0) + (p.2 - 0)) + at_ g p.1 p.2 + behC g m n p := rfl
  have le0 : (ahead g m n p.1 p.2).cost ≤ 3 * (p.1 + p.2) := A.le0
  have eL : leastC g m n = (bestFrom (bestsOf g m n) 0 0).cost := rfl
  by_cases hL : InLeast g m n p
  · have hL2 := hL
    unfold InLeast at hL2
    rw [addN_filter, next_part (by omega) (by omega), ← addN_sumAt d h1 h2 hL _ fun q hq => ahead_gap hq]
    unfold begN
    rw [if_pos hL, A.many]
    congr 1
    unfold manyAt
    by_cases c : 3 * (p.1 + p.2) = (ahead g m n p.1 p.2).cost
    · rw [if_pos (show (⟨3 * (p.1 + p.2), 1⟩ : Best).cost = _ from c), if_pos ⟨⟨Nat.zero_le _, h1⟩, ⟨Nat.zero_le _, h2⟩, by omega⟩]
    · rw [if_neg (show ¬ (⟨3 * (p.1 + p.2), 1⟩ : Best).cost = _ from c), if_neg fun t => c ?_]
      have := t.2.2
      omega
  · unfold begN
    rw [if_neg hL, if_neg fun t => hL ?_]
    · rw [addN_filter, next_part (by omega) (by omega)]
      have z : ∀ l : Pairs, (∀ q ∈ l, q.1 < p.1 ∧ q.2 < p.2) → addN g m n p l = 0 := by
        intro l
        induction l with
        | nil => exact fun _ => rfl
        | cons q l ih =>
          intro h
          rw [addN_cons, ih fun r hr => h r (List.mem_cons_of_mem _ hr)]
          obtain ⟨g1, g2⟩ := h q List.mem_cons_self
          by_cases t : tightN g m n (q.1 + 1) (q.2 + 1) p
          · rw [if_pos t]
            unfold begN
            rw [if_neg fun iq => hL ?_]
            unfold InLeast at iq ⊢
            have le : (ahead g m n p.1 p.2).cost ≤ 3 * ((p.1 - 1 - q.1) + (p.2 - 1 - q.2)) + at_ g q.1 q.2 + (ahead g m n q.1 q.2).cost := A.le _ (List.mem_map.mpr ⟨q, mem_next.mpr ⟨⟨Nat.zero_le _, g1⟩, Nat.zero_le _, g2⟩, rfl⟩)
            have eb : behC g m n q = (bestFrom (bestsOf g m n) (q.1 + 1) (q.2 + 1)).cost := rfl
            have := t.2.2
            omega
          · rw [if_neg t]
      rw [z _ fun q hq => ahead_gap hq]
    · unfold InLeast
      have := t.2.2
      omega
/-- the same up to the pair itself -/
theorem begN_at (d : Dims g m n) {p : Nat × Nat} {l1 l2 : Pairs} (e : nextPairs m n 0 0 = l1 ++ p :: l2) : begN g m n p = (if tightN g m n 0 0 p then 1 else 0) + addN g m n p l1 := by
  have hp : p ∈ nextPairs m n 0 0 := by rw [e]; exact List.mem_append_right _ List.mem_cons_self
  obtain ⟨⟨_, h1⟩, _, h2⟩ := mem_next.mp hp
  rw [begN_rec d h1 h2, e, addN_append, addN_zero p (p :: l2)]
  · omega
  · have hs := next_sorted m n 0 0
    rw [e] at hs
    obtain ⟨_, hs, _⟩ := List.pairwise_append.mp hs
    obtain ⟨hs, _⟩ := List.pairwise_cons.mp hs
    intro q hq
    rcases List.mem_cons.mp hq with z | z
    · rw [z]
      omega
    · have := hs q z
      unfold LexLt at this
      omega
/-- with which pairs the least ones go on -/
theorem mem_firsts_tight {i j : Nat} {p : Nat × Nat} : p ∈ firstsM (gridI g) (bN g m n) m n i j ↔ tightN g m n i j p := by
  rw [firsts_eq, List.mem_filter, mem_next, beq_iff_eq]
  unfold tightN
  show ((i ≤ p.1 ∧ p.1 < m) ∧ j ≤ p.2 ∧ p.2 < n) ∧ 3 * ((p.1 - i) + (p.2 - j)) + at_ g p.1 p.2 + behC g m n p = _ ↔ _
  constructor
  · exact fun ⟨⟨a, b⟩, c⟩ => ⟨a, b, c⟩
  · exact fun ⟨a, b, c⟩ => ⟨⟨a, b⟩, c⟩
theorem firsts_nodup (i j : Nat) : (firstsM (gridI g) (bN g m n) m n i j).Nodup := by
  rw [firsts_eq, List.nodup_iff_pairwise_ne]
  refine ((next_sorted m n i j).filter _).imp fun {x y} h e => ?_
  rw [e] at h
  unfold LexLt at h
  omega
/-! ### how many there may be -/
theorem next_len (m n i j : Nat) : (nextPairs m n i j).length = (m - i) * (n - j) := by
  unfold nextPairs
  rw [List.length_flatMap]
  have : (List.range (m - i)).map (fun p => ((List.range (n - j)).map fun q => (i + p, j + q)).length) = (List.range (m - i)).map fun _ => n - j := List.map_congr_left fun p _ => by rw [List.length_map, List.length_range]
  rw [this]
  induction (m - i) with
  | zero => simp
  | succ k ih => rw [List.range_succ, List.map_append, List.sum_append, ih, Nat.succ_mul]; simp
theorem sumAt_le {B : Nat} (c : Nat) : ∀ (l : List Best), (∀ b ∈ l, b.many ≤ B) → sumAt c l ≤ l.length * B
  | [], _ => Nat.zero_le _
  | b :: l, h => by
    have h1 := h b List.mem_cons_self
    have h2 := sumAt_le c l fun x hx => h x (List.mem_cons_of_mem _ hx)
    show manyAt c b + sumAt c l ≤ _
    rw [List.length_cons, Nat.succ_mul]
    have : manyAt c b ≤ b.many := by
      unfold manyAt
      split <;> omega
    omega
theorem many_bound (hm : m ≤ 100) (hn : n ≤ 100) : ∀ (k i j : Nat), i ≤ m → j ≤ n → m ≤ i + k → (bestFrom (bestsOf g m n) i j).many ≤ 2 ^ (15 * k)
  | k, i, j, hi, hj, hk => by
    have e := many_eq g m n i j hi hj
    have h1 : manyAt (bestFrom (bestsOf g m n) i j).cost (noPair m n i j) ≤ 1 := by
      unfold manyAt
      rw [noPair_many]
      split <;> omega
    cases k with
    | zero =>
      have e0 : nextPairs m n i j = [] := List.length_eq_zero_iff.mp (by rw [next_len, show m - i = 0 from by omega, Nat.zero_mul])
      rw [e0] at e
      have : sumAt (bestFrom (bestsOf g m n) i j).cost (([] : Pairs).map (withPair g (bestsOf g m n) i j)) = 0 := rfl
      rw [this] at e
      show _ ≤ 2 ^ 0
      omega
    | succ k =>
      have h2 := sumAt_le (B := 2 ^ (15 * k)) (bestFrom (bestsOf g m n) i j).cost ((nextPairs m n i j).map (withPair g (bestsOf g m n) i j)) fun b hb => by
        obtain ⟨p, hp, rfl⟩ := List.mem_map.mp hb
        obtain ⟨p1, p2⟩ := mem_next.mp hp
        exact many_bound hm hn k (p.1 + 1) (p.2 + 1) (by omega) (by omega) (by omega)
      rw [List.length_map, next_len] at h2
      have h3 : (m - i) * (n - j) ≤ 100 * 100 := Nat.mul_le_mul (by omega) (by omega)
      have h4 := Nat.mul_le_mul_right (2 ^ (15 * k)) h3
      have hp : 0 < 2 ^ (15 * k) := Nat.two_pow_pos _
      have e2 : 2 ^ (15 * (k + 1)) = 32768 * 2 ^ (15 * k) := by
        rw [Nat.mul_add, Nat.pow_add]
        omega
      rw [e2]
      omega
theorem begN_bound (hm : m ≤ 100) (hn : n ≤ 100) (p : Nat × Nat) : begN g m n p ≤ 2 ^ 1500 := by
  unfold begN
  split
  · have := many_bound (g := upG g) hm hn m (m - p.1) (n - p.2) (by omega) (by omega) (by omega)
    exact Nat.le_trans this (Nat.pow_le_pow_right (by decide) (by omega))
  · exact Nat.zero_le _
theorem beh_bound (hm : m ≤ 100) (hn : n ≤ 100) {p : Nat × Nat} (h1 : p.1 < m) (h2 : p.2 < n) : (bestFrom (bestsOf g m n) (p.1 + 1) (p.2 + 1)).many ≤ 2 ^ 1500 := by
  have := many_bound (g := g) hm hn m (p.1 + 1) (p.2 + 1) (by omega) (by omega) (by omega)
  exact Nat.le_trans this (Nat.pow_le_pow_right (by decide) (by omega))
end
/-! ### what is told of them -/
def begun (g : Grid) (m n : Nat) : Pairs := (nextPairs m n 0 0).filter fun p => begN g m n p != 0
theorem withIt_beg (w : Vatdfb.Worked) (hb : w.bests = bestsOf w.grid w.m w.n) (p : Nat × Nat) : Vatdfb.withIt w (Vatdfb.upside w) p = begN w.grid w.m w.n p * (bestFrom (bestsOf w.grid w.m w.n) (p.1 + 1) (p.2 + 1)).many := by
  rw [withIt_eq, hb]
  unfold begN
  have el : (Vatdfb.least w).cost = leastC w.grid w.m w.n := by
    show (bestFrom w.bests 0 0).cost = _
    rw [hb]
  rw [el]
  by_cases c : InLeast w.grid w.m w.n p
  · rw [if_pos c]
    unfold InLeast at c
    rw [if_pos c]
  · rw [if_neg c, Nat.zero_mul]
    unfold InLeast at c
    rw [if_neg c]
theorem mayBe_eq (w : Vatdfb.Worked) (hb : w.bests = bestsOf w.grid w.m w.n) : Vatdfb.mayBe w = begun w.grid w.m w.n := by
  show (nextPairs w.m w.n 0 0).filter (fun p => Vatdfb.withIt w (Vatdfb.upside w) p != 0) = _
  refine List.filter_congr fun p hp => ?_
  obtain ⟨⟨_, h1⟩, _, h2⟩ := mem_next.mp hp
  rw [withIt_beg w hb]
  have pos := many_pos w.grid w.m w.n w.m (p.1 + 1) (p.2 + 1) (by omega) (by omega) (by omega)
  generalize (bestFrom (bestsOf w.grid w.m w.n) (p.1 + 1) (p.2 + 1)).many = k at pos
  by_cases c : begN w.grid w.m w.n p = 0
  · rw [c, Nat.zero_mul]
  · have : begN w.grid w.m w.n p * k ≠ 0 := Nat.mul_ne_zero c (by omega)
    rw [bne_iff_ne.mpr this, bne_iff_ne.mpr c]
theorem surely_eq (w : Vatdfb.Worked) (hb : w.bests = bestsOf w.grid w.m w.n) : Vatdfb.surely w = (begun w.grid w.m w.n).filter fun p => begN w.grid w.m w.n p * (bestFrom (bestsOf w.grid w.m w.n) (p.1 + 1) (p.2 + 1)).many == (bestFrom (bestsOf w.grid w.m w.n) 0 0).many := by
  show (nextPairs w.m w.n 0 0).filter (fun p => Vatdfb.withIt w (Vatdfb.upside w) p == (Vatdfb.least w).many) = _
  unfold begun
  rw [List.filter_filter]
  refine List.filter_congr fun p hp => ?_
  rw [withIt_beg w hb]
  have el : (Vatdfb.least w).many = (bestFrom (bestsOf w.grid w.m w.n) 0 0).many := by
    show (bestFrom w.bests 0 0).many = _
    rw [hb]
  rw [el]
  have pos := many_pos w.grid w.m w.n w.m 0 0 (Nat.zero_le _) (Nat.zero_le _) (by omega)
  by_cases c : begN w.grid w.m w.n p = 0
  · rw [c, Nat.zero_mul, show ((0 : Nat) != 0) = false from rfl, Bool.and_false]
    exact beq_eq_false_iff_ne.mpr (by omega)
  · rw [bne_iff_ne.mpr c, Bool.and_true]
end MR

set_option exponentiation.threshold 3000
namespace MR
open PySem PySem.Spec PyProof.Rows L2
open VatdfBase (Cell Row Table Bytes Pairs)
/-- a dict that counts pairs -/
structure CntD (val : Nat × Nat → Nat) (ks : Pairs) (kvs : Kvs) : Prop where
  keys : kvs.map (·.1) = ks.map fun q => key q.1 q.2
  nd : ks.Nodup
  val : ∀ p : Nat × Nat, valV kvs (key p.1 p.2) = if val p = 0 then none else some (.int (val p : Nat))
theorem key_pair {p q : Nat × Nat} (h : key p.1 p.2 = key q.1 q.2) : p = q := by
  obtain ⟨h1, h2⟩ := key_inj h
  exact Prod.ext h1 h2
theorem CntD.mem {val : Nat × Nat → Nat} {ks : Pairs} {kvs : Kvs} (h : CntD val ks kvs) (p : Nat × Nat) : p ∈ ks ↔ val p ≠ 0 := by
  have e := h.val p
  have iff : (valV kvs (key p.1 p.2)).isSome = true ↔ p ∈ ks := by
    unfold valV
    rw [Option.isSome_map, List.find?_isSome]
    constructor
    · rintro ⟨kv, hkv, hk⟩
      have hk := of_decide_eq_true hk
      have hm : kv.1 ∈ kvs.map (·.1) := List.mem_map.mpr ⟨kv, hkv, rfl⟩
      rw [h.keys] at hm
      obtain ⟨q, hq, eq⟩ := List.mem_map.mp hm
      have : p = q := key_pair (hk.symm.trans eq.symm)
      rw [this]
      exact hq
    · intro hp
      have hm : key p.1 p.2 ∈ kvs.map (·.1) := by rw [h.keys]; exact List.mem_map.mpr ⟨p, hp, rfl⟩
      obtain ⟨kv, hkv, hk⟩ := List.mem_map.mp hm
      exact ⟨kv, hkv, decide_eq_true hk⟩
  rw [← iff, e]
  by_cases c : val p = 0
  · rw [if_pos c]
    simp [c]
  · rw [if_neg c]
    simp [c]
theorem CntD.put {val : Nat × Nat → Nat} {ks : Pairs} {kvs : Kvs} (h : CntD val ks kvs) (p : Nat × Nat) {v : Nat} (hv : v ≠ 0) : CntD (fun q => if q = p then v else val q) (if p ∈ ks then ks else ks ++ [p]) (putK kvs (key p.1 p.2) (.int (v : Nat))) := by
  have any : (kvs.any fun kv => decide (kv.1 = key p.1 p.2)) = true ↔ p ∈ ks := by
    rw [List.any_eq_true]
    constructor
    · rintro ⟨kv, hkv, hk⟩
      have hm : kv.1 ∈ kvs.map (·.1) := List.mem_map.mpr ⟨kv, hkv, rfl⟩
      rw [h.keys] at hm
      obtain ⟨q, hq, eq⟩ := List.mem_map.mp hm
      have : p = q := key_pair ((of_decide_eq_true hk).symm.trans eq.symm)
      rw [this]
      exact hq
    · intro hp
      have hm : key p.1 p.2 ∈ kvs.map (·.1) := by rw [h.keys]; exact List.mem_map.mpr ⟨p, hp, rfl⟩
      obtain ⟨kv, hkv, hk⟩ := List.mem_map.mp hm
      exact ⟨kv, hkv, decide_eq_true hk⟩
  refine ⟨?_, ?_, fun q => ?_⟩
  · unfold putK
    by_cases c : p ∈ ks
    · rw [if_pos c, if_pos (any.mpr c), List.map_map, ← h.keys]
      refine List.map_congr_left fun kv _ => ?_
      show (if kv.1 = key p.1 p.2 then (kv.1, V.int (v : Nat)) else kv).1 = kv.1
      split <;> rfl
    · rw [if_neg c, if_neg fun z => c (any.mp z), List.map_append, List.map_append, h.keys]
      rfl
  · by_cases c : p ∈ ks
    · rw [if_pos c]
      exact h.nd
    · rw [if_neg c, List.nodup_append]
      exact ⟨h.nd, by simp, fun a ha b hb e => c (by rw [← List.mem_singleton.mp hb, ← e]; exact ha)⟩
  · rw [valV_put, h.val]
    by_cases c : q = p
    · rw [if_pos (by rw [c]), if_pos c, if_neg hv]
    · rw [if_neg fun z => c (key_pair z), if_neg c]
theorem CntD.congr {val val' : Nat × Nat → Nat} {ks : Pairs} {kvs : Kvs} (h : CntD val ks kvs) (e : ∀ p, val p = val' p) : CntD val' ks kvs := ⟨h.keys, h.nd, fun p => by rw [h.val, e]⟩
/-- what is counted behind some pairs -/
def valA (g : Vatdfb.Grid) (m n : Nat) (l : Pairs) (p : Nat × Nat) : Nat := (if tightN g m n 0 0 p then 1 else 0) + addN g m n p l
theorem valA_out {g : Vatdfb.Grid} {m n : Nat} {p : Nat × Nat} (c : ¬ (p.1 < m ∧ p.2 < n)) : ∀ l : Pairs, valA g m n l p = 0
  | [] => by
    show (if tightN g m n 0 0 p then 1 else 0) + 0 = 0
    rw [if_neg fun z => c ⟨z.1.2, z.2.1.2⟩]
  | q :: l => by
    have ih := valA_out (g := g) c l
    unfold valA at ih ⊢
    rw [addN_cons, if_neg (c := tightN g m n (q.1 + 1) (q.2 + 1) p) fun z => c ⟨z.1.2, z.2.1.2⟩, Nat.zero_add]
    exact ih
theorem valA_snoc {g : Vatdfb.Grid} {m n : Nat} {p q : Nat × Nat} (l : Pairs) : valA g m n (l ++ [q]) p = valA g m n l p + (if tightN g m n (q.1 + 1) (q.2 + 1) p then begN g m n q else 0) := by
  unfold valA
  rw [addN_append, addN_cons, Nat.add_assoc]
  rfl
/-- such a dict in the heap -/
def StD (m n : Nat) (H : Hp) (d : Addr) (val : Nat × Nat → Nat) (H' : Hp) : Prop := Same H H' ∧ ∃ ks kvs, H' d = some (.dT kvs) ∧ CntD val ks kvs ∧ ∀ p ∈ ks, p.1 < m ∧ p.2 < n
theorem StD.ext {m n : Nat} {H : Hp} {d : Addr} {val val' : Nat × Nat → Nat} {H' : Hp} (h : StD m n H d val H') (e : ∀ p, val p = val' p) : StD m n H d val' H' := by
  obtain ⟨s, ks, kvs, h1, h2, h3⟩ := h
  exact ⟨s, ks, kvs, h1, h2.congr e, h3⟩
theorem StD.same {m n : Nat} {H : Hp} {d : Addr} {val : Nat × Nat → Nat} {H' H'' : Hp} (h : StD m n H d val H') (e : Same H' H'') : StD m n H d val H'' := by
  obtain ⟨s, ks, kvs, h1, h2, h3⟩ := h
  exact ⟨s.trans e, ks, kvs, e _ _ h1, h2, h3⟩
theorem StD.put {m n : Nat} {H : Hp} {d : Addr} {val : Nat × Nat → Nat} {H' : Hp} {ks : Pairs} {kvs : Kvs} (hd : H d = none) (p : Nat × Nat) (v : Nat) (s : Same H H') (h1 : H' d = some (.dT kvs)) (h2 : CntD val ks kvs) (h3 : ∀ p ∈ ks, p.1 < m ∧ p.2 < n) (hv : v ≠ 0) (hp1 : p.1 < m) (hp2 : p.2 < n) :
    StD m n H d (fun q => if q = p then v else val q) (upd H' d (.dT (putK kvs (key p.1 p.2) (.int (v : Nat))))) := by
  refine ⟨fun c ob e => by rw [upd_ne (ne_of_none e hd)]; exact s _ _ e, _, _, upd_same, h2.put p hv, fun q hq => ?_⟩
  by_cases c : p ∈ ks
  · rw [if_pos c] at hq
    exact h3 q hq
  · rw [if_neg c] at hq
    rcases List.mem_append.mp hq with z | z
    · exact h3 q z
    · rw [List.mem_singleton.mp z]
      exact ⟨hp1, hp2⟩
/-- how long the dict may be -/
theorem cnt_few {m n : Nat} (om : m ≤ 100) (on : n ≤ 100) {ks : Pairs} {val : Nat × Nat → Nat} {kvs : Kvs} (h : CntD val ks kvs) (hin : ∀ p ∈ ks, p.1 < m ∧ p.2 < n) : kvs.length ≤ 10000 := by
  have e1 := congrArg List.length h.keys
  rw [List.length_map, List.length_map] at e1
  rw [e1]
  have h2 : (ks.map fun p => p.1 * 100 + p.2).Nodup := by
    rw [List.nodup_iff_pairwise_ne, List.pairwise_map]
    have hnd := h.nd
    rw [List.nodup_iff_pairwise_ne] at hnd
    refine List.Pairwise.imp_of_mem ?_ hnd
    intro p q hp hq hne e
    have := hin p hp
    have := hin q hq
    exact hne (Prod.ext (by omega) (by omega))
  obtain ⟨B, hB⟩ : ∃ B : Nat, B = 10000 := ⟨_, rfl⟩
  have h3 := nodupN_len B _ h2 fun x hx => by
    obtain ⟨p, hp, rfl⟩ := List.mem_map.mp hx
    have := hin p hp
    omega
  rw [List.length_map] at h3
  omega
section
variable {P : Program} {w : World} {K : PySem.W.Frag} {mg : Str → Option Value} {base : Heap} {f : Addr} {fd : FuncData} {C CE CT : Addr}
abbrev s_beginnings : Stmt := topS 75
theorem sc_beginnings : FnScope ["least", "begun", "first", "old", "new", "ways", "pair"] ["least"] (defScope s_beginnings) := ⟨rfl, rfl, rfl, by decide +kernel, rfl, by decide +kernel, by decide +kernel⟩
def sp_beginnings (K : PySem.W.Frag) (C : Addr) : Sp := fun vs H Q _ => ∃ (a dx : Addr) (pv : V) (g : Vatdfb.Grid) (m n : Nat) (cd wd : Addr) (kc kw : Kvs),
  vs = [.ref a] ∧ LmAt K C H a dx pv (gridI g) m n cd wd kc kw ∧ GridOk (gridI g) m n ∧ m ≤ 100 ∧ n ≤ 100 ∧ Dims g m n ∧ Told (bN g m n) m n kc kw ∧
  ∀ d ks kvs H', Same H H' → H' d = some (.dT kvs) → (∀ p ∈ ks, p.1 < m ∧ p.2 < n) → CntD (fun p => if p.1 < m ∧ p.2 < n then begN g m n p else 0) ks kvs → Q (.ref d) H'
theorem ok_beginnings (T : Tops mg) (S : LmC K C) (C_LeastMatchings_first_pairs : MetX P w K mg base CX0 2 C "first_pairs" (sp_first_pairs K C)) (F : Fun K "beginnings" "beginnings" s_beginnings f fd) : FnOk P w K mg base CX0 3 f fd ["least"] (sp_beginnings K C) := by
  refine F.ok sc_beginnings (fun vs H Q E h => ?_) (fun cdv A outer s H vs Q E hr h => ⟨_, (pss_cons (ps_set (i := 1) sc_beginnings.nd rfl (Or.inl rfl) pe_dnewT)
  (pss_cons (ps_for PassesOwn.never rfl (lstK K (pe_m (pv 0) C_LeastMatchings_first_pairs hr (by decide) (fun _ => quiet) (pa_cons pe_int (pa_cons pe_int pa_nil)))) (pg_name (i := 2) sc_beginnings.nd rfl (Or.inl rfl))
   (pss_one (ps_dput (hu_of hr) (pv 1) (pv 2) pe_int rfl)))
  (pss_cons (ps_for PassesOwn.never rfl (pi_range1 (by rfl) T.n_range (pa_cons (fldK K (pv 0)) pa_nil)) (pg_name (i := 3) sc_beginnings.nd rfl (Or.inl rfl))
   (pss_one (ps_for PassesOwn.never rfl (pi_range1 (by rfl) T.n_range (pa_cons (fldK K (pv 0)) pa_nil)) (pg_name (i := 4) sc_beginnings.nd rfl (Or.inl rfl))
   (pss_cons (ps_set (i := 5) sc_beginnings.nd rfl (Or.inl rfl) (pe_dget2 (hu_of hr) (pv 1) (pe_tup (pa_cons (pv 3) (pa_cons (pv 4) pa_nil))) pe_int (m2_of (by rfl) (by rfl) (by rfl) (by rfl))))
  (pss_one (ps_if (pt_cmpR op_gt (pv 5) pe_int (nomark _))
   (pss_one (ps_for PassesOwn.never rfl (lstK K (pe_m (pv 0) C_LeastMatchings_first_pairs hr (by decide) (fun _ => quiet) (pa_cons (pe_op op_add (pv 3) pe_int) (pa_cons (pe_op op_add (pv 4) pe_int) pa_nil)))) (pg_name (i := 6) sc_beginnings.nd rfl (Or.inl rfl))
   (pss_one (ps_dput (hu_of hr) (pv 1) (pv 6) (pe_op op_add (pe_dget2 (hu_of hr) (pv 1) (pv 6) pe_int (m2_of (by rfl) (by rfl) (by rfl) (by rfl))) (pv 5)) rfl)))) pss_nil))))))
  (pss_one (ps_ret (pv 1)))))), ?_⟩)
  · obtain ⟨a, dx, pv, g, m, n, cd, wd, kc, kw, rfl, _⟩ := h
    rfl
  obtain ⟨a, dx, pv, g, m, n, cd, wd, kc, kw, rfl, L, o, om, on, D, hB, hQ⟩ := h
  intro d hd
  have s0 : Same H (upd H d (.dT [])) := Same.made1 hd
  have hd0 : upd H d (.dT []) d = some (.dT []) := upd_same
  generalize upd H d (.dT []) = H0 at s0 hd0 ⊢
  have szl : (20000 : Nat) ≤ sizeLine := by decide
  -- the first ones
  refine ⟨_, rfl, a, dx, _, rfl, s0 _ _ L.ob, rfl, a, dx, pv, gridI g, m, n, cd, wd, kc, kw, 0, 0, bN g m n, rfl, L.same s0, o, om, on, Nat.zero_le _, Nat.zero_le _, hB, fun p1 acc1 H1 s1 h11 h12 => ?_⟩
  have nd1 : ∀ {c ob}, nw H0 H1 c = some ob → c ≠ d := fun {c ob} e z => by
    have := (nw_some e).1
    rw [z, hd0] at this
    cases this
  have h1len : acc1.length = (firstsM (gridI g) (bN g m n) m n 0 0).length := by rw [h12.1, List.length_map]
  refine ⟨p1, rfl, ⟨acc1, SqL.of (nw_in _ _ h11)⟩, for_list (K := K) (a := p1) (xs := acc1) (fun i σ H' => (∀ c ob, H1 c = some ob → c ≠ d → H' c = some ob) ∧ StD m n H d (fun p => if p ∈ (firstsM (gridI g) (bN g m n) m n 0 0).take i then 1 else 0) H' ∧ ∃ u v x y z, σ = [some (.ref a), some (.ref d), u, v, x, y, z])
    ⟨fun _ _ e _ => e, ⟨s0.trans s1, [], [], s1 _ _ hd0, ⟨rfl, List.nodup_nil, fun p => by rw [if_pos (by simp)]; rfl⟩, fun p hp => by cases hp⟩, _, _, _, _, _, rfl⟩ (fun i σ H' _ q => SqL.of (q.1 _ _ (nw_in _ _ h11) (nd1 h11))) ?_ ?_⟩
  · rintro i x σ H2 hi ⟨k2, ⟨s2, ks, kvs, hd2, cnt, hin⟩, u, v, y3, y4, y5, rfl⟩
    obtain ⟨hi1, _⟩ := List.getElem?_eq_some_iff.mp hi
    have hir : i < (firstsM (gridI g) (bN g m n) m n 0 0).length := by omega
    have hr0 : (firstsM (gridI g) (bN g m n) m n 0 0)[i]? = some (firstsM (gridI g) (bN g m n) m n 0 0)[i] := List.getElem?_eq_getElem hir
    obtain ⟨t, rfl, ht⟩ := h12.2 i x (pN (firstsM (gridI g) (bN g m n) m n 0 0)[i]) hi (by rw [List.getElem?_map, hr0]; rfl)
    have hrm : (firstsM (gridI g) (bN g m n) m n 0 0)[i] ∈ firstsM (gridI g) (bN g m n) m n 0 0 := List.getElem_mem hir
    generalize hr : (firstsM (gridI g) (bN g m n) m n 0 0)[i] = r at hr0 ht hrm
    obtain ⟨⟨_, r1⟩, _, r2⟩ := mem_firsts hrm
    have ht2 : H2 t = some (.tup ((key r.1 r.2).map kV)) := k2 _ _ (nw_in _ _ ht) (nd1 ht)
    have lk := cnt_few om on cnt hin
    refine ⟨_, rfl, _, rfl, d, _, rfl, .inr ⟨kvs, key r.1 r.2, t, hd2, rfl, ht2, by omega, rfl⟩, ?_⟩
    refine ⟨fun c ob e nc => by rw [upd_ne nc]; exact k2 c ob e nc, (StD.put (val := fun p => if p ∈ (firstsM (gridI g) (bN g m n) m n 0 0).take i then 1 else 0) hd r 1 s2 hd2 cnt hin (by decide) r1 r2).ext (fun p => ?_), _, _, _, _, _, rfl⟩
    have more : (firstsM (gridI g) (bN g m n) m n 0 0).take (i + 1) = (firstsM (gridI g) (bN g m n) m n 0 0).take i ++ [r] := by
      rw [List.take_add_one, hr0]
      rfl
    rw [more]
    by_cases c : p = r
    · rw [if_pos c, if_pos (by rw [c]; exact List.mem_append_right _ (List.mem_singleton.mpr rfl))]
    · rw [if_neg c]
      by_cases c2 : p ∈ (firstsM (gridI g) (bN g m n) m n 0 0).take i
      · rw [if_pos c2, if_pos (List.mem_append_left _ c2)]
      · rw [if_neg c2, if_neg fun z => (List.mem_append.mp z).elim c2 fun z => c (List.mem_singleton.mp z)]
  rintro σ H2 ⟨_, st2, u, v, y3, y4, y5, rfl⟩
  have st2 : StD m n H d (valA g m n []) H2 := st2.ext (fun p => by
    rw [h1len, List.take_length]
    show _ = (if tightN g m n 0 0 p then 1 else 0) + 0
    by_cases c : p ∈ firstsM (gridI g) (bN g m n) m n 0 0
    · rw [if_pos c, if_pos (mem_firsts_tight.mp c)]
    · rw [if_neg c, if_neg fun z => c (mem_firsts_tight.mpr z)])
  refine ⟨_, rfl, a, C, dx, _, _, rfl, st2.1 _ _ L.ob, S.cl, S.n2, rfl, (m : Int), rfl, by omega, by omega, ?_⟩
  rw [Int.toNat_natCast]
  refine for_range (lo := 0) (n := m) (fun u σ H' => (∃ l1, rowsFrom m n 0 0 0 = l1 ++ rowsFrom m n 0 0 u ∧ StD m n H d (valA g m n l1) H') ∧ ∃ v x y z w, σ = [some (.ref a), some (.ref d), v, x, y, z, w]) ⟨⟨[], rfl, st2⟩, _, _, _, _, _, rfl⟩ ?_ ?_
  · rintro u σ H3 hu ⟨⟨l1, el1, st3⟩, x2, x3, x4, x5, x6, rfl⟩
    rw [Int.zero_add]
    refine ⟨_, rfl, a, C, dx, _, _, rfl, st3.1 _ _ L.ob, S.cl, S.n3, rfl, (n : Int), rfl, by omega, by omega, ?_⟩
    rw [Int.toNat_natCast]
    refine for_range (lo := 0) (n := n) (fun v σ H' => (∃ l1, rowsFrom m n 0 0 0 = l1 ++ (rowFrom n 0 u v ++ rowsFrom m n 0 0 (u + 1)) ∧ StD m n H d (valA g m n l1) H') ∧ ∃ x y z w, σ = [some (.ref a), some (.ref d), x, some (.int (u : Nat)), y, z, w]) ⟨⟨l1, ?_, st3⟩, _, _, _, _, rfl⟩ ?_ ?_
    · rw [el1, rowsFrom_at (by omega), Nat.zero_add]
    · rintro v σ H4 hv ⟨⟨l1, el1, st4⟩, y2, y4, y5, y6, rfl⟩
      rw [Int.zero_add]
      rw [rowFrom_at (by omega), Nat.zero_add] at el1
      obtain ⟨s4, ks, kvs, hd4, cnt, hin⟩ := id st4
      have eW : valA g m n l1 (u, v) = begN g m n (u, v) := by
        rw [rows_next] at el1
        exact (begN_at D (l2 := rowFrom n 0 u (v + 1) ++ rowsFrom m n 0 0 (u + 1)) el1).symm
      refine ⟨_, rfl, d, rfl, .inr ⟨kvs, .inl hd4⟩, _, rfl, _, rfl, by show 2 ≤ sizeLine; decide, fun t ht => ⟨_, DGet.t (k := key u v) ((Same.made1 ht) _ _ hd4) upd_same, ?_⟩⟩
      have s5 : Same H4 (upd H4 t (.tup ((key u v).map kV))) := Same.made1 ht
      show tSeq _ _ _ _ (upd H4 t (.tup ((key u v).map kV)))
      have st5 := st4.same s5
      generalize upd H4 t (.tup ((key u v).map kV)) = H5 at s5 st5 ⊢
      have eG : ((valV kvs (key u v)).getD (.int 0)) = .int ((begN g m n (u, v) : Nat) : Int) := by
        have := cnt.val (u, v)
        rw [eW] at this
        rw [this]
        by_cases c : begN g m n (u, v) = 0
        · rw [if_pos c, c]
          rfl
        · rw [if_neg c]
          rfl
      rw [eG]
      have el2 : rowsFrom m n 0 0 0 = (l1 ++ [(u, v)]) ++ (rowFrom n 0 u (v + 1) ++ rowsFrom m n 0 0 (u + 1)) := by
        rw [el1, List.append_assoc]
        rfl
      generalize hW : begN g m n (u, v) = W at eW ⊢
      refine ⟨_, rfl, _, _, rfl, rfl, _, rfl, ite_dec (c := 0 < W) (decide_eq_decide.mpr (by omega)) (fun c => ?_) (fun c => ?_)⟩
      · refine ⟨_, rfl, a, dx, _, rfl, st5.1 _ _ L.ob, rfl, _, rfl, _, _, rfl, rfl, _, rfl, _, _, rfl, rfl, a, dx, pv, gridI g, m, n, cd, wd, kc, kw, u + 1, v + 1, bN g m n, rfl, L.same st5.1, o, om, on, by omega, by omega, hB, fun p6 acc6 H6 s6 h61 h62 => ?_⟩
        have hd5 := s5 _ _ hd4
        have nd6 : ∀ {c ob}, nw H5 H6 c = some ob → c ≠ d := fun {c ob} e z => by
          have := (nw_some e).1
          rw [z, hd5] at this
          cases this
        have h6len : acc6.length = (firstsM (gridI g) (bN g m n) m n (u + 1) (v + 1)).length := by rw [h62.1, List.length_map]
        refine ⟨p6, rfl, ⟨acc6, SqL.of (nw_in _ _ h61)⟩, for_list (K := K) (a := p6) (xs := acc6) (fun i σ H' => (∀ c ob, H6 c = some ob → c ≠ d → H' c = some ob) ∧ StD m n H d (fun q => valA g m n l1 q + (if q ∈ (firstsM (gridI g) (bN g m n) m n (u + 1) (v + 1)).take i then W else 0)) H' ∧
            ∃ y z, σ = [some (.ref a), some (.ref d), y, some (.int (u : Nat)), some (.int (v : Nat)), some (.int (W : Nat)), z])
          ⟨fun _ _ e _ => e, (st5.same s6).ext (fun q => by rw [List.take_zero, if_neg (by simp), Nat.add_zero]), _, _, rfl⟩ (fun i σ H' _ q => SqL.of (q.1 _ _ (nw_in _ _ h61) (nd6 h61))) ?_ ?_⟩
        · rintro i x σ H7 hi ⟨k7, ⟨s7, ks, kvs, hd7, cnt, hin⟩, z2, z6, rfl⟩
          obtain ⟨hi1, _⟩ := List.getElem?_eq_some_iff.mp hi
          have hir : i < (firstsM (gridI g) (bN g m n) m n (u + 1) (v + 1)).length := by omega
          have hr0 : (firstsM (gridI g) (bN g m n) m n (u + 1) (v + 1))[i]? = some (firstsM (gridI g) (bN g m n) m n (u + 1) (v + 1))[i] := List.getElem?_eq_getElem hir
          obtain ⟨t, rfl, ht⟩ := h62.2 i x (pN (firstsM (gridI g) (bN g m n) m n (u + 1) (v + 1))[i]) hi (by rw [List.getElem?_map, hr0]; rfl)
          have hrm : (firstsM (gridI g) (bN g m n) m n (u + 1) (v + 1))[i] ∈ firstsM (gridI g) (bN g m n) m n (u + 1) (v + 1) := List.getElem_mem hir
          have hnot : (firstsM (gridI g) (bN g m n) m n (u + 1) (v + 1))[i] ∉ (firstsM (gridI g) (bN g m n) m n (u + 1) (v + 1)).take i := by
            intro hm
            obtain ⟨k, hk, ek⟩ := List.mem_iff_getElem.mp hm
            rw [List.length_take] at hk
            rw [List.getElem_take] at ek
            have hnd := firsts_nodup (g := g) (m := m) (n := n) (u + 1) (v + 1)
            rw [List.nodup_iff_pairwise_ne] at hnd
            exact List.pairwise_iff_getElem.mp hnd k i (by omega) hir (by omega) ek
          generalize hr : (firstsM (gridI g) (bN g m n) m n (u + 1) (v + 1))[i] = r at hr0 ht hrm hnot
          obtain ⟨⟨_, r1⟩, _, r2⟩ := mem_firsts hrm
          have ht7 : H7 t = some (.tup ((key r.1 r.2).map kV)) := k7 _ _ (nw_in _ _ ht) (nd6 ht)
          have lk := cnt_few om on cnt hin
          have eV := cnt.val r
          rw [if_neg hnot, Nat.add_zero] at eV
          have eR : ((valV kvs (key r.1 r.2)).getD (.int 0)) = .int ((valA g m n l1 r : Nat) : Int) := by
            rw [eV]
            by_cases c : valA g m n l1 r = 0
            · rw [if_pos c, c]
              rfl
            · rw [if_neg c]
              rfl
          refine ⟨_, rfl, d, rfl, .inr ⟨kvs, .inl hd7⟩, _, rfl, _, DGet.t (k := key r.1 r.2) hd7 ht7, _, rfl, ((valA g m n l1 r : Nat) : Int), ((W : Nat) : Int), eR, rfl, _, rfl, _, rfl, d, _, rfl, .inr ⟨kvs, key r.1 r.2, t, hd7, rfl, ht7, by omega, rfl⟩, ?_⟩
          have st8 := StD.put hd r (valA g m n l1 r + W) s7 hd7 cnt hin (by omega) r1 r2
          rw [Int.natCast_add] at st8
          refine ⟨fun c ob e nc => by rw [upd_ne nc]; exact k7 c ob e nc, st8.ext (fun q => ?_), _, _, rfl⟩
          have more : (firstsM (gridI g) (bN g m n) m n (u + 1) (v + 1)).take (i + 1) = (firstsM (gridI g) (bN g m n) m n (u + 1) (v + 1)).take i ++ [r] := by
            rw [List.take_add_one, hr0]
            rfl
          rw [more]
          by_cases c : q = r
          · rw [if_pos c, if_pos (by rw [c]; exact List.mem_append_right _ (List.mem_singleton.mpr rfl)), c]
          · rw [if_neg c]
            by_cases c2 : q ∈ (firstsM (gridI g) (bN g m n) m n (u + 1) (v + 1)).take i
            · rw [if_pos c2, if_pos (List.mem_append_left _ c2)]
            · rw [if_neg c2, if_neg fun z => (List.mem_append.mp z).elim c2 fun z => c (List.mem_singleton.mp z)]
        · rintro σ H7 ⟨_, st7, z2, z6, rfl⟩
          refine ⟨⟨l1 ++ [(u, v)], el2, st7.ext fun q => ?_⟩, _, _, _, _, rfl⟩
          rw [valA_snoc, h6len, List.take_length, hW]
          by_cases c : q ∈ firstsM (gridI g) (bN g m n) m n (u + 1) (v + 1)
          · rw [if_pos c, if_pos (mem_firsts_tight.mp c)]
          · rw [if_neg c, if_neg fun z => c (mem_firsts_tight.mpr z)]
      · refine ⟨⟨l1 ++ [(u, v)], el2, st5.ext fun q => ?_⟩, _, _, _, _, rfl⟩
        rw [valA_snoc, hW, show W = 0 from by omega]
        split <;> rfl
    · rintro σ H4 ⟨⟨l1, el1, st4⟩, y2, y4, y5, y6, rfl⟩
      refine ⟨⟨l1, ?_, st4⟩, _, _, _, _, _, rfl⟩
      rw [el1, rowFrom_end (by omega), List.nil_append]
  · rintro σ H3 ⟨⟨l1, el1, s3, ks, kvs, hd3, cnt, hin⟩, x2, x3, x4, x5, x6, rfl⟩
    rw [rowsFrom_end (m := m) (n := n) (i := 0) (j := 0) (u := m) (by omega), List.append_nil, rows_next] at el1
    refine ⟨_, rfl, hQ d ks kvs H3 s3 hd3 hin (cnt.congr fun p => ?_)⟩
    rw [← el1]
    by_cases c : p.1 < m ∧ p.2 < n
    · rw [if_pos c, begN_rec D c.1 c.2]
      rfl
    · rw [if_neg c]
      exact valA_out c _
end
end MR

set_option exponentiation.threshold 3000
namespace MR
open PySem PySem.Spec PyProof.Rows L2
open VatdfBase (Cell Row Table Bytes Pairs)
open Vatdfb (Grid Best better nextPairs withPair noPair bestAt rowBests bestsOf bestFrom at_ kthFrom)
theorem begun_mem {g : Grid} {m n : Nat} {p : Nat × Nat} : p ∈ begun g m n ↔ (p.1 < m ∧ p.2 < n) ∧ begN g m n p ≠ 0 := by
  unfold begun
  rw [List.mem_filter, mem_next, bne_iff_ne]
  constructor
  · exact fun ⟨⟨h1, h2⟩, h3⟩ => ⟨⟨h1.2, h2.2⟩, h3⟩
  · exact fun ⟨⟨h1, h2⟩, h3⟩ => ⟨⟨⟨Nat.zero_le _, h1⟩, Nat.zero_le _, h2⟩, h3⟩
theorem begun_sorted (g : Grid) (m n : Nat) : (begun g m n).Pairwise LexLt := (next_sorted m n 0 0).filter _
/-- the keys of the dict, sorted -/
theorem sorted_begun {g : Grid} {m n : Nat} {ks : Pairs} {kvs : Kvs} (cnt : CntD (fun p => if p.1 < m ∧ p.2 < n then begN g m n p else 0) ks kvs) {qs : List (Int × Int)} (hp : qs.Perm (ks.map pN)) (hs : qs.Pairwise LexLe) : qs = (begun g m n).map pN := by
  let back : Int × Int → Nat × Nat := fun p => (p.1.toNat, p.2.toNat)
  have bp : ∀ p : Nat × Nat, back (pN p) = p := fun p => rfl
  have eb : (qs.map back).map pN = qs := by
    rw [List.map_map]
    have : qs.map (pN ∘ back) = qs.map id := List.map_congr_left fun q hq => by
      obtain ⟨p, _, rfl⟩ := List.mem_map.mp (hp.mem_iff.mp hq)
      rfl
    rw [this, List.map_id]
  have pk : (qs.map back).Perm ks := by
    have := hp.map back
    rw [List.map_map] at this
    rwa [show ks.map (back ∘ pN) = ks from List.map_id ks] at this
  have nd : (qs.map back).Nodup := pk.nodup_iff.mpr cnt.nd
  rw [← eb]
  congr 1
  refine sorted_ext _ _ ?_ (begun_sorted g m n) fun x => ?_
  · rw [← eb, List.pairwise_map] at hs
    rw [List.nodup_iff_pairwise_ne] at nd
    refine (hs.and nd).imp fun {x y} h => ?_
    obtain ⟨h1, h2⟩ := h
    have h1 : ((x.1 : Nat) : Int) < (y.1 : Nat) ∨ (((x.1 : Nat) : Int) = (y.1 : Nat) ∧ ((x.2 : Nat) : Int) ≤ (y.2 : Nat)) := h1
    unfold LexLt
    by_cases c : x.1 = y.1
    · by_cases c2 : x.2 = y.2
      · exact absurd (Prod.ext c c2) h2
      · omega
    · omega
  · rw [pk.mem_iff, cnt.mem, begun_mem]
    by_cases c : x.1 < m ∧ x.2 < n
    · rw [if_pos c]
      exact ⟨fun h => ⟨c, h⟩, fun h => h.2⟩
    · rw [if_neg c]
      exact ⟨fun h => absurd rfl h, fun h => absurd h.1 c⟩
section
variable {P : Program} {w : World} {K : PySem.W.Frag} {mg : Str → Option Value} {base : Heap} {f : Addr} {fd : FuncData} {C CE CT : Addr}
abbrev s_maybe_pairs : Stmt := topS 74
theorem sc_maybe_pairs : FnScope ["least"] ["least"] (defScope s_maybe_pairs) := ⟨rfl, rfl, rfl, by decide +kernel, rfl, by decide +kernel, by decide +kernel⟩
def sp_maybe_pairs (K : PySem.W.Frag) (C : Addr) : Sp := fun vs H Q _ => ∃ (a dx : Addr) (pv : V) (g : Vatdfb.Grid) (m n : Nat) (cd wd : Addr) (kc kw : Kvs),
  vs = [.ref a] ∧ LmAt K C H a dx pv (gridI g) m n cd wd kc kw ∧ GridOk (gridI g) m n ∧ m ≤ 100 ∧ n ≤ 100 ∧ Dims g m n ∧ Told (bN g m n) m n kc kw ∧ Ans K H Q (dL dP ((begun g m n).map pN))
theorem ok_maybe_pairs (T : Tops mg) (C_beginnings : CalX P w K mg base CX0 3 "beginnings" (sp_beginnings K C)) (F : Fun K "maybe_pairs" "maybe_pairs" s_maybe_pairs f fd) : FnOk P w K mg base CX0 4 f fd ["least"] (sp_maybe_pairs K C) := by
  refine F.ok sc_maybe_pairs (fun vs H Q E h => ?_) (fun cdv A outer s H vs Q E hr h => ⟨_, (pss_one (ps_ret (pe_callB (srtK K) (by rfl) T.n_sorted (by decide +kernel) (pa_cons (pe_k C_beginnings hr (by decide) (by rfl) (fun _ => quiet) (pa_cons (pv 0) pa_nil)) pa_nil)))), ?_⟩)
  · obtain ⟨a, dx, pv, g, m, n, cd, wd, kc, kw, rfl, _⟩ := h
    rfl
  obtain ⟨a, dx, pv, g, m, n, cd, wd, kc, kw, rfl, L, o, om, on, D, hB, hQ⟩ := h
  refine ⟨_, rfl, a, dx, pv, g, m, n, cd, wd, kc, kw, rfl, L, o, om, on, D, hB, fun d ks kvs H1 s1 hd hin cnt => ?_⟩
  have few := cnt_few om on cnt hin
  refine ⟨d, kvs, ks.map pN, rfl, hd, by rw [cnt.keys, List.map_map]; rfl, by omega, fun qs bs p hp hs ht np => ?_⟩
  have eq := sorted_begun cnt hp hs
  subst eq
  refine hQ _ _ (s1.trans (Same.made1 np)) ?_
  exact .lst (SqL.of upd_same) (dmonoAll (Same.made1 np) ht.dp)

abbrev s_surely_pairs : Stmt := topS 73
theorem sc_surely_pairs : FnScope ["least", "begun", "pair"] ["least"] (defScope s_surely_pairs) := ⟨rfl, rfl, rfl, by decide +kernel, rfl, by decide +kernel, by decide +kernel⟩
def sureM (g : Grid) (m n : Nat) : Pairs := (begun g m n).filter fun p => begN g m n p * (bestFrom (bestsOf g m n) (p.1 + 1) (p.2 + 1)).many == (bestFrom (bestsOf g m n) 0 0).many
def sp_surely_pairs (K : PySem.W.Frag) (C : Addr) : Sp := fun vs H Q _ => ∃ (a dx : Addr) (pv : V) (g : Vatdfb.Grid) (m n : Nat) (cd wd : Addr) (kc kw : Kvs),
  vs = [.ref a] ∧ LmAt K C H a dx pv (gridI g) m n cd wd kc kw ∧ GridOk (gridI g) m n ∧ m ≤ 100 ∧ n ≤ 100 ∧ Dims g m n ∧ Told (bN g m n) m n kc kw ∧ Ans K H Q (dL dP ((sureM g m n).map pN))
theorem ok_surely_pairs (T : Tops mg) (C_beginnings : CalX P w K mg base CX0 3 "beginnings" (sp_beginnings K C)) (C_LeastMatchings_ways_behind : MetX P w K mg base CX0 1 C "ways_behind" (sp_ways_behind K C)) (C_LeastMatchings_how_many : MetX P w K mg base CX0 1 C "how_many" (sp_how_many K C)) (F : Fun K "surely_pairs" "surely_pairs" s_surely_pairs f fd) :
    FnOk P w K mg base CX0 4 f fd ["least"] (sp_surely_pairs K C) := by
  refine F.ok sc_surely_pairs (fun vs H Q E h => ?_) (fun cdv A outer s H vs Q E hr h => ⟨_, (pss_cons (ps_set (i := 1) sc_surely_pairs.nd rfl (Or.inr rfl) (pe_k C_beginnings hr (by decide) (by rfl) (fun _ => quiet) (pa_cons (pv 0) pa_nil)))
  (pss_one (ps_ret (pe_lc (own := [("pair", 2)]) rfl sc_surely_pairs.nd (lstK K (pe_callB (srtK K) (by rfl) T.n_sorted (by decide +kernel) (pa_cons (pv 1) pa_nil))) (blkOk_by (N := ["least", "begun", "pair"]) (sc := defScope s_surely_pairs) (by decide +kernel)) (fun _ _ _ _ _ => (pg_name (i := 2) sc_surely_pairs.nd rfl (Or.inl rfl))) (fun _ _ _ _ _ => (pts_one (pt_cmpR op_eqI (pe_op op_mulW (pe_dget (hu_of hr) (pv 1) (pv 2) (fun _ _ => rfl)) (pe_m (pv 0) C_LeastMatchings_ways_behind hr (by decide) (fun _ => quiet) (pa_cons (pv 2) pa_nil))) (pe_m0 (pv 0) C_LeastMatchings_how_many hr (by decide) (fun _ => quiet)) (nomark _)))) (fun _ _ _ _ _ => (pv 2)))))), ?_⟩)
  · obtain ⟨a, dx, pv, g, m, n, cd, wd, kc, kw, rfl, _⟩ := h
    rfl
  obtain ⟨a, dx, pv, g, m, n, cd, wd, kc, kw, rfl, L, o, om, on, D, hB, hQ⟩ := h
  refine ⟨_, rfl, a, dx, pv, g, m, n, cd, wd, kc, kw, rfl, L, o, om, on, D, hB, fun d ks kvs H1 s1 hd hin cnt => ?_⟩
  have few := cnt_few om on cnt hin
  refine ⟨_, rfl, d, kvs, ks.map pN, rfl, hd, by rw [cnt.keys, List.map_map]; rfl, by omega, fun qs bs p hp hs ht np => ?_⟩
  have eq := sorted_begun cnt hp hs
  subst eq
  have s2 : Same H1 (upd H1 p (.lst bs)) := Same.made1 np
  have hp2 : upd H1 p (.lst bs) p = some (.lst bs) := upd_same
  generalize upd H1 p (.lst bs) = H2 at s2 hp2 ⊢
  have ht2 := ht.mono s2
  have hbl : bs.length = (begun g m n).length := by rw [ht.1, List.length_map]
  have hbs : (begun g m n).length ≤ 10000 := by
    unfold begun
    have h1 := List.length_filter_le (fun p => begN g m n p != 0) (nextPairs m n 0 0)
    rw [next_len, Nat.sub_zero, Nat.sub_zero] at h1
    have : m * n ≤ 100 * 100 := Nat.mul_le_mul om on
    omega
  have s02 := s1.trans s2
  refine ⟨p, rfl, ⟨bs, SqL.of hp2⟩, fun D2 hD2 => ?_⟩
  refine lc_any (K := K) D2 bs.length (fun i => ((begun g m n)[i]?).bind fun q => if (begN g m n q * (bestFrom (bestsOf g m n) (q.1 + 1) (q.2 + 1)).many == (bestFrom (bestsOf g m n) 0 0).many) = true then some (dP (pN q)) else none) (by omega) hD2 (fun i H3 k => go_list (SqL.of (k _ _ hp2)) i) ?_ ?_
  · rintro i H3 acc hi s3 hacc x _ ⟨rfl, hx⟩ Kt Kf hkt hkf
    have hx := hx bs (SqL.of (s3 _ _ hp2))
    have hib : i < (begun g m n).length := by omega
    have hq0 : (begun g m n)[i]? = some (begun g m n)[i] := List.getElem?_eq_getElem hib
    obtain ⟨t, rfl, htt⟩ := ht2.2 i x (pN (begun g m n)[i]) hx (by rw [List.getElem?_map, hq0]; rfl)
    have hmem := begun_mem.mp (List.getElem_mem hib)
    generalize (begun g m n)[i] = q at hq0 htt hmem
    obtain ⟨⟨q1, q2⟩, qn⟩ := hmem
    rw [hq0] at hkt hkf
    have s03 := s02.trans s3
    have ht3 := s3 _ _ htt
    have eV : valV kvs (key q.1 q.2) = some (.int ((begN g m n q : Nat) : Int)) := by
      have e1 := cnt.val q
      have e2 : (if q.1 < m ∧ q.2 < n then begN g m n q else 0) = begN g m n q := if_pos ⟨q1, q2⟩
      rw [e2] at e1
      rw [e1, if_neg qn]
    have tD : t ≠ D2 := ne_of_none htt hD2
    obtain ⟨_, hw0⟩ := hB 0 0 (Nat.zero_le _) (Nat.zero_le _)
    refine ⟨rfl, _, rfl, _, rfl, d, _, rfl, by rw [← eV]; exact DGet.t (k := key q.1 q.2) ((s2.trans s3) _ _ hd) ht3, _, rfl, a, dx, _, rfl, s03 _ _ L.ob, rfl, _, rfl, a, dx, pv, gridI g, m, n, cd, wd, kc, kw, bN g m n, t, q, rfl, L.same s03, hB, .inl (.inl ht3), q1, q2, fun H4 s4 => ?_⟩
    have s04 := s03.trans s4
    refine ⟨_, _, rfl, rfl, ?_, _, rfl, a, dx, _, rfl, s04 _ _ L.ob, rfl, a, dx, pv, gridI g, m, n, cd, wd, kc, kw, _, rfl, L.same s04, hw0, fun H5 s5 => ?_⟩
    · have b1 := begN_bound (g := g) om on q
      have b2 := beh_bound (g := g) om on q1 q2
      have hlt : 2 ^ 1500 < 2 ^ 1501 := Nat.pow_lt_pow_right (by decide) (by decide)
      exact wide_mul (a := 1501) (b := 1501) (by rw [Int.natAbs_natCast]; exact Nat.lt_of_le_of_lt b1 hlt) (by show (((bestFrom (bestsOf g m n) (q.1 + 1) (q.2 + 1)).many : Nat) : Int).natAbs < _; rw [Int.natAbs_natCast]; exact Nat.lt_of_le_of_lt b2 hlt) (by decide) (by decide) (by decide)
    refine ⟨_, _, rfl, rfl, _, rfl, ?_⟩
    refine ite_dec (c := (begN g m n q * (bestFrom (bestsOf g m n) (q.1 + 1) (q.2 + 1)).many == (bestFrom (bestsOf g m n) 0 0).many) = true) (decide_eq_decide.mpr ?_) (fun c => ?_) (fun c => ?_)
    · show ((begN g m n q : Nat) : Int) * ((bestFrom (bestsOf g m n) (q.1 + 1) (q.2 + 1)).many : Nat) = ((bestFrom (bestsOf g m n) 0 0).many : Nat) ↔ _
      rw [← Int.natCast_mul, beq_iff_eq]
      omega
    · refine ⟨_, rfl, hkt _ _ _ (if_pos c) (s4.trans s5) ?_⟩
      exact .tup (.inl (.inl (hd_of tD (hd_of tD ((s4.trans s5) _ _ ht3))))) (.cons (.int _) (.cons (.int _) .nil))
    · exact hkf _ (if_neg c) (s4.trans s5)
  · intro H3 acc s3 h3 d3
    rw [hbl, fm_range (begun g m n) (fun q => if (begN g m n q * (bestFrom (bestsOf g m n) (q.1 + 1) (q.2 + 1)).many == (bestFrom (bestsOf g m n) 0 0).many) = true then some (dP (pN q)) else none)] at d3
    refine hQ _ _ (s02.trans s3) ?_
    have e : dL dP ((sureM g m n).map pN) = PyData.list ((begun g m n).filterMap fun q => if (begN g m n q * (bestFrom (bestsOf g m n) (q.1 + 1) (q.2 + 1)).many == (bestFrom (bestsOf g m n) 0 0).many) = true then some (dP (pN q)) else none) := by
      rw [dP_pN]
      unfold sureM
      congr 1
      induction begun g m n with
      | nil => rfl
      | cons q l ih =>
        rw [List.filter_cons, List.filterMap_cons]
        by_cases c : (begN g m n q * (bestFrom (bestsOf g m n) (q.1 + 1) (q.2 + 1)).many == (bestFrom (bestsOf g m n) 0 0).many) = true
        · rw [if_pos c, if_pos c, List.map_cons, ih]
        · rw [if_neg c, if_neg c, ih]
    rw [e]
    exact .lst (SqL.of h3) (dmonoAll (fun b o z => (hd_ne (hd_ne z).2).2) d3)
end
end MR

namespace MR
open PySem PySem.Spec PyProof.Rows L2
open VatdfBase (Cell Row Table Bytes Pairs)
theorem step_maybe (a b : Table) (cols : Pairs) : Vatdfb.step ⟨some (a, b), cols⟩ .mayBe = (⟨some (a, b), cols⟩, toldPairs ((begun (costsOf a b cols) a.rows.length b.rows.length).map pN)) := by
  rw [toldPairs_pN]
  show (_, VatdfFlat.flatPairs (Vatdfb.mayBe (Vatdfb.work a b cols))) = _
  rw [mayBe_eq _ rfl]
  rfl
theorem step_surely (a b : Table) (cols : Pairs) : Vatdfb.step ⟨some (a, b), cols⟩ .surely = (⟨some (a, b), cols⟩, toldPairs ((sureM (costsOf a b cols) a.rows.length b.rows.length).map pN)) := by
  rw [toldPairs_pN]
  show (_, VatdfFlat.flatPairs (Vatdfb.surely (Vatdfb.work a b cols))) = _
  rw [surely_eq _ rfl]
  rfl
theorem begun_len {g : Vatdfb.Grid} {m n : Nat} (hm : m ≤ 12) (hn : n ≤ 12) : (begun g m n).length ≤ 144 := by
  unfold begun
  have h1 := List.length_filter_le (fun p => begN g m n p != 0) (Vatdfb.nextPairs m n 0 0)
  rw [next_len, Nat.sub_zero, Nat.sub_zero] at h1
  have : m * n ≤ 12 * 12 := Nat.mul_le_mul hm hn
  omega
section
variable {P : Program} {w : World} {K : PySem.W.Frag} {mg : Str → Option Value} {base : Heap} {f : Addr} {fd : FuncData} {C CE CT CL CM CW XT XC XR XP XN XK_ : Addr}
abbrev s_answer_surely : Stmt := topS 84
theorem sc_answer_surely : FnScope ["both", "handed"] ["both", "handed"] (defScope s_answer_surely) := ⟨rfl, rfl, rfl, by decide +kernel, rfl, by decide +kernel, by decide +kernel⟩
def sp_answer_surely (K : PySem.W.Frag) (CT CL CM CW XN : Addr) : Sp := fun vs H Q E => ∃ (s : Addr) (hv : V) (st : Vatdfb.State), vs = [.ref s, hv] ∧ StAt K CT CL CM CW H s st ∧
  (st.tables = none → Refuse E H XN) ∧ Gives K CT CL CM CW H s Q (Vatdfb.step st .surely)
theorem ok_answer_surely (S : MtC K CM) (C_TwoTables_matched : MetX P w K mg base (L2.CX P w) 1 CW "matched" (sp_matched K CW XN)) (C_surely_pairs : CalX P w K mg base CX0 4 "surely_pairs" (sp_surely_pairs K CL)) (C_told_pairs : CalX P w K mg base CX0 1 "told_pairs" (sp_told_pairs K)) (F : Fun K "answer_surely" "answer_surely" s_answer_surely f fd) :
    FnOk P w K mg base (L2.CX P w) 5 f fd ["both", "handed"] (sp_answer_surely K CT CL CM CW XN) := by
  refine F.okX sc_answer_surely (fun vs H Q E h => ?_) (fun cdv A outer s H vs Q E hr h => ⟨_, (pss_one (ps_ret (pe_k C_told_pairs hr (by decide) (by rfl) (fun _ => quiet) (pa_cons (pe_k C_surely_pairs hr (by decide) (by rfl) (fun _ => quiet) (pa_cons (fldK K (pe_m0 (pv 0) C_TwoTables_matched hr (by decide) (loud (takes_of rfl rfl rfl rfl)))) pa_nil)) pa_nil)))), ?_⟩)
  · obtain ⟨s, hv, st, rfl, _⟩ := h
    rfl
  obtain ⟨s, hv, st, rfl, hst, hN, hQ⟩ := h
  obtain ⟨stt, cols⟩ := st
  cases stt with
  | none =>
    obtain ⟨dx, hs⟩ := hst
    exact ⟨_, rfl, s, dx, _, rfl, hs, rfl, s, dx, .non, rfl, hs, .inl ⟨rfl, hN rfl⟩⟩
  | some t =>
  obtain ⟨a, b⟩ := t
  have hst : TwAt K CT CL CM CW H s a b cols := hst
  obtain ⟨G, dx, h, d, o, n, y, p, l, dl, cd, wd, kc, kw, hs, X⟩ := id hst
  have hsm := G.small
  refine ⟨_, rfl, s, dx, _, rfl, hs, rfl, s, dx, .ref h, rfl, hs, .inr ⟨(fun z => nomatch z), ?_⟩⟩
  refine ⟨h, CM, d, _, _, rfl, X.ob, S.cl, S.n5, rfl, l, dl, p, costsOf a b cols, _, _, cd, wd, kc, kw, rfl, X.lm, G.gridOk, hsm.1, hsm.2, dims_of a b cols, X.td, fun v1 H1 s1 d1 => ?_⟩
  unfold Gives at hQ
  rw [step_surely] at hQ
  have hl : (sureM (costsOf a b cols) a.rows.length b.rows.length).length ≤ 144 := Nat.le_trans (List.length_filter_le _ _) (begun_len (isTable_sz G.oa).2 (isTable_sz G.ob).2)
  refine ⟨v1, _, rfl, d1, by rw [List.length_map]; omega, fun q H2 s2 nq hq => ?_⟩
  have s02 := s1.trans s2
  exact hQ _ q (KpB.same s02) (Same.tk s02) (TwAt.same hst s02) (s1.free nq) hq

abbrev s_answer_maybe : Stmt := topS 85
theorem sc_answer_maybe : FnScope ["both", "handed"] ["both", "handed"] (defScope s_answer_maybe) := ⟨rfl, rfl, rfl, by decide +kernel, rfl, by decide +kernel, by decide +kernel⟩
def sp_answer_maybe (K : PySem.W.Frag) (CT CL CM CW XN : Addr) : Sp := fun vs H Q E => ∃ (s : Addr) (hv : V) (st : Vatdfb.State), vs = [.ref s, hv] ∧ StAt K CT CL CM CW H s st ∧
  (st.tables = none → Refuse E H XN) ∧ Gives K CT CL CM CW H s Q (Vatdfb.step st .mayBe)
theorem ok_answer_maybe (S : MtC K CM) (C_TwoTables_matched : MetX P w K mg base (L2.CX P w) 1 CW "matched" (sp_matched K CW XN)) (C_maybe_pairs : CalX P w K mg base CX0 4 "maybe_pairs" (sp_maybe_pairs K CL)) (C_told_pairs : CalX P w K mg base CX0 1 "told_pairs" (sp_told_pairs K)) (F : Fun K "answer_maybe" "answer_maybe" s_answer_maybe f fd) :
    FnOk P w K mg base (L2.CX P w) 5 f fd ["both", "handed"] (sp_answer_maybe K CT CL CM CW XN) := by
  refine F.okX sc_answer_maybe (fun vs H Q E h => ?_) (fun cdv A outer s H vs Q E hr h => ⟨_, (pss_one (ps_ret (pe_k C_told_pairs hr (by decide) (by rfl) (fun _ => quiet) (pa_cons (pe_k C_maybe_pairs hr (by decide) (by rfl) (fun _ => quiet) (pa_cons (fldK K (pe_m0 (pv 0) C_TwoTables_matched hr (by decide) (loud (takes_of rfl rfl rfl rfl)))) pa_nil)) pa_nil)))), ?_⟩)
  · obtain ⟨s, hv, st, rfl, _⟩ := h
    rfl
  obtain ⟨s, hv, st, rfl, hst, hN, hQ⟩ := h
  obtain ⟨stt, cols⟩ := st
  cases stt with
  | none =>
    obtain ⟨dx, hs⟩ := hst
    exact ⟨_, rfl, s, dx, _, rfl, hs, rfl, s, dx, .non, rfl, hs, .inl ⟨rfl, hN rfl⟩⟩
  | some t =>
  obtain ⟨a, b⟩ := t
  have hst : TwAt K CT CL CM CW H s a b cols := hst
  obtain ⟨G, dx, h, d, o, n, y, p, l, dl, cd, wd, kc, kw, hs, X⟩ := id hst
  have hsm := G.small
  refine ⟨_, rfl, s, dx, _, rfl, hs, rfl, s, dx, .ref h, rfl, hs, .inr ⟨(fun z => nomatch z), ?_⟩⟩
  refine ⟨h, CM, d, _, _, rfl, X.ob, S.cl, S.n5, rfl, l, dl, p, costsOf a b cols, _, _, cd, wd, kc, kw, rfl, X.lm, G.gridOk, hsm.1, hsm.2, dims_of a b cols, X.td, fun v1 H1 s1 d1 => ?_⟩
  unfold Gives at hQ
  rw [step_maybe] at hQ
  have hl : (begun (costsOf a b cols) a.rows.length b.rows.length).length ≤ 144 := begun_len (isTable_sz G.oa).2 (isTable_sz G.ob).2
  refine ⟨v1, _, rfl, d1, by rw [List.length_map]; omega, fun q H2 s2 nq hq => ?_⟩
  have s02 := s1.trans s2
  exact hQ _ q (KpB.same s02) (Same.tk s02) (TwAt.same hst s02) (s1.free nq) hq
end
end MR

/-! In whatever order: the tables over sets are a function. -/
namespace MR
open VatdfBase (Cell Row Table Bytes Pairs)
open Vatdfb (Grid at_ has taken freeStep freeEnd freeTables freeFrom)
theorem has_false {s j : Nat} : has s j = false ↔ s / 2 ^ j % 2 = 0 := by
  unfold has
  constructor
  · intro h
    have h : ¬ s / 2 ^ j % 2 = 1 := by simpa using h
    omega
  · intro h
    rw [h]
    rfl
theorem put_lt {n s j : Nat} (hs : s < 2 ^ n) (hj : j < n) (h : has s j = false) : s + 2 ^ j < 2 ^ n := by
  have h := has_false.mp h
  have hp : 0 < 2 ^ j := Nat.two_pow_pos j
  have e1 : s = 2 ^ j * (s / 2 ^ j) + s % 2 ^ j := (Nat.div_add_mod s (2 ^ j)).symm
  have hr : s % 2 ^ j < 2 ^ j := Nat.mod_lt _ hp
  obtain ⟨q, hq⟩ : ∃ q, s / 2 ^ j = 2 * q := ⟨s / 2 ^ j / 2, by omega⟩
  obtain ⟨d, hd⟩ : ∃ d, n = j + 1 + d := ⟨n - j - 1, by omega⟩
  have e2 : 2 ^ n = 2 ^ j * (2 * 2 ^ d) := by rw [hd, Nat.pow_add, Nat.pow_add, Nat.pow_one, Nat.mul_assoc]
  rw [hq] at e1
  have hlt : 2 * q < 2 * 2 ^ d := by
    refine Nat.lt_of_mul_lt_mul_left (a := 2 ^ j) ?_
    rw [← e2]
    omega
  have hle : 2 * q + 2 ≤ 2 * 2 ^ d := by omega
  have := Nat.mul_le_mul_left (2 ^ j) hle
  rw [Nat.mul_add, ← e2] at this
  omega
/-- the least cost of the last d old rows, with new rows taken as told -/
def fD (g : Grid) (m n : Nat) : Nat → Nat → Nat
  | 0, s => 3 * (n - taken n s)
  | d + 1, s => ((List.range n).filter fun j => !has s j).foldl (fun b j => Nat.min b (at_ g (m - 1 - d) j + fD g m n d (s + 2 ^ j))) (3 + fD g m n d s)
def fT (g : Grid) (m n d : Nat) : List Nat := (List.range (2 ^ n)).map (fD g m n d)
theorem fT_at {g : Grid} {m n d s : Nat} (h : s < 2 ^ n) : (fT g m n d)[s]? = some (fD g m n d s) := by
  unfold fT
  rw [List.getElem?_map, List.getElem?_range h]
  rfl
theorem fT_end (g : Grid) (m n : Nat) : freeEnd n = fT g m n 0 := rfl
theorem fT_step (g : Grid) (m n d : Nat) : freeStep g n (m - 1 - d) (fT g m n d) = fT g m n (d + 1) := by
  unfold freeStep
  show _ = (List.range (2 ^ n)).map (fD g m n (d + 1))
  refine List.map_congr_left fun s hs => ?_
  have hs := List.mem_range.mp hs
  rw [fT_at hs]
  show List.foldl _ (3 + fD g m n d s) _ = _
  refine foldl_ext fun b j hj => ?_
  obtain ⟨h1, h2⟩ := List.mem_filter.mp hj
  have h2 : has s j = false := by simpa using h2
  rw [fT_at (put_lt hs (List.mem_range.mp h1) h2)]
  rfl
theorem tabs_fold (g : Grid) (m n : Nat) : ∀ k, (List.range k).foldl (fun l k => freeStep g n (m - 1 - k) (l.headD (freeEnd n)) :: l) [freeEnd n] = ((List.range (k + 1)).map (fT g m n)).reverse
  | 0 => rfl
  | k + 1 => by
    rw [List.range_succ, List.foldl_append, tabs_fold g m n k]
    show freeStep g n (m - 1 - k) ((((List.range (k + 1)).map (fT g m n)).reverse).headD (freeEnd n)) :: _ = _
    have e : (((List.range (k + 1)).map (fT g m n)).reverse).headD (freeEnd n) = fT g m n k := by
      rw [List.range_succ, List.map_append, List.reverse_append]
      rfl
    rw [e, fT_step, List.range_succ (n := k + 1), List.map_append, List.reverse_append]
    rfl
theorem tabs_eq (g : Grid) (m n : Nat) : freeTables g m n = ((List.range (m + 1)).map (fT g m n)).reverse := tabs_fold g m n m
/-- the first least one, of the last d old rows -/
def freeR (g : Grid) (m n : Nat) : Nat → Nat → Pairs
  | 0, _ => []
  | d + 1, s => match ((List.range n).filter fun j => !has s j).find? fun j => at_ g (m - 1 - d) j + fD g m n d (s + 2 ^ j) == fD g m n (d + 1) s with
    | some j => (m - 1 - d, j) :: freeR g m n d (s + 2 ^ j)
    | none => freeR g m n d s
theorem find_ext {α : Type} {p q : α → Bool} : ∀ {l : List α}, (∀ a ∈ l, p a = q a) → l.find? p = l.find? q
  | [], _ => rfl
  | a :: l, h => by
    rw [List.find?_cons, List.find?_cons, h a List.mem_cons_self, find_ext fun b hb => h b (List.mem_cons_of_mem _ hb)]
theorem freeFrom_eq (g : Grid) (m n : Nat) : ∀ (d s : Nat), d ≤ m → s < 2 ^ n → freeFrom g n (m - d) s (((List.range (d + 1)).map (fT g m n)).reverse) = freeR g m n d s
  | 0, s, _, _ => rfl
  | d + 1, s, hd, hs => by
    have e : ((List.range (d + 1 + 1)).map (fT g m n)).reverse = fT g m n (d + 1) :: fT g m n d :: ((List.range d).map (fT g m n)).reverse := by
      rw [List.range_succ, List.map_append, List.reverse_append, List.range_succ, List.map_append, List.reverse_append]
      rfl
    have e2 : ((List.range (d + 1)).map (fT g m n)).reverse = fT g m n d :: ((List.range d).map (fT g m n)).reverse := by
      rw [List.range_succ, List.map_append, List.reverse_append]
      rfl
    rw [e]
    have em : m - (d + 1) = m - 1 - d := by omega
    have em2 : m - (d + 1) + 1 = m - d := by omega
    show (match ((List.range n).filter fun j => !has s j).find? (fun j => at_ g (m - (d + 1)) j + ((fT g m n d)[s + 2 ^ j]?).getD 0 == ((fT g m n (d + 1))[s]?).getD 0) with
      | some j => (m - (d + 1), j) :: freeFrom g n (m - (d + 1) + 1) (s + 2 ^ j) (fT g m n d :: ((List.range d).map (fT g m n)).reverse)
      | none => freeFrom g n (m - (d + 1) + 1) s (fT g m n d :: ((List.range d).map (fT g m n)).reverse)) = _
    rw [← e2, em2, em, fT_at hs]
    have ef : (((List.range n).filter fun j => !has s j).find? fun j => at_ g (m - 1 - d) j + ((fT g m n d)[s + 2 ^ j]?).getD 0 == (some (fD g m n (d + 1) s)).getD 0) = ((List.range n).filter fun j => !has s j).find? fun j => at_ g (m - 1 - d) j + fD g m n d (s + 2 ^ j) == fD g m n (d + 1) s := by
      refine find_ext fun j hj => ?_
      obtain ⟨h1, h2⟩ := List.mem_filter.mp hj
      have h2 : has s j = false := by simpa using h2
      rw [fT_at (put_lt hs (List.mem_range.mp h1) h2)]
      rfl
    rw [ef]
    have er : freeR g m n (d + 1) s = match ((List.range n).filter fun j => !has s j).find? fun j => at_ g (m - 1 - d) j + fD g m n d (s + 2 ^ j) == fD g m n (d + 1) s with
      | some j => (m - 1 - d, j) :: freeR g m n d (s + 2 ^ j)
      | none => freeR g m n d s := rfl
    rw [er]
    cases ec : ((List.range n).filter fun j => !has s j).find? fun j => at_ g (m - 1 - d) j + fD g m n d (s + 2 ^ j) == fD g m n (d + 1) s with
    | none => exact freeFrom_eq g m n d s (by omega) hs
    | some j =>
      have hj := List.mem_of_find?_eq_some ec
      obtain ⟨h1, h2⟩ := List.mem_filter.mp hj
      have h2 : has s j = false := by simpa using h2
      show _ :: _ = _ :: _
      rw [freeFrom_eq g m n d (s + 2 ^ j) (by omega) (put_lt hs (List.mem_range.mp h1) h2)]
theorem free_eq (w : Vatdfb.Worked) : Vatdfb.free w = (fD w.grid w.m w.n w.m 0, freeR w.grid w.m w.n w.m 0) := by
  have hp : (0 : Nat) < 2 ^ w.n := Nat.two_pow_pos _
  unfold Vatdfb.free
  rw [tabs_eq]
  have e : ((List.range (w.m + 1)).map (fT w.grid w.m w.n)).reverse = fT w.grid w.m w.n w.m :: ((List.range w.m).map (fT w.grid w.m w.n)).reverse := by
    rw [List.range_succ, List.map_append, List.reverse_append]
    rfl
  have f := freeFrom_eq w.grid w.m w.n w.m 0 (Nat.le_refl _) hp
  rw [Nat.sub_self] at f
  show ((((List.range (w.m + 1)).map (fT w.grid w.m w.n)).reverse.head?.bind fun x => x.head?).getD 0, freeFrom w.grid w.n 0 0 ((List.range (w.m + 1)).map (fT w.grid w.m w.n)).reverse) = _
  rw [f, e]
  congr 1
  show ((fT w.grid w.m w.n w.m).head?).getD 0 = _
  rw [List.head?_eq_getElem?, fT_at hp]
  rfl
end MR

namespace MR
open PySem PySem.Spec PyProof.Rows L2
open VatdfBase (Cell Row Table Bytes Pairs)
open Vatdfb (Grid at_ has taken)
/-- the class of free matchings -/
structure FmC (K : PySem.W.Frag) (C : Addr) : Prop where
  cl : Cls K C
  n1 : NoAttr K C "pair_costs"
  n2 : NoAttr K C "old_count"
  n3 : NoAttr K C "new_count"
  n4 : NoAttr K C "costs"
def fmF (pv : V) (m n : Nat) (cd : Addr) : List (Str × V) := [("pair_costs", pv), ("old_count", .int (m : Nat)), ("new_count", .int (n : Nat)), ("costs", .ref cd)]
/-- such an object in the heap -/
structure FmAt (K : PySem.W.Frag) (C : Addr) (H : Hp) (a dx : Addr) (pv : V) (g : List (List Int)) (m n : Nat) (cd : Addr) (kc : Kvs) : Prop where
  ob : H a = some (.ins C dx (fmF pv m n cd))
  co : H cd = some (.dT kc)
  da : Dp K H pv (dL dLI g)
theorem FmAt.same {K : PySem.W.Frag} {C : Addr} {H H' : Hp} {a dx : Addr} {pv : V} {g : List (List Int)} {m n : Nat} {cd : Addr} {kc : Kvs} (h : FmAt K C H a dx pv g m n cd kc) (s : Same H H') : FmAt K C H' a dx pv g m n cd kc := ⟨s _ _ h.ob, s _ _ h.co, dmono s h.da⟩
/-- what is told behind some old row -/
def ToldF (g : Grid) (m n i : Nat) (kc : Kvs) : Prop := ∀ p s, i ≤ p → p ≤ m → s < 2 ^ n → valV kc (key p s) = some (.int ((fD g m n (m - p) s : Nat) : Int))
/-- the new rows that aren't taken -/
def leftN (n s : Nat) : List Nat := (List.range n).filter fun j => !has s j
theorem left_mem {n s j : Nat} : j ∈ leftN n s ↔ j < n ∧ s / 2 ^ j % 2 = 0 := by
  unfold leftN
  rw [List.mem_filter, List.mem_range, ← has_false]
  constructor
  · exact fun ⟨h1, h2⟩ => ⟨h1, by simpa using h2⟩
  · exact fun ⟨h1, h2⟩ => ⟨h1, by rw [h2]; rfl⟩
theorem left_len (n s : Nat) : (leftN n s).length = n - taken n s := by
  unfold leftN taken
  have h := List.length_eq_countP_add_countP (has s) (l := List.range n)
  rw [List.length_range] at h
  rw [← List.countP_eq_length_filter]
  have e : (List.range n).countP (fun j => !has s j) = (List.range n).countP (fun a => decide ¬ has s a = true) := countP_ext fun j _ => by cases has s j <;> rfl
  rw [e]
  omega
theorem left_le (n s : Nat) : (leftN n s).length ≤ n := by
  rw [left_len]
  omega
/-- the least of some numbers -/
theorem min_fold : ∀ (l : List Nat) (a : Nat), l.foldl Nat.min a ∈ a :: l ∧ ∀ y ∈ a :: l, l.foldl Nat.min a ≤ y
  | [], a => ⟨List.mem_cons_self, fun y hy => by rw [List.mem_singleton.mp hy]; exact Nat.le_refl _⟩
  | x :: l, a => by
    obtain ⟨h1, h2⟩ := min_fold l (Nat.min a x)
    rw [List.foldl_cons]
    have le1 : Nat.min a x ≤ a := Nat.min_le_left a x
    have le2 : Nat.min a x ≤ x := Nat.min_le_right a x
    refine ⟨?_, fun y hy => ?_⟩
    · rcases List.mem_cons.mp h1 with q | q
      · rw [q]
        rcases Nat.le_total a x with z | z
        · rw [show Nat.min a x = a from Nat.min_eq_left z]
          exact List.mem_cons_self
        · rw [show Nat.min a x = x from Nat.min_eq_right z]
          exact List.mem_cons_of_mem _ List.mem_cons_self
      · exact List.mem_cons_of_mem _ (List.mem_cons_of_mem _ q)
    · have h0 := h2 _ List.mem_cons_self
      rcases List.mem_cons.mp hy with q | q
      · rw [q]
        omega
      · rcases List.mem_cons.mp q with q | q
        · rw [q]
          omega
        · exact h2 y (List.mem_cons_of_mem _ q)
theorem fold_min_map {α : Type} (f : α → Nat) : ∀ (l : List α) (a : Nat), l.foldl (fun b j => Nat.min b (f j)) a = (l.map f).foldl Nat.min a
  | [], _ => rfl
  | x :: l, a => by
    rw [List.foldl_cons, List.map_cons, List.foldl_cons, fold_min_map f l]
theorem fD_succ (g : Grid) (m n d s : Nat) : fD g m n (d + 1) s = ((leftN n s).map fun j => at_ g (m - 1 - d) j + fD g m n d (s + 2 ^ j)).foldl Nat.min (3 + fD g m n d s) := by
  rw [← fold_min_map]
  rfl
section
variable {P : Program} {w : World} {K : PySem.W.Frag} {mg : Str → Option Value} {base : Heap} {f : Addr} {fd : FuncData} {C CE CT : Addr}
abbrev s_FreeMatchings_rows_left : Stmt := inClass (topS 25) 2
theorem sc_FreeMatchings_rows_left : FnScope ["self", "taken", "new"] ["self", "taken"] (defScope s_FreeMatchings_rows_left) := ⟨rfl, rfl, rfl, by decide +kernel, rfl, by decide +kernel, by decide +kernel⟩
def sp_rows_left (K : PySem.W.Frag) (C : Addr) : Sp := fun vs H Q _ => ∃ (a dx : Addr) (pv : V) (g : List (List Int)) (m n : Nat) (cd : Addr) (kc : Kvs) (s : Nat), vs = [.ref a, .int (s : Nat)] ∧ FmAt K C H a dx pv g m n cd kc ∧ n ≤ 1000 ∧ New K H Q (dLI ((leftN n s).map Int.ofNat))
theorem ok_rows_left (T : Tops mg) (S : FmC K C) (F : Fun K "rows_left" "FreeMatchings.rows_left" s_FreeMatchings_rows_left f fd) : FnOk P w K mg base CX0 1 f fd ["self", "taken"] (sp_rows_left K C) := by
  refine F.ok sc_FreeMatchings_rows_left (fun vs H Q E h => ?_) (fun cdv A outer s H vs Q E hr h => ⟨_, (pss_one (ps_ret (pe_lc (own := [("new", 2)]) rfl sc_FreeMatchings_rows_left.nd (pi_range1 (by rfl) T.n_range (pa_cons (fldK K (pv 0)) pa_nil)) (blkOk_by (N := ["self", "taken", "new"]) (sc := defScope s_FreeMatchings_rows_left) (by decide +kernel)) (fun _ _ _ _ _ => (pg_name (i := 2) sc_FreeMatchings_rows_left.nd rfl (Or.inl rfl))) (fun _ _ _ _ _ => (pts_one (pt_cmpR op_eqI (pe_op op_odd (pe_op op_shrK (pv 1) (pv 2)) pe_int) pe_int (nomark _)))) (fun _ _ _ _ _ => (pv 2))))), ?_⟩)
  · obtain ⟨a, dx, pv, g, m, n, cd, kc, s, rfl, _⟩ := h
    rfl
  obtain ⟨a, dx, pv, g, m, n, cd, kc, s, rfl, L, on, h⟩ := h
  refine ⟨_, rfl, a, C, dx, _, _, rfl, L.ob, S.cl, S.n3, rfl, (n : Int), rfl, by omega, by omega, fun D hD => ?_⟩
  refine lc_R (K := K) (lo := 0) (fun j => if has s j = true then none else some (dI (j : Int))) (by omega) hD ?_ ?_
  · intro j H2 acc hj s2 hacc Kt Kf ht hf
    have ez : (0 : Int) + (j : Int) = (j : Nat) := by omega
    refine ⟨rfl, _, rfl, _, rfl, s, j, rfl, by rw [ez], _, rfl, rfl, _, _, rfl, rfl, _, rfl, ?_⟩
    refine ite_dec (c := ¬ has s j = true) (decide_eq_decide.mpr ?_) (fun c => ?_) (fun c => ?_)
    · have := has_false (s := s) (j := j)
      cases e : has s j with
      | true =>
        rw [e] at this
        have : ¬ s / 2 ^ j % 2 = 0 := fun z => Bool.noConfusion (this.mpr z)
        constructor
        · intro z
          exact absurd (by omega) this
        · exact fun z => absurd rfl z
      | false =>
        have := has_false.mp e
        constructor
        · exact fun _ z => Bool.noConfusion z
        · intro _
          omega
    · rw [ez]
      exact ⟨_, rfl, ht _ _ _ (if_neg c) (Same.refl _) (.int _)⟩
    · exact hf _ (if_pos (Decidable.not_not.mp c)) (Same.refl _)
  · intro H2 s2 dd
    refine h _ _ s2 ?_
    have e : dLI ((leftN n s).map Int.ofNat) = .list ((List.range (Int.toNat (n : Int))).filterMap fun (j : Nat) => if has s j = true then none else some (dI (j : Int))) := by
      show PyData.list (((leftN n s).map Int.ofNat).map dI) = _
      unfold leftN
      rw [List.map_map, Int.toNat_natCast]
      congr 1
      induction List.range n with
      | nil => rfl
      | cons c l ih =>
        rw [List.filter_cons, List.filterMap_cons]
        cases e : has s c with
        | true => simpa using ih
        | false => simpa using ih
    rw [e]
    exact dd

abbrev s_FreeMatchings_cost_with : Stmt := inClass (topS 25) 3
theorem sc_FreeMatchings_cost_with : FnScope ["self", "old", "new", "taken"] ["self", "old", "new", "taken"] (defScope s_FreeMatchings_cost_with) := ⟨rfl, rfl, rfl, by decide +kernel, rfl, by decide +kernel, by decide +kernel⟩
def sp_cost_with (K : PySem.W.Frag) (C : Addr) : Sp := fun vs H Q _ => ∃ (a dx : Addr) (pv : V) (g : List (List Int)) (m n : Nat) (cd : Addr) (kc : Kvs) (i j s : Nat) (c : Int), vs = [.ref a, .int (i : Nat), .int (j : Nat), .int (s : Nat)] ∧ FmAt K C H a dx pv g m n cd kc ∧ GridOk g m n ∧ i < m ∧ j < n ∧ s / 2 ^ j % 2 = 0 ∧
  valV kc (key (i + 1) (s + 2 ^ j)) = some (.int c) ∧ ∀ H', Same H H' → Q (.int (gAt g i j + c)) H'
theorem ok_cost_with (T : Tops mg) (S : FmC K C) (F : Fun K "cost_with" "FreeMatchings.cost_with" s_FreeMatchings_cost_with f fd) : FnOk P w K mg base CX0 1 f fd ["self", "old", "new", "taken"] (sp_cost_with K C) := by
  refine F.ok sc_FreeMatchings_cost_with (fun vs H Q E h => ?_) (fun cdv A outer s H vs Q E hr h => ⟨_, (pss_one (ps_ret (pe_op op_add (pe_ix (ixL K) (pe_ix (ixL K) (fldK K (pv 0)) (pv 1) (fun _ _ => rfl)) (pv 2) (fun _ _ => rfl)) (pe_dget (hu_of hr) (fldK K (pv 0)) (pe_tup (pa_cons (pe_op op_add (pv 1) pe_int) (pa_cons (pe_op op_put (pv 3) (pe_op op_shl1 pe_int (pv 2))) pa_nil))) (fun _ _ => rfl))))), ?_⟩)
  · obtain ⟨a, dx, pv, g, m, n, cd, kc, i, j, s, c, rfl, _⟩ := h
    rfl
  obtain ⟨a, dx, pv, g, m, n, cd, kc, i, j, s, c, rfl, L, o, hi, hj, hb, hc, h⟩ := h
  have on := o.n
  obtain ⟨pp, xs, qq, e1, h1, h2, h3, h4⟩ := grid_at L.da o hi hj
  refine ⟨_, rfl, a, C, dx, _, _, rfl, L.ob, S.cl, S.n1, rfl, _, rfl, pp, xs, _, _, e1, rfl, h1, at_of (j := i) rfl h2, _, rfl, qq, _, _, _, rfl, rfl, h3, at_of (j := j) rfl h4, ?_⟩
  refine ⟨_, rfl, a, C, dx, _, _, rfl, L.ob, S.cl, S.n4, rfl, _, rfl, _, _, rfl, rfl, _, rfl, _, rfl, j, rfl, rfl, by omega, s, j, rfl, rfl, hb, by show 2 ≤ sizeLine; decide, fun t ht => ⟨cd, .int c, rfl, ?_, _, _, rfl, rfl, h _ (Same.made1 ht)⟩⟩
  have e := DGet.t (H := upd H t (.tup [.int ((i : Nat) + 1), .int ((s + 2 ^ j : Nat) : Int)])) (k := key (i + 1) (s + 2 ^ j)) ((Same.made1 ht) _ _ L.co) upd_same
  rw [hc] at e
  exact e

abbrev s_FreeMatchings_least_cost : Stmt := inClass (topS 25) 4
theorem sc_FreeMatchings_least_cost : FnScope ["self"] ["self"] (defScope s_FreeMatchings_least_cost) := ⟨rfl, rfl, rfl, by decide +kernel, rfl, by decide +kernel, by decide +kernel⟩
def sp_free_cost (K : PySem.W.Frag) (C : Addr) : Sp := fun vs H Q _ => ∃ (a dx : Addr) (pv : V) (g : List (List Int)) (m n : Nat) (cd : Addr) (kc : Kvs) (c : Int), vs = [.ref a] ∧ FmAt K C H a dx pv g m n cd kc ∧ valV kc (key 0 0) = some (.int c) ∧ ∀ H', Same H H' → Q (.int c) H'
theorem ok_free_cost (S : FmC K C) (F : Fun K "least_cost" "FreeMatchings.least_cost" s_FreeMatchings_least_cost f fd) : FnOk P w K mg base CX0 1 f fd ["self"] (sp_free_cost K C) := by
  refine F.ok sc_FreeMatchings_least_cost (fun vs H Q E h => ?_) (fun cdv A outer s H vs Q E hr h => ⟨_, (pss_one (ps_ret (pe_dget (hu_of hr) (fldK K (pv 0)) (pe_tup (pa_cons pe_int (pa_cons pe_int pa_nil))) (fun _ _ => rfl)))), ?_⟩)
  · obtain ⟨a, dx, pv, g, m, n, cd, kc, c, rfl, _⟩ := h
    rfl
  obtain ⟨a, dx, pv, g, m, n, cd, kc, c, rfl, L, hc, h⟩ := h
  refine ⟨_, rfl, a, C, dx, _, _, rfl, L.ob, S.cl, S.n4, rfl, by show 2 ≤ sizeLine; decide, fun t ht => ⟨cd, .int c, rfl, ?_, h _ (Same.made1 ht)⟩⟩
  have e := DGet.t (H := upd H t (.tup [.int 0, .int 0])) (k := key 0 0) ((Same.made1 ht) _ _ L.co) upd_same
  rw [hc] at e
  exact e

abbrev s_FreeMatchings_least_from : Stmt := inClass (topS 25) 1
theorem sc_FreeMatchings_least_from : FnScope ["self", "old", "taken", "left", "lone", "new"] ["self", "old", "taken"] (defScope s_FreeMatchings_least_from) := ⟨rfl, rfl, rfl, by decide +kernel, rfl, by decide +kernel, by decide +kernel⟩
def sp_least_from (K : PySem.W.Frag) (C : Addr) : Sp := fun vs H Q _ => ∃ (a dx : Addr) (pv : V) (g : Grid) (m n : Nat) (cd : Addr) (kc : Kvs) (i s : Nat), vs = [.ref a, .int (i : Nat), .int (s : Nat)] ∧ FmAt K C H a dx pv (gridI g) m n cd kc ∧ GridOk (gridI g) m n ∧ i ≤ m ∧ s < 2 ^ n ∧ ToldF g m n (i + 1) kc ∧
  ∀ H', Same H H' → Q (.int ((fD g m n (m - i) s : Nat) : Int)) H'
theorem ok_least_from (T : Tops mg) (S : FmC K C) (C_FreeMatchings_rows_left : MetX P w K mg base CX0 1 C "rows_left" (sp_rows_left K C)) (C_FreeMatchings_cost_with : MetX P w K mg base CX0 1 C "cost_with" (sp_cost_with K C)) (F : Fun K "least_from" "FreeMatchings.least_from" s_FreeMatchings_least_from f fd) :
    FnOk P w K mg base CX0 2 f fd ["self", "old", "taken"] (sp_least_from K C) := by
  refine F.ok sc_FreeMatchings_least_from (fun vs H Q E h => ?_) (fun cdv A outer s H vs Q E hr h => ⟨_, (pss_cons (ps_set (i := 3) sc_FreeMatchings_least_from.nd rfl (Or.inl rfl) (pe_m (pv 0) C_FreeMatchings_rows_left hr (by decide) (fun _ => quiet) (pa_cons (pv 2) pa_nil)))
  (pss_cons (ps_if (pt_cmpR op_eqI (pv 1) (fldK K (pv 0)) (nomark _))
   (pss_one (ps_ret (pe_op op_mul (pe_gi (by rfl) T.i_LONE_ROW_COST) (pe_callB (lenK K) (by rfl) T.n_len PySem.boot_len (pa_cons (pv 3) pa_nil))))) pss_nil)
  (pss_cons (ps_set (i := 4) sc_FreeMatchings_least_from.nd rfl (Or.inl rfl) (pe_op op_add (pe_gi (by rfl) T.i_LONE_ROW_COST) (pe_dget (hu_of hr) (fldK K (pv 0)) (pe_tup (pa_cons (pe_op op_add (pv 1) pe_int) (pa_cons (pv 2) pa_nil))) (fun _ _ => rfl))))
  (pss_one (ps_ret (pe_callB (minK K) (by rfl) T.n_min (by decide +kernel) (pa_cons (pe_op (catK K) (pe_lst (pa_cons (pv 4) pa_nil)) (pe_lc (own := [("new", 5)]) rfl sc_FreeMatchings_least_from.nd (lstK K (pv 3)) (blkOk_by (N := ["self", "old", "taken", "left", "lone", "new"]) (sc := defScope s_FreeMatchings_least_from) (by decide +kernel)) (fun _ _ _ _ _ => (pg_name (i := 5) sc_FreeMatchings_least_from.nd rfl (Or.inl rfl))) (fun _ _ _ _ _ => pts_nil) (fun _ _ _ _ _ => (pe_m (pv 0) C_FreeMatchings_cost_with hr (by decide) (fun _ => quiet) (pa_cons (pv 1) (pa_cons (pv 5) (pa_cons (pv 2) pa_nil))))))) pa_nil))))))), ?_⟩)
  · obtain ⟨a, dx, pv, g, m, n, cd, kc, i, s, rfl, _⟩ := h
    rfl
  obtain ⟨a, dx, pv, g, m, n, cd, kc, i, s, rfl, L, o, hi, hs, hB, h⟩ := h
  have on := o.n
  refine ⟨_, rfl, a, dx, _, rfl, L.ob, rfl, _, rfl, a, dx, pv, gridI g, m, n, cd, kc, s, rfl, L, on, fun v1 H1 s1 d1 => ?_⟩
  obtain ⟨p, rfl, hp⟩ := Dp.ints (dmono nw_in d1)
  have lp : (((leftN n s).map Int.ofNat).map V.int).length = (leftN n s).length := by rw [List.length_map, List.length_map]
  have ll := left_le n s
  refine ⟨_, rfl, _, rfl, a, C, dx, _, _, rfl, s1 _ _ L.ob, S.cl, S.n2, rfl, _, _, rfl, rfl, _, rfl, ite_dec (c := i = m) (decide_eq_decide.mpr (by omega)) (fun c => ?_) (fun c => ?_)⟩
  · refine ⟨_, rfl, _, _, rfl, .inl hp, _, _, rfl, rfl, .inl ⟨by decide, by decide⟩, ?_⟩
    have := h _ s1
    rw [c, Nat.sub_self] at this
    have e : (fD g m n 0 s : Nat) = 3 * (leftN n s).length := by
      show 3 * (n - taken n s) = _
      rw [left_len]
    rw [e] at this
    rw [lp]
    exact this
  have hlt : i < m := by omega
  obtain ⟨d, hd⟩ : ∃ d, m - i = d + 1 := ⟨m - i - 1, by omega⟩
  have ed : m - (i + 1) = d := by omega
  have ei : m - 1 - d = i := by omega
  have c1 := hB (i + 1) s (Nat.le_refl _) hlt hs
  rw [ed] at c1
  refine ⟨_, rfl, a, C, dx, _, _, rfl, s1 _ _ L.ob, S.cl, S.n4, rfl, _, rfl, _, _, rfl, rfl, _, rfl, by show 2 ≤ sizeLine; decide, fun t ht => ⟨cd, .int ((fD g m n d s : Nat) : Int), rfl, ?_, _, _, rfl, rfl, ?_⟩⟩
  · have e := DGet.t (H := upd H1 t (.tup [.int ((i : Nat) + 1), .int (s : Nat)])) (k := key (i + 1) s) ((Same.made1 ht) _ _ (s1 _ _ L.co)) upd_same
    rw [c1] at e
    exact e
  have s2 : Same H1 (upd H1 t (.tup [.int ((i : Nat) + 1), .int (s : Nat)])) := Same.made1 ht
  generalize upd H1 t (.tup [.int ((i : Nat) + 1), .int (s : Nat)]) = H2 at s2 ⊢
  have s02 := s1.trans s2
  refine ⟨_, rfl, by show 1 ≤ sizeLine; decide, fun q hq => ?_⟩
  have s3 : Same H2 (upd H2 q (.lst [.int (3 + ((fD g m n d s : Nat) : Int))])) := Same.made1 hq
  have hq3 : upd H2 q (.lst [.int (3 + ((fD g m n d s : Nat) : Int))]) q = some (.lst [.int (3 + ((fD g m n d s : Nat) : Int))]) := upd_same
  generalize upd H2 q (.lst [.int (3 + ((fD g m n d s : Nat) : Int))]) = H3 at s3 hq3 ⊢
  have s03 := s02.trans s3
  have hp3 := (s2.trans s3).seq hp
  refine ⟨_, rfl, p, rfl, ⟨_, hp3⟩, fun D hD => ?_⟩
  refine lc_L (K := K) (enc := fun j : Nat => dI (j : Int)) (l := leftN n s) (fun j => some (dI ((at_ g i j + fD g m n d (s + 2 ^ j) : Nat) : Int))) (by omega) hD hp3 ?_ ?_ ?_
  · have := dint (K := K) (H := H3) ((leftN n s).map Int.ofNat)
    rw [List.map_map (g := PyData.int)] at this
    exact this
  · intro k j x H4 acc hj s4 hacc dx4 Kt Kf ht4 hf4
    cases dx4
    obtain ⟨j1, j2⟩ := left_mem.mp (List.mem_of_getElem? hj)
    have c2 := hB (i + 1) (s + 2 ^ j) (Nat.le_refl _) hlt (put_lt hs j1 (has_false.mpr j2))
    rw [ed] at c2
    have s04 := s03.trans s4
    refine ⟨rfl, lc_yes ⟨_, rfl, a, dx, _, rfl, s04 _ _ L.ob, rfl, _, rfl, _, rfl, _, rfl, a, dx, pv, gridI g, m, n, cd, kc, i, j, s, _, rfl, L.same s04, o, hlt, j1, j2, c2, fun H5 s5 => ?_⟩⟩
    rw [at_gI, cast_sum]
    exact ht4 _ _ _ rfl s5 (.int _)
  · intro H4 s4 d4
    rw [filterMap_some_map] at d4
    have e4 : PyData.list ((leftN n s).map fun j => dI ((at_ g i j + fD g m n d (s + 2 ^ j) : Nat) : Int)) = dLI (((leftN n s).map fun j => at_ g i j + fD g m n d (s + 2 ^ j)).map Int.ofNat) := by
      show _ = PyData.list ((((leftN n s).map fun j => at_ g i j + fD g m n d (s + 2 ^ j)).map Int.ofNat).map dI)
      rw [List.map_map, List.map_map]
      rfl
    rw [e4] at d4
    obtain ⟨u, eu, hu⟩ := Dp.ints (dmono nw_in d4)
    cases eu
    have lu : ((((leftN n s).map fun j => at_ g i j + fD g m n d (s + 2 ^ j)).map Int.ofNat).map V.int).length = (leftN n s).length := by rw [List.length_map, List.length_map, List.length_map]
    have szl : (2000 : Nat) ≤ sizeLine := by decide
    refine ⟨q, D, _, _, rfl, rfl, SqL.of (s4 _ _ hq3), hu, by rw [lu]; show 1 + _ ≤ _; omega, fun r hr => ?_⟩
    have es : [V.int (3 + ((fD g m n d s : Nat) : Int))] ++ (((leftN n s).map fun j => at_ g i j + fD g m n d (s + 2 ^ j)).map Int.ofNat).map V.int = (((3 + fD g m n d s) :: (leftN n s).map fun j => at_ g i j + fD g m n d (s + 2 ^ j)).map Int.ofNat).map V.int := by
      rw [List.map_cons, List.map_cons]
      have : (3 : Int) + ((fD g m n d s : Nat) : Int) = Int.ofNat (3 + fD g m n d s) := by rw [Int.ofNat_eq_natCast]; omega
      rw [this]
      rfl
    rw [es]
    have hn := min_fold ((leftN n s).map fun j => at_ g i j + fD g m n d (s + 2 ^ j)) (3 + fD g m n d s)
    have hf := fD_succ g m n d s
    rw [ei] at hf
    refine ⟨r, _, rfl, SqL.of upd_same, by simp, fun y hy hle => ?_⟩
    have := h _ ((s03.trans s4).trans (Same.made1 (o := .lst ((((3 + fD g m n d s) :: (leftN n s).map fun j => at_ g i j + fD g m n d (s + 2 ^ j)).map Int.ofNat).map V.int)) hr))
    rw [hd, hf] at this
    obtain ⟨z, hz, rfl⟩ := List.mem_map.mp hy
    have e5 : z = ((leftN n s).map fun j => at_ g i j + fD g m n d (s + 2 ^ j)).foldl Nat.min (3 + fD g m n d s) := by
      apply Nat.le_antisymm
      · have := hle (Int.ofNat _) (List.mem_map.mpr ⟨_, hn.1, rfl⟩)
        exact Int.ofNat_le.mp this
      · exact hn.2 z hz
    rw [← e5] at this
    exact this
end
end MR

namespace MR
open PySem PySem.Spec PyProof.Rows L2
open VatdfBase (Cell Row Table Bytes Pairs)
open Vatdfb (Grid at_ has taken)
/-- all but instances and dicts stay -/
def KpL (H H' : Hp) : Prop := ∀ c ob, H c = some ob → (∀ C dx fs, ob ≠ .ins C dx fs) → (∀ kvs, ob ≠ .dT kvs) → H' c = some ob
theorem KpL.seq {K : PySem.W.Frag} {H H' : Hp} {a : Addr} {xs : List V} (e : KpL H H') (h : SqL K H a xs) : SqL K H' a xs := by
  rcases h with (h | ⟨o, h⟩) | h
  · exact .inl (.inl (e _ _ h (by intro _ _ _ z; cases z) (by intro _ z; cases z)))
  · exact .inl (.inr ⟨o, e _ _ h (by intro _ _ _ z; cases z) (by intro _ z; cases z)⟩)
  · exact .inr h
theorem KpL.ints {K : PySem.W.Frag} {H H' : Hp} (e : KpL H H') : ∀ {l : List (List Int)} {ys : List V}, DpAll K H ys (l.map dLI) → DpAll K H' ys (l.map dLI)
  | [], _, h => by
    cases h
    exact .nil
  | z :: l, _, h => by
    cases h with
    | cons h1 h2 =>
      obtain ⟨q, rfl, hq⟩ := Dp.ints h1
      exact .cons (ints_dp (e.seq hq)) (KpL.ints e h2)
theorem KpL.grid {K : PySem.W.Frag} {H H' : Hp} (e : KpL H H') {l : List (List Int)} {v : V} (h : Dp K H v (dL dLI l)) : Dp K H' v (dL dLI l) := by
  obtain ⟨p, xs, rfl, hp, hx⟩ := Dp.list h
  exact .lst (e.seq hp) (e.ints hx)
theorem freeR_succ (g : Grid) (m n d s : Nat) : freeR g m n (d + 1) s = match (leftN n s).find? fun j => at_ g (m - 1 - d) j + fD g m n d (s + 2 ^ j) == fD g m n (d + 1) s with
    | some j => (m - 1 - d, j) :: freeR g m n d (s + 2 ^ j)
    | none => freeR g m n d s := rfl
/-- the new row for an old one -/
def newM (g : Grid) (m n i s : Nat) : Option Nat := (leftN n s).find? fun j => at_ g i j + fD g m n (m - 1 - i) (s + 2 ^ j) == fD g m n (m - i) s
section
variable {P : Program} {w : World} {K : PySem.W.Frag} {mg : Str → Option Value} {base : Heap} {f : Addr} {fd : FuncData} {C CE CT XF_ : Addr}
abbrev s_FreeMatchings_least_new : Stmt := inClass (topS 25) 6
theorem sc_FreeMatchings_least_new : FnScope ["self", "old", "taken", "new"] ["self", "old", "taken"] (defScope s_FreeMatchings_least_new) := ⟨rfl, rfl, rfl, by decide +kernel, rfl, by decide +kernel, by decide +kernel⟩
def sp_least_new (K : PySem.W.Frag) (C : Addr) : Sp := fun vs H Q _ => ∃ (a dx : Addr) (pv : V) (g : Grid) (m n : Nat) (cd : Addr) (kc : Kvs) (i s : Nat), vs = [.ref a, .int (i : Nat), .int (s : Nat)] ∧ FmAt K C H a dx pv (gridI g) m n cd kc ∧ GridOk (gridI g) m n ∧ i < m ∧ s < 2 ^ n ∧ ToldF g m n 0 kc ∧
  ∀ H', Same H H' → Q (match newM g m n i s with | some j => .int (j : Nat) | none => .non) H'
theorem ok_least_new (T : Tops mg) (S : FmC K C) (C_FreeMatchings_rows_left : MetX P w K mg base CX0 1 C "rows_left" (sp_rows_left K C)) (C_FreeMatchings_cost_with : MetX P w K mg base CX0 1 C "cost_with" (sp_cost_with K C)) (F : Fun K "least_new" "FreeMatchings.least_new" s_FreeMatchings_least_new f fd) :
    FnOk P w K mg base CX0 2 f fd ["self", "old", "taken"] (sp_least_new K C) := by
  refine F.ok sc_FreeMatchings_least_new (fun vs H Q E h => ?_) (fun cdv A outer s H vs Q E hr h => ⟨_, (pss_cons (ps_for PassesOwn.never rfl (lstK K (pe_m (pv 0) C_FreeMatchings_rows_left hr (by decide) (fun _ => quiet) (pa_cons (pv 2) pa_nil))) (pg_name (i := 3) sc_FreeMatchings_least_new.nd rfl (Or.inl rfl))
   (pss_one (ps_if (pt_cmpR op_eqI (pe_m (pv 0) C_FreeMatchings_cost_with hr (by decide) (fun _ => quiet) (pa_cons (pv 1) (pa_cons (pv 3) (pa_cons (pv 2) pa_nil)))) (pe_dget (hu_of hr) (fldK K (pv 0)) (pe_tup (pa_cons (pv 1) (pa_cons (pv 2) pa_nil))) (fun _ _ => rfl)) (nomark _))
   (pss_one (ps_ret (pv 3))) pss_nil)))
  (pss_one (ps_ret pe_non))), ?_⟩)
  · obtain ⟨a, dx, pv, g, m, n, cd, kc, i, s, rfl, _⟩ := h
    rfl
  obtain ⟨a, dx, pv, g, m, n, cd, kc, i, s, rfl, L, o, hi, hs, hB, h⟩ := h
  have on := o.n
  refine ⟨_, rfl, a, dx, _, rfl, L.ob, rfl, _, rfl, a, dx, pv, gridI g, m, n, cd, kc, s, rfl, L, on, fun v1 H1 s1 d1 => ?_⟩
  obtain ⟨p, rfl, hp⟩ := Dp.ints (dmono nw_in d1)
  have lp : (((leftN n s).map Int.ofNat).map V.int).length = (leftN n s).length := by rw [List.length_map, List.length_map]
  let pr : Nat → Bool := fun j => at_ g i j + fD g m n (m - 1 - i) (s + 2 ^ j) == fD g m n (m - i) s
  refine ⟨p, rfl, ⟨_, hp⟩, for_list (K := K) (a := p) (xs := ((leftN n s).map Int.ofNat).map V.int) (fun u σ H' => Same H1 H' ∧ (∃ x, σ = [some (.ref a), some (.int (i : Nat)), some (.int (s : Nat)), x]) ∧ newM g m n i s = ((leftN n s).drop u).find? pr)
    ⟨Same.refl _, ⟨_, rfl⟩, rfl⟩ (fun i σ H' _ q => q.1.seq hp) ?_ ?_⟩
  · rintro u x σ H2 hu ⟨s2, ⟨x3, rfl⟩, hf⟩
    rw [List.getElem?_map, List.getElem?_map] at hu
    cases hj : (leftN n s)[u]? with
    | none => rw [hj] at hu; cases hu
    | some j =>
    rw [hj] at hu
    cases hu
    obtain ⟨hul, _⟩ := List.getElem?_eq_some_iff.mp hj
    obtain ⟨j1, j2⟩ := left_mem.mp (List.mem_of_getElem? hj)
    have er : (leftN n s).drop u = j :: (leftN n s).drop (u + 1) := by
      rw [List.getElem?_eq_getElem hul] at hj
      rw [List.drop_eq_getElem_cons hul, Option.some.inj hj]
    rw [er, List.find?_cons] at hf
    have c2 := hB (i + 1) (s + 2 ^ j) (Nat.zero_le _) hi (put_lt hs j1 (has_false.mpr j2))
    rw [show m - (i + 1) = m - 1 - i from by omega] at c2
    have c1 := hB i s (Nat.zero_le _) (Nat.le_of_lt hi) hs
    have s02 := s1.trans s2
    refine ⟨_, rfl, a, dx, _, rfl, s02 _ _ L.ob, rfl, _, rfl, _, rfl, _, rfl, a, dx, pv, gridI g, m, n, cd, kc, i, j, s, _, rfl, L.same s02, o, hi, j1, j2, c2, fun H3 s3 => ?_⟩
    have s03 := s02.trans s3
    refine ⟨_, rfl, a, C, dx, _, _, rfl, s03 _ _ L.ob, S.cl, S.n4, rfl, _, rfl, _, rfl, by show 2 ≤ sizeLine; decide, fun t ht => ⟨cd, .int ((fD g m n (m - i) s : Nat) : Int), rfl, ?_, _, _, rfl, rfl, _, rfl, ?_⟩⟩
    · have e := DGet.t (H := upd H3 t (.tup [.int (i : Nat), .int (s : Nat)])) (k := key i s) ((Same.made1 ht) _ _ (s03 _ _ L.co)) upd_same
      rw [c1] at e
      exact e
    have s04 := s03.trans (Same.made1 (o := .tup [.int (i : Nat), .int (s : Nat)]) ht)
    have s14 := (s2.trans s3).trans (Same.made1 (o := .tup [.int (i : Nat), .int (s : Nat)]) ht)
    generalize upd H3 t (.tup [.int (i : Nat), .int (s : Nat)]) = H4 at s04 s14 ⊢
    refine ite_dec (c := pr j = true) (decide_eq_decide.mpr ?_) (fun c => ?_) (fun c => ?_)
    · rw [at_gI]
      show ((at_ g i j : Nat) : Int) + ((fD g m n (m - 1 - i) (s + 2 ^ j) : Nat) : Int) = ((fD g m n (m - i) s : Nat) : Int) ↔ (at_ g i j + fD g m n (m - 1 - i) (s + 2 ^ j) == fD g m n (m - i) s) = true
      rw [beq_iff_eq]
      omega
    · have := h _ s04
      rw [hf, c] at this
      exact ⟨_, rfl, this⟩
    · rw [Bool.eq_false_iff.mpr c] at hf
      exact ⟨s14, ⟨_, rfl⟩, hf⟩
  · rintro σ H2 ⟨s2, ⟨x3, rfl⟩, hf⟩
    rw [lp, List.drop_length] at hf
    have := h _ (s1.trans s2)
    rw [hf] at this
    exact this

abbrev s_FreeMatchings_first_least : Stmt := inClass (topS 25) 5
theorem sc_FreeMatchings_first_least : FnScope ["self", "pairs", "taken", "old", "new"] ["self"] (defScope s_FreeMatchings_first_least) := ⟨rfl, rfl, rfl, by decide +kernel, rfl, by decide +kernel, by decide +kernel⟩
def sp_first_least (K : PySem.W.Frag) (C : Addr) : Sp := fun vs H Q _ => ∃ (a dx : Addr) (pv : V) (g : Grid) (m n : Nat) (cd : Addr) (kc : Kvs), vs = [.ref a] ∧ FmAt K C H a dx pv (gridI g) m n cd kc ∧ GridOk (gridI g) m n ∧ ToldF g m n 0 kc ∧ New K H Q (dL dP ((freeR g m n m 0).map pN))
theorem ok_first_least (T : Tops mg) (S : FmC K C) (C_FreeMatchings_least_new : MetX P w K mg base CX0 2 C "least_new" (sp_least_new K C)) (F : Fun K "first_least" "FreeMatchings.first_least" s_FreeMatchings_first_least f fd) :
    FnOk P w K mg base CX0 3 f fd ["self"] (sp_first_least K C) := by
  refine F.ok sc_FreeMatchings_first_least (fun vs H Q E h => ?_) (fun cdv A outer s H vs Q E hr h => ⟨_, (pss_cons (ps_set (i := 1) sc_FreeMatchings_first_least.nd rfl (Or.inl rfl) (pe_lst pa_nil))
  (pss_cons (ps_set (i := 2) sc_FreeMatchings_first_least.nd rfl (Or.inl rfl) pe_int)
  (pss_cons (ps_for PassesOwn.never rfl (pi_range1 (by rfl) T.n_range (pa_cons (fldK K (pv 0)) pa_nil)) (pg_name (i := 3) sc_FreeMatchings_first_least.nd rfl (Or.inl rfl))
   (pss_cons (ps_set (i := 4) sc_FreeMatchings_first_least.nd rfl (Or.inl rfl) (pe_m (pv 0) C_FreeMatchings_least_new hr (by decide) (fun _ => quiet) (pa_cons (pv 3) (pa_cons (pv 2) pa_nil))))
  (pss_one (ps_if (pt_cmp (pc_notN (pv 4)) rfl)
   (pss_cons (ps_expr (pe_bm PySem.F.plainAttrs_list PySem.F.slot_list_append PySem.F.type_list_append mt_append (pv 1) (pa_cons (pe_tup (pa_cons (pv 3) (pa_cons (pv 4) pa_nil))) pa_nil)))
  (pss_one (ps_set (i := 2) sc_FreeMatchings_first_least.nd rfl (Or.inl rfl) (pe_op op_put (pv 2) (pe_op op_shl1 pe_int (pv 4)))))) pss_nil))))
  (pss_one (ps_ret (pv 1)))))), ?_⟩)
  · obtain ⟨a, dx, pv, g, m, n, cd, kc, rfl, _⟩ := h
    rfl
  obtain ⟨a, dx, pv, g, m, n, cd, kc, rfl, L, o, hB, hQ⟩ := h
  have on := o.n
  have om := o.m
  refine ⟨Nat.zero_le _, fun D hD => ?_⟩
  have s0 : Same H (upd H D (.lst [])) := Same.made1 hD
  have hD0 : upd H D (.lst []) D = some (.lst []) := upd_same
  generalize upd H D (.lst []) = H0 at s0 hD0 ⊢
  refine ⟨_, rfl, a, C, dx, _, _, rfl, s0 _ _ L.ob, S.cl, S.n2, rfl, (m : Int), rfl, by omega, by omega, ?_⟩
  rw [Int.toNat_natCast]
  refine for_range (lo := 0) (n := m) (fun i σ H' => Same H H' ∧ ∃ (acc : List V) (l : Pairs) (s : Nat) (x y : Option V), σ = [some (.ref a), some (.ref D), some (.int (s : Nat)), x, y] ∧ s < 2 ^ n ∧ H' D = some (.lst acc) ∧ acc.length ≤ i ∧ DpAll K (hd D (nw H H')) acc (l.map fun p => dP (pN p)) ∧ freeR g m n m 0 = l ++ freeR g m n (m - i) s)
    ⟨s0, [], [], 0, _, _, rfl, Nat.two_pow_pos _, hD0, Nat.le_refl _, .nil, rfl⟩ ?_ ?_
  · rintro i σ H1 hi ⟨s1, acc, l, s, x, y, rfl, hs, hD1, hal, hacc, hl⟩
    rw [Int.zero_add]
    refine ⟨_, rfl, a, dx, _, rfl, s1 _ _ L.ob, rfl, _, rfl, _, rfl, a, dx, pv, g, m, n, cd, kc, i, s, rfl, L.same s1, o, hi, hs, hB, fun H2 s2 => ?_⟩
    have s02 := s1.trans s2
    have hD2 := s2 _ _ hD1
    have up : Same (hd D (nw H H1)) (hd D (nw H H2)) := fun c o e => hd_of (hd_ne e).1 (nw_right0 s2 _ _ (hd_ne e).2)
    obtain ⟨d, hd0⟩ : ∃ d, m - i = d + 1 := ⟨m - i - 1, by omega⟩
    have ei : m - 1 - d = i := by omega
    have ed : m - (i + 1) = d := by omega
    have ed2 : m - 1 - i = d := by omega
    rw [hd0, freeR_succ, ei] at hl
    have en : newM g m n i s = (leftN n s).find? fun j => at_ g i j + fD g m n d (s + 2 ^ j) == fD g m n (d + 1) s := by
      unfold newM
      rw [ed2, hd0]
    rw [← en] at hl
    cases hj : newM g m n i s with
    | none =>
      rw [hj] at hl
      exact ⟨_, rfl, _, rfl, iteF ⟨s02, acc, l, s, _, _, rfl, hs, hD2, by omega, dmonoAll up hacc, by rw [ed]; exact hl⟩⟩
    | some j =>
      rw [hj] at hl
      have hl : freeR g m n m 0 = l ++ ((i, j) :: freeR g m n d (s + 2 ^ j)) := hl
      rw [en] at hj
      obtain ⟨j1, j2⟩ := left_mem.mp (List.mem_of_find?_eq_some hj)
      refine ⟨_, rfl, _, rfl, iteT ?_⟩
      refine ⟨_, rfl, .inl ⟨rfl, _, SqL.of hD2⟩, _, rfl, _, rfl, by show 2 ≤ sizeLine; decide, fun t ht => ?_⟩
      have s3 : Same H2 (upd H2 t (.tup [.int (i : Nat), .int (j : Nat)])) := Same.made1 ht
      have ht3 : upd H2 t (.tup [.int (i : Nat), .int (j : Nat)]) t = some (.tup [.int (i : Nat), .int (j : Nat)]) := upd_same
      have tD : t ≠ D := fun z => by rw [z, hD2] at ht; cases ht
      have nt : H t = none := s02.free ht
      generalize upd H2 t (.tup [.int (i : Nat), .int (j : Nat)]) = H3 at s3 ht3 ⊢
      refine ⟨D, acc, _, rfl, rfl, s3 _ _ hD2, by have : (2000 : Nat) ≤ sizeLine := (by decide); omega, ?_⟩
      have k4 : ∀ c o, H2 c = some o → c ≠ D → upd H3 D (.lst (acc ++ [.ref t])) c = some o := fun c o e nc => by
        rw [upd_ne nc]
        exact s3 _ _ e
      refine ⟨_, rfl, _, rfl, j, rfl, rfl, by omega, s, j, rfl, rfl, j2, fun c o e => k4 c o (s02 _ _ e) (ne_of_none e hD), acc ++ [.ref t], l ++ [(i, j)], s + 2 ^ j, _, _, rfl, put_lt hs j1 (has_false.mpr j2), upd_same, by rw [List.length_append, List.length_singleton]; omega, ?_, by rw [ed, hl, List.append_assoc]; rfl⟩
      rw [List.map_append]
      refine DpAll.snoc (dmonoAll (fun c o e => hd_of (hd_ne (up c o e)).1 (nw_of (nw_some (hd_ne (up c o e)).2).1 (k4 c o (nw_some (hd_ne (up c o e)).2).2 (hd_ne (up c o e)).1))) hacc) ?_
      exact .tup (.inl (.inl (hd_of tD (nw_of nt ((upd_ne tD).trans ht3))))) (.cons (.int _) (.cons (.int _) .nil))
  · rintro σ H1 ⟨s1, acc, l, s, x, y, rfl, hs, hD1, hal, hacc, hl⟩
    rw [Nat.sub_self] at hl
    have hl : freeR g m n m 0 = l := by rw [hl]; exact List.append_nil l
    refine ⟨_, rfl, hQ _ _ s1 ?_⟩
    rw [hl, dP_pN]
    exact .lst (.inl (.inl (nw_of hD hD1))) (dmonoAll hd_in hacc)

abbrev s_FreeMatchings_init : Stmt := inClass (topS 25) 0
theorem sc_FreeMatchings_init : FnScope ["self", "pair_costs", "old_count", "new_count", "old", "taken"] ["self", "pair_costs", "old_count", "new_count"] (defScope s_FreeMatchings_init) := ⟨rfl, rfl, rfl, by decide +kernel, rfl, by decide +kernel, by decide +kernel⟩
def sp_fm_init (K : PySem.W.Frag) (C XF_ : Addr) : Sp := fun vs H Q E => ∃ (a dx : Addr) (pv : V) (g : Grid) (m n : Nat), vs = [.ref a, pv, .int (m : Nat), .int (n : Nat)] ∧ H a = some (.ins C dx []) ∧ Dp K H pv (dL dLI (gridI g)) ∧ GridOk (gridI g) m n ∧
  ((8 < m ∨ 8 < n) → E (.ref XF_) none H) ∧ (¬ (8 < m ∨ 8 < n) → ∀ H' cd kc, (∀ c o, H c = some o → c ≠ a → H' c = some o) → Tk H H' → FmAt K C H' a dx pv (gridI g) m n cd kc → ToldF g m n 0 kc → Q .non H')
/-- what is known behind u whole rows and v places of the next -/
structure FmInv (K : PySem.W.Frag) (C : Addr) (H0 H' : Hp) (a dx : Addr) (pv : V) (g : Grid) (m n : Nat) (cd : Addr) (u v : Nat) : Prop where
  ex : ∃ kc, FmAt K C H' a dx pv (gridI g) m n cd kc ∧ kc.length ≤ u * 256 + v ∧ ∀ p s, p ≤ m → s < 2 ^ n → (m < p + u ∨ (p + u = m ∧ s < v)) → valV kc (key p s) = some (.int ((fD g m n (m - p) s : Nat) : Int))
  kp : ∀ c o, H0 c = some o → c ≠ cd → H' c = some o
  tk : Tk H0 H'
theorem ok_fm_init (T : Tops mg) (S : FmC K C) (C_FreeMatchings_least_from : MetX P w K mg base CX0 2 C "least_from" (sp_least_from K C)) (X_TooManyRows : ErrX K mg "TooManyRows" XF_) (F : Fun K "__init__" "FreeMatchings.__init__" s_FreeMatchings_init f fd) : FnOk P w K mg base (L2.CX P w) 3 f fd ["self", "pair_costs", "old_count", "new_count"] (sp_fm_init K C XF_) := by
  refine F.okX sc_FreeMatchings_init (fun vs H Q E h => ?_) (fun cdv A outer s H vs Q E hr h => ⟨_, (pss_cons (ps_if (pt_cmpR op_gt (pe_callB (call_max2 (by rfl)) (by rfl) T.n_max (by decide +kernel) (pa_cons (pv 2) (pa_cons (pv 3) pa_nil))) (pe_gi (by rfl) T.i_MOST_FREE_ROWS) (nomark _))
   (pss_one (ps_raise rfl (takes_of rfl rfl rfl rfl) (pmk_own0 PySem.F.excBase_Exception X_TooManyRows.q X_TooManyRows.g X_TooManyRows.kp (raises_own X_TooManyRows.b X_TooManyRows.t) (by rfl)))) pss_nil)
  (pss_cons (ps_fld (pv 0) (pv 1) rfl)
  (pss_cons (ps_fld (pv 0) (pv 2) rfl)
  (pss_cons (ps_fld (pv 0) (pv 3) rfl)
  (pss_cons (ps_fld (pv 0) pe_dnewT rfl)
  (pss_one (ps_for (passes_of rfl) rfl (pi_range3 (by rfl) T.n_range (pa_cons (pv 2) (pa_cons (pe_un un_neg pe_int) (pa_cons (pe_un un_neg pe_int) pa_nil)))) (pg_name (i := 4) sc_FreeMatchings_init.nd rfl (Or.inl rfl))
   (pss_one (ps_for (passes_of rfl) rfl (pi_range1 (by rfl) T.n_range (pa_cons (pe_op op_shl1 pe_int (pv 3)) pa_nil)) (pg_name (i := 5) sc_FreeMatchings_init.nd rfl (Or.inl rfl))
   (pss_one (ps_dput (hu_of hr) (fldK K (pv 0)) (pe_tup (pa_cons (pv 4) (pa_cons (pv 5) pa_nil))) (pe_m (pv 0) C_FreeMatchings_least_from hr (by decide) (fun _ => quiet) (pa_cons (pv 4) (pa_cons (pv 5) pa_nil))) rfl))))))))))), ?_⟩)
  · obtain ⟨a, dx, pv, g, m, n, rfl, _⟩ := h
    rfl
  obtain ⟨a, dx, pv, g, m, n, rfl, ha, da, o, hE, h⟩ := h
  refine ⟨_, rfl, _, rfl, _, _, rfl, _, _, rfl, rfl, _, rfl, ?_⟩
  refine ite_dec (c := 8 < m ∨ 8 < n) (decide_eq_decide.mpr ?_) (fun c => hE c) (fun c => ?_)
  · by_cases c : ((n : Nat) : Int) > (m : Nat)
    · rw [if_pos c]
      omega
    · rw [if_neg c]
      omega
  have h := h c
  have om : m ≤ 8 := by omega
  have on : n ≤ 8 := by omega
  have hpow : 2 ^ n ≤ 256 := Nat.pow_le_pow_right (n := 2) (by decide) on
  refine ⟨_, rfl, _, rfl, a, C, dx, _, rfl, ha, S.cl, S.n1, by show 0 < 1000; decide, ?_⟩
  refine ⟨_, rfl, _, rfl, a, C, dx, _, rfl, upd_same, S.cl, S.n2, by show 1 < 1000; decide, ?_⟩
  rw [upd_upd]
  refine ⟨_, rfl, _, rfl, a, C, dx, _, rfl, upd_same, S.cl, S.n3, by show 2 < 1000; decide, ?_⟩
  rw [upd_upd]
  intro cd hcd
  have cda : cd ≠ a := fun z => by rw [z, upd_same] at hcd; cases hcd
  have hcd0 : H cd = none := by rw [upd_ne cda] at hcd; exact hcd
  refine ⟨_, rfl, a, C, dx, _, rfl, (upd_ne (Ne.symm cda)).trans upd_same, S.cl, S.n4, by show 3 < 1000; decide, ?_⟩
  generalize hH0 : upd (upd (upd H a (HO.ins C dx (putF "new_count" (.int (n : Nat)) (putF "old_count" (.int (m : Nat)) (putF "pair_costs" pv []))))) cd (HO.dT [])) a (HO.ins C dx (putF "costs" (.ref cd) (putF "new_count" (.int (n : Nat)) (putF "old_count" (.int (m : Nat)) (putF "pair_costs" pv []))))) = H0
  have keep0 : ∀ c o, H c = some o → c ≠ a → H0 c = some o := fun c o e nc => by
    rw [← hH0, upd_ne nc, upd_ne (ne_of_none e hcd0), upd_ne nc]
    exact e
  have kl0 : KpL H H0 := fun c ob e n1 _ => keep0 c ob e fun z => by
    rw [z, ha] at e
    exact n1 _ _ _ (Option.some.inj e).symm
  have L0 : FmAt K C H0 a dx pv (gridI g) m n cd [] := ⟨by rw [← hH0]; exact upd_same, by rw [← hH0, upd_ne cda, upd_same], kl0.grid da⟩
  have tk0 : Tk H H0 := fun c e => by
    rw [← hH0] at e
    by_cases z1 : c = a
    · rw [z1, upd_same] at e
      cases e
    rw [upd_ne z1] at e
    by_cases z3 : c = cd
    · rw [z3, upd_same] at e
      cases e
    rw [upd_ne z3, upd_ne z1] at e
    exact e
  have ac : a ≠ cd := Ne.symm cda
  have I0 : FmInv K C H0 H0 a dx pv g m n cd 0 0 := ⟨⟨[], L0, Nat.zero_le _, fun p s hp hs z => absurd z (by omega)⟩, fun _ _ e _ => e, fun _ e => e⟩
  refine ⟨_, rfl, _, rfl, _, rfl, (m : Int), -1, -1, m + 1, rfl, ?_, ?_⟩
  · have e := RgC.neg (i := (m : Int)) (j := -1) (by omega) (by omega) (by omega) (by omega)
    rwa [show ((m : Int) - -1).toNat = m + 1 from by omega] at e
  refine for_rangeC (lo := (m : Int)) (c := -1) (n := m + 1) (fun u σ H' => FmInv K C H0 H' a dx pv g m n cd u 0 ∧ ∃ x y, σ = [some (.ref a), some pv, some (.int (m : Nat)), some (.int (n : Nat)), x, y]) ⟨I0, _, _, rfl⟩ ?_ ?_
  · rintro u σ H1 hu ⟨I1, x, y, rfl⟩
    have eu : (m : Int) + (u : Nat) * -1 = ((m - u : Nat) : Int) := by omega
    rw [eu]
    refine ⟨_, rfl, n, rfl, rfl, by omega, ((2 ^ n : Nat) : Int), rfl, Int.le_trans (b := 0) (by decide) (Int.natCast_nonneg _), Int.lt_of_le_of_lt (Int.ofNat_le.mpr hpow) (by decide), ?_⟩
    rw [Int.toNat_natCast]
    refine for_range (lo := 0) (n := 2 ^ n) (fun v σ H' => FmInv K C H0 H' a dx pv g m n cd u v ∧ ∃ y, σ = [some (.ref a), some pv, some (.int (m : Nat)), some (.int (n : Nat)), some (.int ((m - u : Nat) : Int)), y]) ⟨I1, _, rfl⟩ ?_ ?_
    · rintro v σ H2 hv ⟨⟨⟨kc, L, lc, hall⟩, kp, tk⟩, y2, rfl⟩
      rw [Int.zero_add]
      refine ⟨_, rfl, a, dx, _, rfl, L.ob, rfl, _, rfl, _, rfl, a, dx, pv, g, m, n, cd, kc, m - u, v, rfl, L, o, by omega, hv, fun p s h1 h2 h3 => hall p s h2 h3 (.inl (by omega)), fun H3 s3 => ?_⟩
      have szl : (20000 : Nat) ≤ sizeLine := by decide
      refine ⟨_, rfl, a, C, dx, _, _, rfl, s3 _ _ L.ob, S.cl, S.n4, rfl, _, rfl, _, rfl, by show 2 ≤ sizeLine; decide, fun t ht => ?_⟩
      have s4 : Same H3 (upd H3 t (.tup [.int ((m - u : Nat) : Int), .int (v : Nat)])) := Same.made1 ht
      have ht4 : upd H3 t (.tup [.int ((m - u : Nat) : Int), .int (v : Nat)]) t = some (.tup [.int ((m - u : Nat) : Int), .int (v : Nat)]) := upd_same
      have s24 := s3.trans s4
      refine ⟨cd, _, rfl, .inr ⟨kc, key (m - u) v, t, s24 _ _ L.co, rfl, upd_same, by omega, rfl⟩, ?_⟩
      generalize upd H3 t (.tup [.int ((m - u : Nat) : Int), .int (v : Nat)]) = H4 at s4 ht4 s24 ⊢
      have L4 := L.same s24
      have k5 : ∀ c ob, H4 c = some ob → c ≠ cd → upd H4 cd (.dT (putK kc (key (m - u) v) (.int ((fD g m n (m - (m - u)) v : Nat) : Int)))) c = some ob := fun c ob e nc => (upd_ne nc).trans e
      have kl5 : KpL H4 (upd H4 cd (.dT (putK kc (key (m - u) v) (.int ((fD g m n (m - (m - u)) v : Nat) : Int))))) := fun c ob e _ n2 => k5 c ob e fun z => by
        rw [z, L4.co] at e
        exact n2 _ (Option.some.inj e).symm
      refine ⟨⟨⟨putK kc (key (m - u) v) (.int ((fD g m n (m - (m - u)) v : Nat) : Int)), ⟨k5 _ _ L4.ob ac, upd_same, kl5.grid L4.da⟩, ?_, fun p s hp hs z => ?_⟩, fun c ob e n1 => k5 _ _ (s24 _ _ (kp c ob e n1)) n1, fun c e => ?_⟩, _, rfl⟩
      · have := putK_len kc (key (m - u) v) (.int ((fD g m n (m - (m - u)) v : Nat) : Int))
        omega
      · rw [key_put]
        by_cases c : p = m - u ∧ s = v
        · rw [if_pos c, c.1, c.2]
        · rw [if_neg c]
          exact hall p s hp hs (by omega)
      · by_cases z : c = cd
        · rw [z, upd_same] at e
          cases e
        · rw [upd_ne z] at e
          exact tk c (s24.free e)
    · rintro σ H2 ⟨⟨⟨kc, L, lc, hall⟩, kp, tk⟩, y2, rfl⟩
      exact ⟨⟨⟨kc, L, by omega, fun p s hp hs z => hall p s hp hs (by omega)⟩, kp, tk⟩, _, _, rfl⟩
  · rintro σ H1 ⟨⟨⟨kc, L, lc, hall⟩, kp, tk⟩, x, y, rfl⟩
    exact h H1 cd kc (fun c ob e nc => kp _ _ (keep0 c ob e nc) (ne_of_none e hcd0)) (tk0.trans tk) L fun p s _ hp hs => hall p s hp hs (.inl (by omega))
end
end MR

namespace MR
open PySem PySem.Spec PyProof.Rows L2
open VatdfBase (Cell Row Table Bytes Pairs)
theorem freeR_len (g : Vatdfb.Grid) (m n : Nat) : ∀ (d s : Nat), (freeR g m n d s).length ≤ d
  | 0, _ => Nat.le_refl _
  | d + 1, s => by
    rw [freeR_succ]
    cases (leftN n s).find? fun j => Vatdfb.at_ g (m - 1 - d) j + fD g m n d (s + 2 ^ j) == fD g m n (d + 1) s with
    | none =>
      have := freeR_len g m n d s
      show (freeR g m n d s).length ≤ d + 1
      omega
    | some j =>
      have := freeR_len g m n d (s + 2 ^ j)
      show (_ :: freeR g m n d (s + 2 ^ j)).length ≤ d + 1
      rw [List.length_cons]
      omega
/-- what free answers -/
theorem step_free (a b : Table) (cols : Pairs) : Vatdfb.step ⟨some (a, b), cols⟩ .free = (⟨some (a, b), cols⟩, if 8 < a.rows.length ∨ 8 < b.rows.length then [-6] else
    [((fD (costsOf a b cols) a.rows.length b.rows.length a.rows.length 0 : Nat) : Int), ((freeR (costsOf a b cols) a.rows.length b.rows.length a.rows.length 0).length : Int) - (VatdfBase.longest ((freeR (costsOf a b cols) a.rows.length b.rows.length a.rows.length 0).map fun p => p.2) : Nat)] ++
      toldPairs ((freeR (costsOf a b cols) a.rows.length b.rows.length a.rows.length 0).map pN)) := by
  rw [toldPairs_pN]
  show (_, if 8 < a.rows.length ∨ 8 < b.rows.length then [-6] else Vatdfb.int (Vatdfb.free (Vatdfb.work a b cols)).1 :: Vatdfb.int (Vatdfb.outOfOrder (Vatdfb.free (Vatdfb.work a b cols)).2) :: VatdfFlat.flatPairs (Vatdfb.free (Vatdfb.work a b cols)).2) = _
  rw [free_eq]
  have hle := longest_le ((freeR (costsOf a b cols) a.rows.length b.rows.length a.rows.length 0).map fun p => p.2)
  rw [List.length_map] at hle
  have eo : Vatdfb.int (Vatdfb.outOfOrder (freeR (costsOf a b cols) a.rows.length b.rows.length a.rows.length 0)) = ((freeR (costsOf a b cols) a.rows.length b.rows.length a.rows.length 0).length : Int) - (VatdfBase.longest ((freeR (costsOf a b cols) a.rows.length b.rows.length a.rows.length 0).map fun p => p.2) : Nat) := by
    show (((freeR (costsOf a b cols) a.rows.length b.rows.length a.rows.length 0).length - VatdfBase.longest ((freeR (costsOf a b cols) a.rows.length b.rows.length a.rows.length 0).map fun p => p.2) : Nat) : Int) = _
    omega
  rw [← eo]
  rfl
section
variable {P : Program} {w : World} {K : PySem.W.Frag} {mg : Str → Option Value} {base : Heap} {f : Addr} {fd : FuncData} {C CE CT CL CM CW CF XT XC XR XP XN XF_ : Addr}
abbrev s_answer_free : Stmt := topS 86
theorem sc_answer_free : FnScope ["both", "handed", "matched", "free", "pairs", "old", "new"] ["both", "handed"] (defScope s_answer_free) := ⟨rfl, rfl, rfl, by decide +kernel, rfl, by decide +kernel, by decide +kernel⟩
def sp_answer_free (K : PySem.W.Frag) (CT CL CM CW XF_ XN : Addr) : Sp := fun vs H Q E => ∃ (s : Addr) (hv : V) (st : Vatdfb.State), vs = [.ref s, hv] ∧ StAt K CT CL CM CW H s st ∧
  (st.tables = none → Refuse E H XN) ∧ (∀ t, st.tables = some t → 8 < t.1.rows.length ∨ 8 < t.2.rows.length → Refuse E H XF_) ∧ Gives K CT CL CM CW H s Q (Vatdfb.step st .free)
theorem ok_answer_free (T : Tops mg) (S : MtC K CM) (ST : TabC K CT) (C_TwoTables_matched : MetX P w K mg base (L2.CX P w) 1 CW "matched" (sp_matched K CW XN)) (C_FreeMatchings : MakX P w K mg base (L2.CX P w) 3 "FreeMatchings" CF (sp_fm_init K CF XF_))
    (C_FreeMatchings_first_least : MetX P w K mg base CX0 3 CF "first_least" (sp_first_least K CF)) (C_FreeMatchings_least_cost : MetX P w K mg base CX0 1 CF "least_cost" (sp_free_cost K CF)) (C_out_of_order : CalX P w K mg base CX0 3 "out_of_order" (sp_out_of_order K)) (C_told_pairs : CalX P w K mg base CX0 1 "told_pairs" (sp_told_pairs K)) (F : Fun K "answer_free" "answer_free" s_answer_free f fd) :
    FnOk P w K mg base (L2.CX P w) 5 f fd ["both", "handed"] (sp_answer_free K CT CL CM CW XF_ XN) := by
  refine F.okX sc_answer_free (fun vs H Q E h => ?_) (fun cdv A outer s H vs Q E hr h => ⟨_, (pss_cons (ps_set (i := 2) sc_answer_free.nd rfl (Or.inl rfl) (pe_m0 (pv 0) C_TwoTables_matched hr (by decide) (loud (takes_of rfl rfl rfl rfl))))
  (pss_cons (ps_set (i := 3) sc_answer_free.nd rfl (Or.inl rfl) (pe_n C_FreeMatchings hr (by decide) (by rfl) (loudP (takes_of rfl rfl rfl rfl)) (pa_cons (fldK K (pv 2)) (pa_cons (pe_callB (lenK K) (by rfl) T.n_len PySem.boot_len (pa_cons (fldK K (fldK K (pv 2))) pa_nil)) (pa_cons (pe_callB (lenK K) (by rfl) T.n_len PySem.boot_len (pa_cons (fldK K (fldK K (pv 2))) pa_nil)) pa_nil)))))
  (pss_cons (ps_set (i := 4) sc_answer_free.nd rfl (Or.inl rfl) (pe_m0 (pv 3) C_FreeMatchings_first_least hr (by decide) (fun _ => quiet)))
  (pss_one (ps_ret (pe_op op_cat (pe_lst (pa_cons (pe_m0 (pv 3) C_FreeMatchings_least_cost hr (by decide) (fun _ => quiet)) (pa_cons (pe_k C_out_of_order hr (by decide) (by rfl) (fun _ => quiet) (pa_cons (pe_lc (own := [("old", 5), ("new", 6)]) rfl sc_answer_free.nd (lstK K (pv 4)) (blkOk_by (N := ["both", "handed", "matched", "free", "pairs", "old", "new"]) (sc := defScope s_answer_free) (by decide +kernel)) (fun _ _ _ _ _ => (tupK K (n := 2) (pgs_cons (pg_name (i := 5) sc_answer_free.nd rfl (Or.inl rfl)) (pgs_cons (pg_name (i := 6) sc_answer_free.nd rfl (Or.inl rfl)) pgs_nil)))) (fun _ _ _ _ _ => pts_nil) (fun _ _ _ _ _ => (pv 6))) pa_nil)) pa_nil))) (pe_k C_told_pairs hr (by decide) (by rfl) (fun _ => quiet) (pa_cons (pv 4) pa_nil)))))))), ?_⟩)
  · obtain ⟨s, hv, st, rfl, _⟩ := h
    rfl
  obtain ⟨s, hv, st, rfl, hst, hN, hF, hQ⟩ := h
  obtain ⟨stt, cols⟩ := st
  cases stt with
  | none =>
    obtain ⟨dx, hs⟩ := hst
    exact ⟨_, rfl, s, dx, _, rfl, hs, rfl, s, dx, .non, rfl, hs, .inl ⟨rfl, hN rfl⟩⟩
  | some t =>
  obtain ⟨a, b⟩ := t
  have hst : TwAt K CT CL CM CW H s a b cols := hst
  have hF : 8 < a.rows.length ∨ 8 < b.rows.length → Refuse E H XF_ := hF _ rfl
  obtain ⟨G, dx, h, d, o, n, y, p, l, dl, cd, wd, kc, kw, hs, X⟩ := id hst
  refine ⟨_, rfl, s, dx, _, rfl, hs, rfl, s, dx, .ref h, rfl, hs, .inr ⟨(fun z => nomatch z), ?_⟩⟩
  obtain ⟨da, pu, pv_, xu, xv, hA, hpu, hpv, lu, lv⟩ := tabLens X.ta
  obtain ⟨db, pu2, pv2, xu2, xv2, hB, hpu2, hpv2, lu2, lv2⟩ := tabLens X.tb
  refine ⟨_, rfl, h, CM, d, _, _, rfl, X.ob, S.cl, S.n4, rfl, _, rfl, h, CM, d, _, _, rfl, X.ob, S.cl, S.n1, rfl, o, CT, da, _, _, rfl, hA, ST.cl, ST.n2, rfl, pv_, xv, rfl, .inl hpv, _, rfl, h, CM, d, _, _, rfl, X.ob, S.cl, S.n2, rfl, n, CT, db, _, _, rfl, hB, ST.cl, ST.n2, rfl, pv2, xv2, rfl, .inl hpv2, ?_⟩
  rw [lv, lv2]
  intro x dq hx hdq hne
  generalize hH1 : upd (upd H dq (.own x)) x (.ins CF dq []) = H1
  have s1 : Same H H1 := fun c e q => by
    rw [← hH1, upd_ne (ne_of_none q hx), upd_ne (ne_of_none q hdq)]
    exact q
  refine ⟨x, dq, p, costsOf a b cols, _, _, rfl, by rw [← hH1]; exact upd_same, dmono s1 X.lm.da, G.gridOk, fun c => hF c H1 s1, fun c H2 cq kq k2 t2 L td => ⟨rfl, ?_⟩⟩
  have s2 : Same H H2 := fun c e q => k2 c e (s1 c e q) (ne_of_none q hx)
  unfold Gives at hQ
  rw [step_free, if_neg c] at hQ
  refine ⟨_, rfl, x, dq, _, rfl, L.ob, rfl, x, dq, p, costsOf a b cols, _, _, cq, kq, rfl, L, G.gridOk, td, fun v3 H3 s3 d3 => ?_⟩
  have L3 := L.same s3
  have hfl := freeR_len (costsOf a b cols) a.rows.length b.rows.length a.rows.length 0
  have hfd := td 0 0 (Nat.le_refl _) (Nat.zero_le _) (Nat.two_pow_pos _)
  rw [Nat.sub_zero] at hfd
  have hsm := G.small
  generalize freeR (costsOf a b cols) a.rows.length b.rows.length a.rows.length 0 = fl at *
  have d3' := dmono nw_in d3
  have d3'' := d3'
  rw [dP_pN] at d3''
  obtain ⟨pf, xf, rfl, hpf, hxf⟩ := Dp.list d3''
  refine ⟨_, rfl, x, dq, _, rfl, L3.ob, rfl, x, dq, p, gridI (costsOf a b cols), _, _, cq, kq, _, rfl, L3, hfd, fun H4 s4 => ?_⟩
  refine ⟨_, rfl, pf, rfl, ⟨xf, s4.seq hpf⟩, fun B hB => ?_⟩
  refine lc_L (K := K) (enc := fun q => dP (pN q)) (l := fl) (fun q => some (dI q.2)) (by omega) hB (s4.seq hpf) (dmonoAll s4 hxf) ?_ ?_
  · intro i r z H5 acc hr2 s5 hacc dz Kt Kf ht hf
    obtain ⟨t, rfl, hT⟩ := Dp.pair dz
    exact ⟨t, _, rfl, hT, rfl, _, _, rfl, _, _, rfl, rfl, rfl, lc_yes ⟨_, rfl, ht _ _ _ rfl (Same.refl _) (.int _)⟩⟩
  intro H5 s5 d5
  have e5 : PyData.list (fl.filterMap fun q => some (dI q.2)) = dLI ((fl.map fun p => p.2).map Int.ofNat) := by
    rw [filterMap_some_map]
    show _ = PyData.list (((fl.map fun p => p.2).map Int.ofNat).map dI)
    rw [List.map_map, List.map_map]
    rfl
  rw [e5] at d5
  obtain ⟨q5, eq5, hq5⟩ := Dp.ints (dmono nw_in d5)
  cases eq5
  refine ⟨B, _, rfl, hq5, by rw [List.length_map]; omega, fun H6 s6 => ?_⟩
  refine ⟨by show 2 ≤ sizeLine; decide, fun D hD => ?_⟩
  rw [List.length_map]
  generalize hM : [V.int ((fD (costsOf a b cols) a.rows.length b.rows.length a.rows.length 0 : Nat) : Int), V.int ((fl.length : Int) - (VatdfBase.longest (fl.map fun p => p.2) : Nat))] = M at *
  have lM : M.length = 2 := by rw [← hM]; rfl
  have s7 : Same H6 (upd H6 D (.lst M)) := Same.made1 hD
  have hD7 : upd H6 D (.lst M) D = some (.lst M) := upd_same
  generalize upd H6 D (.lst M) = H7 at s7 hD7 ⊢
  have s37 := ((s4.trans s5).trans s6).trans s7
  refine ⟨_, rfl, .ref pf, fl.map pN, rfl, dmono s37 d3', by rw [List.length_map]; omega, fun q8 H8 s8 n8 h8 => ?_⟩
  have l8 : ((toldPairs (fl.map pN)).map V.int).length ≤ 300 := by rw [List.length_map, toldPairs_len, List.length_map]; omega
  have szl : (2000 : Nat) ≤ sizeLine := by decide
  refine ⟨D, q8, _, _, rfl, rfl, s8 _ _ hD7, h8, by omega, fun R hR => ?_⟩
  have s08 : Same H H8 := ((s2.trans s3).trans s37).trans s8
  have s09 := s08.trans (Same.made1 (o := .lst (M ++ (toldPairs (fl.map pN)).map V.int)) hR)
  refine hQ _ R (KpB.same s09) (Same.tk s09) (TwAt.same hst s09) (s08.free hR) ?_
  rw [upd_same, List.map_append, ← hM]
  rfl
end
end MR

namespace MR
open PySem PySem.Spec PyProof.Rows L2
/-- ints in a new list are handed back -/
abbrev Ints (H : Hp) (Q : VK) (l : List Int) : Prop := ∀ p H', Same H H' → H p = none → H' p = some (.lst (l.map V.int)) → Q (.ref p) H'
def toldNamesM (nm : List (List Int)) : List Int := (nm.length : Int) :: nm.flatMap fun w => (w.length : Int) :: w
def rowAt (rows : List RowI) (r : Nat) : RowI := (rows[r]?).getD []
def toldLoneM (rows : List RowI) (lone : List Nat) : List Int := (lone.length : Int) :: lone.flatMap fun (r : Nat) => (r : Int) :: (rowAt rows r).flatten
/-- whether a cell is told -/
def toldB (c : List Int) (q : RowI) : Option Nat → Bool
  | none => fullC c
  | some d => !decide (c = (q[d]?).getD [])
/-- of one row of a pair, the cells that are told -/
def rowCellsM (row q : RowI) (cols : List (Nat × Nat)) (i : Nat) : List (List Int) := (List.range row.length).filterMap fun c => (row[c]?).bind fun z => if toldB z q (VatdfBase.newOf cols c) = true then some ((i : Int) :: (c : Int) :: z) else none
def cellsM (rows rows2 : List RowI) (cols rp : List (Nat × Nat)) : List (List Int) := rp.flatMap fun p => rowCellsM (rowAt rows p.1) (rowAt rows2 p.2) cols p.1
def toldCellsM (rows rows2 : List RowI) (cols rp : List (Nat × Nat)) : List Int := ((cellsM rows rows2 cols rp).length : Int) :: (cellsM rows rows2 cols rp).flatten
def sideM (nm : List (List Int)) (rows rows2 : List RowI) (cols rp : List (Nat × Nat)) : List Int := (toldNamesM nm ++ [(rows.length : Int)]) ++ toldLoneM rows (loneN (rp.map fun p => p.1) rows.length) ++ toldCellsM rows rows2 cols rp
def swapP (p : Nat × Nat) : Nat × Nat := (p.2, p.1)
theorem fm_snoc {α β : Type} {l : List α} {i : Nat} {x : α} (f : α → List β) (h : l[i]? = some x) : (l.take (i + 1)).flatMap f = (l.take i).flatMap f ++ f x := by
  rw [List.take_add_one, h, List.flatMap_append]
  show _ ++ [x].flatMap f = _
  rw [List.flatMap_singleton]
theorem fm_le {α β : Type} (l : List α) (f : α → List β) (i : Nat) : ((l.take i).flatMap f).length ≤ (l.flatMap f).length := by
  conv => rhs; rw [← List.take_append_drop i l]
  rw [List.flatMap_append, List.length_append]
  omega
theorem sameU {H H2 : Hp} {D : Addr} {ob : HO} (hD : H D = none) (s : Same H H2) : Same H (upd H2 D ob) := fun c o e => (upd_ne (ne_of_none e hD)).trans (s _ _ e)
section
variable {P : Program} {w : World} {K : PySem.W.Frag} {mg : Str → Option Value} {base : Heap} {f : Addr} {fd : FuncData} {C CE CT : Addr}
abbrev s_turned : Stmt := topS 37
theorem sc_turned : FnScope ["pairs", "old", "new"] ["pairs"] (defScope s_turned) := ⟨rfl, rfl, rfl, by decide +kernel, rfl, by decide +kernel, by decide +kernel⟩
def sp_turned (K : PySem.W.Frag) : Sp := fun vs H Q _ => ∃ (y : V) (l : List (Nat × Nat)), vs = [y] ∧ Dp K H y (dL dP (l.map pN)) ∧ l.length ≤ 1000 ∧ New K H Q (dL dP ((l.map swapP).map pN))
theorem ok_turned (T : Tops mg) (F : Fun K "turned" "turned" s_turned f fd) : FnOk P w K mg base CX0 1 f fd ["pairs"] (sp_turned K) := by
  refine F.ok sc_turned (fun vs H Q E h => ?_) (fun cdv A outer s H vs Q E hr h => ⟨_, (pss_one (ps_ret (pe_lc (own := [("old", 1), ("new", 2)]) rfl sc_turned.nd (lstK K (pv 0)) (blkOk_by (N := ["pairs", "old", "new"]) (sc := defScope s_turned) (by decide +kernel)) (fun _ _ _ _ _ => (tupK K (n := 2) (pgs_cons (pg_name (i := 1) sc_turned.nd rfl (Or.inl rfl)) (pgs_cons (pg_name (i := 2) sc_turned.nd rfl (Or.inl rfl)) pgs_nil)))) (fun _ _ _ _ _ => pts_nil) (fun _ _ _ _ _ => (pe_tup (pa_cons (pv 2) (pa_cons (pv 1) pa_nil))))))), ?_⟩)
  · obtain ⟨y, l, rfl, _⟩ := h
    rfl
  obtain ⟨y, l, rfl, dy, hl, hQ⟩ := h
  rw [dP_pN] at dy
  obtain ⟨p, xs, rfl, hp, hx⟩ := Dp.list dy
  refine ⟨_, rfl, p, rfl, ⟨xs, hp⟩, fun D hD => ?_⟩
  refine lc_L (K := K) (enc := fun q => dP (pN q)) (l := l) (fun q => some (dP (pN (swapP q)))) (by omega) hD hp hx ?_ ?_
  · intro i r x H2 acc hr2 s2 hacc dx Kt Kf ht hf
    obtain ⟨t, rfl, hT⟩ := Dp.pair dx
    refine ⟨t, _, rfl, hT, rfl, _, _, rfl, _, _, rfl, rfl, rfl, lc_yes ⟨_, rfl, _, rfl, by show 2 ≤ sizeLine; decide, fun u hu => ?_⟩⟩
    exact ht _ _ _ rfl (Same.made1 hu) (dmono (hd_nw (Same.tk s2) hacc) (.tup (.inl (.inl (nw_made hu))) (.cons (.int _) (.cons (.int _) .nil))))
  · intro H2 s2 d2
    rw [filterMap_some_map] at d2
    refine hQ _ _ s2 ?_
    rw [dP_pN, List.map_map]
    exact d2

abbrev s_told_names : Stmt := topS 68
theorem sc_told_names : FnScope ["names", "told", "name"] ["names"] (defScope s_told_names) := ⟨rfl, rfl, rfl, by decide +kernel, rfl, by decide +kernel, by decide +kernel⟩
def sp_told_names (K : PySem.W.Frag) : Sp := fun vs H Q _ => ∃ (y : V) (nm : List (List Int)), vs = [y] ∧ Dp K H y (dL dLI nm) ∧ (toldNamesM nm).length ≤ 100000 ∧ Ints H Q (toldNamesM nm)
theorem ok_told_names (T : Tops mg) (F : Fun K "told_names" "told_names" s_told_names f fd) : FnOk P w K mg base CX0 1 f fd ["names"] (sp_told_names K) := by
  refine F.ok sc_told_names (fun vs H Q E h => ?_) (fun cdv A outer s H vs Q E hr h => ⟨_, (pss_cons (ps_set (i := 1) sc_told_names.nd rfl (Or.inl rfl) (pe_lst (pa_cons (pe_callB (lenK K) (by rfl) T.n_len PySem.boot_len (pa_cons (pv 0) pa_nil)) pa_nil)))
  (pss_cons (ps_for PassesOwn.never rfl (lstK K (pv 0)) (pg_name (i := 2) sc_told_names.nd rfl (Or.inl rfl))
   (pss_cons (ps_expr (pe_bm PySem.F.plainAttrs_list PySem.F.slot_list_append PySem.F.type_list_append mt_append (pv 1) (pa_cons (pe_callB (lenK K) (by rfl) T.n_len PySem.boot_len (pa_cons (pv 2) pa_nil)) pa_nil)))
  (pss_one (ps_expr (pe_bm PySem.F.plainAttrs_list PySem.F.slot_list_extend PySem.F.type_list_extend (extK K) (pv 1) (pa_cons (pv 2) pa_nil))))))
  (pss_one (ps_ret (pv 1))))), ?_⟩)
  · obtain ⟨y, nm, rfl, _⟩ := h
    rfl
  obtain ⟨y, nm, rfl, dy, hl, hQ⟩ := h
  obtain ⟨p, xs, rfl, hp, hx⟩ := Dp.list dy
  have hxl : xs.length = nm.length := by rw [DpAll.length hx, List.length_map]
  have szl : (200000 : Nat) ≤ sizeLine := by rw [sizeLine_eq]; decide
  have hl : 1 + (nm.flatMap fun w => (w.length : Int) :: w).length ≤ 100000 := by
    have e : (toldNamesM nm).length = (nm.flatMap fun w => (w.length : Int) :: w).length + 1 := rfl
    omega
  refine ⟨_, rfl, _, _, rfl, .inl hp, by show 1 ≤ sizeLine; decide, fun D hD => ?_⟩
  have s0 : Same H (upd H D (.lst [.int (xs.length : Nat)])) := Same.made1 hD
  have hD0 : upd H D (.lst [.int (xs.length : Nat)]) D = some (.lst [.int (xs.length : Nat)]) := upd_same
  generalize upd H D (.lst [.int (xs.length : Nat)]) = H0 at s0 hD0 ⊢
  refine ⟨_, rfl, p, rfl, ⟨xs, s0.seq hp⟩, for_list (K := K) (a := p) (xs := xs) (fun i σ H' => Same H H' ∧ H' D = some (.lst (((nm.length : Int) :: (nm.take i).flatMap fun w => (w.length : Int) :: w).map V.int)) ∧ ∃ u, σ = [some (.ref p), some (.ref D), u])
    ⟨s0, by rw [hD0, hxl]; rfl, _, rfl⟩ (fun i σ H' _ q => q.1.seq hp) ?_ ?_⟩
  · rintro i x σ H2 hi ⟨s2, hD2, u, rfl⟩
    obtain ⟨z, hz, dz⟩ := DpAll.item (enc := dLI) hx hi
    obtain ⟨q, rfl, hq⟩ := Dp.ints (dmono s2 dz)
    have fl := fm_le nm (fun w => (w.length : Int) :: w) (i + 1)
    have fs := fm_snoc (fun w : List Int => (w.length : Int) :: w) hz
    rw [fs, List.length_append, List.length_cons] at fl
    refine ⟨_, rfl, .inl ⟨rfl, _, SqL.of hD2⟩, _, rfl, q, _, rfl, .inl hq, D, _, _, rfl, rfl, hD2, by rw [List.length_map, List.length_cons]; omega, ?_⟩
    refine ⟨_, rfl, .inl ⟨rfl, _, SqL.of upd_same⟩, _, rfl, D, q, _, z.map V.int, rfl, rfl, upd_same, ?_, by rw [List.length_append, List.length_map, List.length_map, List.length_cons, List.length_singleton]; omega, ?_⟩
    · obtain ⟨q0, e0, hq0⟩ := Dp.ints dz
      cases e0
      exact (sameU hD s2).seq hq0
    · rw [upd_upd]
      refine ⟨fun c o e => (upd_ne (ne_of_none e hD)).trans (s2 _ _ e), ?_, _, rfl⟩
      rw [upd_same, fs]
      simp
  · rintro σ H2 ⟨s2, hD2, u, rfl⟩
    rw [hxl, List.take_length] at hD2
    exact ⟨_, rfl, hQ D H2 s2 hD hD2⟩

abbrev s_told_lone_rows : Stmt := topS 69
theorem sc_told_lone_rows : FnScope ["side", "lone", "told", "row", "cell"] ["side", "lone"] (defScope s_told_lone_rows) := ⟨rfl, rfl, rfl, by decide +kernel, rfl, by decide +kernel, by decide +kernel⟩
def sp_told_lone_rows (K : PySem.W.Frag) (CT : Addr) : Sp := fun vs H Q _ => ∃ (t a : Addr) (nm : List (List Int)) (rows : List RowI) (lone : List Nat), vs = [.ref t, .ref a] ∧ TabAt K CT H t nm rows ∧ SqL K H a ((lone.map Int.ofNat).map V.int) ∧ (∀ r ∈ lone, r < rows.length) ∧ (toldLoneM rows lone).length ≤ 100000 ∧ Ints H Q (toldLoneM rows lone)
theorem ok_told_lone_rows (T : Tops mg) (S : TabC K CT) (F : Fun K "told_lone_rows" "told_lone_rows" s_told_lone_rows f fd) : FnOk P w K mg base CX0 1 f fd ["side", "lone"] (sp_told_lone_rows K CT) := by
  refine F.ok sc_told_lone_rows (fun vs H Q E h => ?_) (fun cdv A outer s H vs Q E hr h => ⟨_, (pss_cons (ps_set (i := 2) sc_told_lone_rows.nd rfl (Or.inl rfl) (pe_lst (pa_cons (pe_callB (lenK K) (by rfl) T.n_len PySem.boot_len (pa_cons (pv 1) pa_nil)) pa_nil)))
  (pss_cons (ps_for PassesOwn.never rfl (lstK K (pv 1)) (pg_name (i := 3) sc_told_lone_rows.nd rfl (Or.inl rfl))
   (pss_cons (ps_expr (pe_bm PySem.F.plainAttrs_list PySem.F.slot_list_append PySem.F.type_list_append mt_append (pv 2) (pa_cons (pv 3) pa_nil)))
  (pss_one (ps_for PassesOwn.never rfl (lstK K (pe_ix (ixL K) (fldK K (pv 0)) (pv 3) (fun _ _ => rfl))) (pg_name (i := 4) sc_told_lone_rows.nd rfl (Or.inl rfl))
   (pss_one (ps_expr (pe_bm PySem.F.plainAttrs_list PySem.F.slot_list_extend PySem.F.type_list_extend (extK K) (pv 2) (pa_cons (pv 4) pa_nil))))))))
  (pss_one (ps_ret (pv 2))))), ?_⟩)
  · obtain ⟨t, a, nm, rows, lone, rfl, _⟩ := h
    rfl
  obtain ⟨t, a, nm, rows, lone, rfl, tA, ha, hin, hl, hQ⟩ := h
  obtain ⟨dx, u, v, hA, du, dv⟩ := id tA.ex
  obtain ⟨p, xs, rfl, hp, hx⟩ := Dp.list dv
  have hll : ((lone.map Int.ofNat).map V.int).length = lone.length := by rw [List.length_map, List.length_map]
  have szl : (200000 : Nat) ≤ sizeLine := by rw [sizeLine_eq]; decide
  have hl : 1 + (lone.flatMap fun (r : Nat) => (r : Int) :: (rowAt rows r).flatten).length ≤ 100000 := by
    have e : (toldLoneM rows lone).length = (lone.flatMap fun (r : Nat) => (r : Int) :: (rowAt rows r).flatten).length + 1 := rfl
    omega
  refine ⟨_, rfl, _, _, rfl, .inl ha, by show 1 ≤ sizeLine; decide, fun D hD => ?_⟩
  rw [hll]
  have s0 : Same H (upd H D (.lst [.int (lone.length : Nat)])) := Same.made1 hD
  have hD0 : upd H D (.lst [.int (lone.length : Nat)]) D = some (.lst [.int (lone.length : Nat)]) := upd_same
  generalize upd H D (.lst [.int (lone.length : Nat)]) = H0 at s0 hD0 ⊢
  refine ⟨_, rfl, a, rfl, ⟨_, s0.seq ha⟩, for_list (K := K) (a := a) (xs := (lone.map Int.ofNat).map V.int) (fun i σ H' => Same H H' ∧ H' D = some (.lst (((lone.length : Int) :: (lone.take i).flatMap fun (r : Nat) => (r : Int) :: (rowAt rows r).flatten).map V.int)) ∧ ∃ x y, σ = [some (.ref t), some (.ref a), some (.ref D), x, y])
    ⟨s0, hD0, _, _, rfl⟩ (fun i σ H' _ q => q.1.seq ha) ?_ ?_⟩
  · rintro i x σ H2 hi ⟨s2, hD2, x3, x4, rfl⟩
    rw [List.getElem?_map, List.getElem?_map] at hi
    cases hr0 : lone[i]? with
    | none => rw [hr0] at hi; cases hi
    | some r =>
    rw [hr0] at hi
    cases hi
    have hrl := hin r (List.mem_of_getElem? hr0)
    have fl := fm_le lone (fun (r : Nat) => (r : Int) :: (rowAt rows r).flatten) (i + 1)
    have fs := fm_snoc (fun (r : Nat) => (r : Int) :: (rowAt rows r).flatten) hr0
    rw [fs, List.length_append, List.length_cons] at fl
    have er : rowAt rows r = rows[r] := by unfold rowAt; rw [List.getElem?_eq_getElem hrl]; rfl
    obtain ⟨vr, evr, dvr⟩ := DpAll.get hx (show (rows.map (dL dLI))[r]? = some (dL dLI rows[r]) from by rw [List.getElem?_map, List.getElem?_eq_getElem hrl]; rfl)
    rw [← er] at dvr
    obtain ⟨pr, xr, rfl, hpr, hxr⟩ := Dp.list dvr
    have hxrl : xr.length = (rowAt rows r).length := by rw [DpAll.length hxr, List.length_map]
    refine ⟨_, rfl, .inl ⟨rfl, _, SqL.of hD2⟩, _, rfl, D, _, _, rfl, rfl, hD2, by rw [List.length_map, List.length_cons]; omega, ?_⟩
    have s3 := sameU (ob := .lst (((lone.length : Int) :: (lone.take i).flatMap fun (r : Nat) => (r : Int) :: (rowAt rows r).flatten).map V.int ++ [.int (r : Nat)])) hD s2
    refine ⟨_, rfl, t, CT, dx, _, _, rfl, s3 _ _ hA, S.cl, S.n2, rfl, _, rfl, p, xs, _, _, rfl, rfl, s3.seq hp, at_of (j := r) rfl evr, pr, rfl, ⟨xr, s3.seq hpr⟩, ?_⟩
    refine for_list (K := K) (a := pr) (xs := xr) (fun j σ H' => Same H H' ∧ H' D = some (.lst ((((lone.length : Int) :: (lone.take i).flatMap fun (r : Nat) => (r : Int) :: (rowAt rows r).flatten) ++ ((r : Int) :: ((rowAt rows r).take j).flatten)).map V.int)) ∧ ∃ y, σ = [some (.ref t), some (.ref a), some (.ref D), some (.int (r : Nat)), y])
      ⟨s3, by rw [upd_same, List.map_append]; rfl, _, rfl⟩ (fun j σ H' _ q => q.1.seq hpr) ?_ ?_
    · rintro j y σ H4 hj ⟨s4, hD4, y4, rfl⟩
      obtain ⟨z, hz, dz⟩ := DpAll.item (enc := dLI) hxr hj
      obtain ⟨q, rfl, hq⟩ := Dp.ints dz
      have gs : ((rowAt rows r).take (j + 1)).flatten = ((rowAt rows r).take j).flatten ++ z := by
        rw [List.take_add_one, hz, List.flatten_append]
        show _ ++ ([z] : List (List Int)).flatten = _
        rw [List.flatten_singleton]
      have gl : ((rowAt rows r).take (j + 1)).flatten.length ≤ (rowAt rows r).flatten.length := by
        conv => rhs; rw [← List.take_append_drop (j + 1) (rowAt rows r)]
        rw [List.flatten_append, List.length_append]
        omega
      rw [gs, List.length_append] at gl
      refine ⟨_, rfl, .inl ⟨rfl, _, SqL.of hD4⟩, _, rfl, D, q, _, z.map V.int, rfl, rfl, hD4, s4.seq hq, by rw [List.length_map, List.length_append, List.length_cons, List.length_cons, List.length_map]; omega, sameU hD s4, ?_, _, rfl⟩
      rw [upd_same, gs]
      simp
    · rintro σ H4 ⟨s4, hD4, y4, rfl⟩
      rw [hxrl, List.take_length] at hD4
      refine ⟨s4, ?_, _, _, rfl⟩
      rw [hD4, fs]
      rfl
  · rintro σ H2 ⟨s2, hD2, x3, x4, rfl⟩
    rw [hll, List.take_length] at hD2
    exact ⟨_, rfl, hQ D H2 s2 hD hD2⟩

abbrev s_is_told : Stmt := topS 71
theorem sc_is_told : FnScope ["cell", "other_row", "other_column"] ["cell", "other_row", "other_column"] (defScope s_is_told) := ⟨rfl, rfl, rfl, by decide +kernel, rfl, by decide +kernel, by decide +kernel⟩
def optV : Option Nat → V
  | none => .non
  | some d => .int (d : Nat)
def sp_is_told (K : PySem.W.Frag) : Sp := fun vs H Q _ => ∃ (u v : V) (c : List Int) (q : RowI) (o : Option Nat), vs = [u, v, optV o] ∧ Dp K H u (dLI c) ∧ c ≠ [] ∧ Dp K H v (dL dLI q) ∧ (∀ d, o = some d → d < q.length) ∧ Q (.bl (toldB c q o)) H
theorem ok_is_told (T : Tops mg) (C_is_empty : CalX P w K mg base CX0 1 "is_empty" (sp_is_empty K)) (F : Fun K "is_told" "is_told" s_is_told f fd) : FnOk P w K mg base CX0 2 f fd ["cell", "other_row", "other_column"] (sp_is_told K) := by
  refine F.ok sc_is_told (fun vs H Q E h => ?_) (fun cdv A outer s H vs Q E hr h => ⟨_, (pss_cons (ps_if (pt_cmp (pc_isN (pv 2)) rfl)
   (pss_one (ps_ret (pe_not (pe_k C_is_empty hr (by decide) (by rfl) (fun _ => quiet) (pa_cons (pv 0) pa_nil))))) pss_nil)
  (pss_one (ps_ret (pe_cmpR (neD K hr.units) (pv 0) (pe_ix (ixL K) (pv 1) (pv 2) (fun _ _ => rfl)) (nomark _))))), ?_⟩)
  · obtain ⟨u, v, c, q, o, rfl, _⟩ := h
    rfl
  obtain ⟨u, v, c, q, o, rfl, du, hc, dv, ho, hQ⟩ := h
  cases o with
  | none =>
    refine ⟨_, rfl, _, rfl, iteT ?_⟩
    refine ⟨_, rfl, u, c, rfl, du, hc, _, rfl, ?_⟩
    have e : (!(!fullC c)) = fullC c := Bool.not_not _
    rw [e]
    exact hQ
  | some d =>
    have hd := ho d rfl
    obtain ⟨p, xs, rfl, hp, hx⟩ := Dp.list dv
    obtain ⟨vc, ec, dc⟩ := DpAll.get hx (show (q.map dLI)[d]? = some (dLI q[d]) from by rw [List.getElem?_map, List.getElem?_eq_getElem hd]; rfl)
    refine ⟨_, rfl, _, rfl, iteF ?_⟩
    refine ⟨_, rfl, _, rfl, _, rfl, p, xs, _, _, rfl, rfl, hp, at_of (j := d) rfl ec, _, _, du, dc, shaped_LI c, shaped_LI _, ?_⟩
    rw [eqv_LI]
    have e : toldB c q (some d) = !decide (c = q[d]) := by
      show (!decide (c = (q[d]?).getD [])) = _
      rw [List.getElem?_eq_getElem hd]
      rfl
    rw [e] at hQ
    exact hQ
end
end MR

namespace MR
open PySem PySem.Spec PyProof.Rows L2
theorem fmr_le {α : Type} (f : Nat → Option α) {j n : Nat} (h : j ≤ n) : ∃ rest, (List.range n).filterMap f = (List.range j).filterMap f ++ rest := by
  obtain ⟨k, rfl⟩ : ∃ k, n = j + k := ⟨n - j, by omega⟩
  rw [List.range_add, List.filterMap_append]
  exact ⟨_, rfl⟩
section
variable {P : Program} {w : World} {K : PySem.W.Frag} {mg : Str → Option Value} {base : Heap} {f : Addr} {fd : FuncData} {C CE CT : Addr}
abbrev s_told_cells : Stmt := topS 70
theorem sc_told_cells : FnScope ["side", "other", "columns", "rows", "matched", "count", "told", "row", "other_row", "column", "cell"] ["side", "other", "columns", "rows"] (defScope s_told_cells) := ⟨rfl, rfl, rfl, by decide +kernel, rfl, by decide +kernel, by decide +kernel⟩
def sp_told_cells (K : PySem.W.Frag) (CT : Addr) : Sp := fun vs H Q _ => ∃ (s o : Addr) (y z : V) (nm nm2 : List (List Int)) (rows rows2 : List RowI) (cols rp : List (Nat × Nat)), vs = [.ref s, .ref o, y, z] ∧ TabAt K CT H s nm rows ∧ TabAt K CT H o nm2 rows2 ∧ Dp K H y (dL dP (cols.map pN)) ∧ Dp K H z (dL dP (rp.map pN)) ∧
  (cols.map fun p => p.1).Nodup ∧ (∀ p ∈ rp, p.1 < rows.length ∧ p.2 < rows2.length) ∧ (∀ r ∈ rows, ∀ c ∈ r, c ≠ []) ∧ (∀ r ∈ rows2, ∀ p ∈ cols, p.2 < r.length) ∧ (toldCellsM rows rows2 cols rp).length ≤ 100000 ∧ Ints H Q (toldCellsM rows rows2 cols rp)
theorem ok_told_cells (T : Tops mg) (S : TabC K CT) (C_is_told : CalX P w K mg base CX0 2 "is_told" (sp_is_told K)) (F : Fun K "told_cells" "told_cells" s_told_cells f fd) : FnOk P w K mg base CX0 3 f fd ["side", "other", "columns", "rows"] (sp_told_cells K CT) := by
  refine F.ok sc_told_cells (fun vs H Q E h => ?_) (fun cdv A outer s H vs Q E hr h => ⟨_, (pss_cons (ps_set (i := 4) sc_told_cells.nd rfl (Or.inl rfl) (pe_callTy (dictK K) (by rfl) T.n_dict (by decide +kernel) (pa_cons (pv 2) pa_nil)))
  (pss_cons (ps_set (i := 5) sc_told_cells.nd rfl (Or.inl rfl) pe_int)
  (pss_cons (ps_set (i := 6) sc_told_cells.nd rfl (Or.inl rfl) (pe_lst pa_nil))
  (pss_cons (ps_for PassesOwn.never rfl (lstK K (pv 3)) (tupK K (n := 2) (pgs_cons (pg_name (i := 7) sc_told_cells.nd rfl (Or.inl rfl)) (pgs_cons (pg_name (i := 8) sc_told_cells.nd rfl (Or.inl rfl)) pgs_nil)))
   (pss_one (ps_for PassesOwn.never rfl (enumK K (by rfl) T.n_enumerate (pa_cons (pe_ix (ixL K) (fldK K (pv 0)) (pv 7) (fun _ _ => rfl)) pa_nil)) (tupK K (n := 2) (pgs_cons (pg_name (i := 9) sc_told_cells.nd rfl (Or.inl rfl)) (pgs_cons (pg_name (i := 10) sc_told_cells.nd rfl (Or.inl rfl)) pgs_nil)))
   (pss_one (ps_if (pt_val (pe_k C_is_told hr (by decide) (by rfl) (fun _ => quiet) (pa_cons (pv 10) (pa_cons (pe_ix (ixL K) (fldK K (pv 1)) (pv 8) (fun _ _ => rfl)) (pa_cons (pe_dget1 (hu_of hr) (pv 4) (pv 9) (m1_of (by rfl) (by rfl) (by rfl))) pa_nil)))))
   (pss_cons (ps_aug (i := 5) sc_told_cells.nd rfl (Or.inl rfl) pe_int ip_add)
  (pss_one (ps_expr (pe_bm PySem.F.plainAttrs_list PySem.F.slot_list_extend PySem.F.type_list_extend (extK K) (pv 6) (pa_cons (pe_op (catK K) (pe_lst (pa_cons (pv 7) (pa_cons (pv 9) pa_nil))) (pv 10)) pa_nil))))) pss_nil)))))
  (pss_one (ps_ret (pe_op (catK K) (pe_lst (pa_cons (pv 5) pa_nil)) (pv 6)))))))), ?_⟩)
  · obtain ⟨s, o, y, z, nm, nm2, rows, rows2, cols, rp, rfl, _⟩ := h
    rfl
  obtain ⟨s, o, y, z, nm, nm2, rows, rows2, cols, rp, rfl, tS, tO, dy, dz, hnd, hin, hce, hin2, hl, hQ⟩ := h
  obtain ⟨dxs, us, vs, hS, dus, dvs⟩ := id tS.ex
  obtain ⟨dxo, uo, vo, hO, duo, dvo⟩ := id tO.ex
  obtain ⟨pS, xS, rfl, hpS, hxS⟩ := Dp.list dvs
  obtain ⟨pO, xO, rfl, hpO, hxO⟩ := Dp.list dvo
  have szl : (200000 : Nat) ≤ sizeLine := by rw [sizeLine_eq]; decide
  have hl : 1 + (cellsM rows rows2 cols rp).flatten.length ≤ 100000 := by
    have e : (toldCellsM rows rows2 cols rp).length = (cellsM rows rows2 cols rp).flatten.length + 1 := rfl
    omega
  rw [dP_pN] at dy dz
  obtain ⟨p, xs, rfl, hp, hx⟩ := Dp.list dy
  obtain ⟨ps, rfl, hps⟩ := pairs_at hx
  obtain ⟨q, xr, rfl, hq, hxr⟩ := Dp.list dz
  have hxrl : xr.length = rp.length := by rw [DpAll.length hxr, List.length_map]
  refine ⟨_, rfl, p, ps, kvsP cols, rfl, hp, hps, fun d hd => ?_⟩
  have s1 : Same H (upd H d (.dK (mergeK [] (kvsP cols)))) := Same.made1 hd
  have hd1 : upd H d (.dK (mergeK [] (kvsP cols))) d = some (.dK (mergeK [] (kvsP cols))) := upd_same
  generalize upd H d (.dK (mergeK [] (kvsP cols))) = H1 at s1 hd1 ⊢
  refine ⟨Nat.zero_le _, fun D hD => ?_⟩
  have s2 : Same H1 (upd H1 D (.lst [])) := Same.made1 hD
  have hD2 : upd H1 D (.lst []) D = some (.lst []) := upd_same
  generalize upd H1 D (.lst []) = H2 at s2 hD2 ⊢
  let rc : Nat × Nat → List (List Int) := fun r => rowCellsM (rowAt rows r.1) (rowAt rows2 r.2) cols r.1
  refine ⟨_, rfl, q, rfl, ⟨_, (s1.trans s2).seq hq⟩, for_list (K := K) (a := q) (xs := xr) (fun i σ H' => Same H1 H' ∧ H' D = some (.lst ((((rp.take i).flatMap rc).flatten).map V.int)) ∧ ∃ x7 x8 x9 x10, σ = [some (.ref s), some (.ref o), some (.ref p), some (.ref q), some (.ref d), some (.int (((rp.take i).flatMap rc).length : Nat)), some (.ref D), x7, x8, x9, x10])
    ⟨s2, hD2, _, _, _, _, rfl⟩ (fun i σ H' _ z => (s1.trans z.1).seq hq) ?_ ?_⟩
  · rintro i x σ H3 hi ⟨s3, hD3, x7, x8, x9, x10, rfl⟩
    obtain ⟨r, hr0, dr⟩ := dAll_pN hxr hi
    have s03 := s1.trans s3
    obtain ⟨t, rfl, ht⟩ := Dp.pair (dmono s03 dr)
    obtain ⟨h1, h2⟩ := hin r (List.mem_of_getElem? hr0)
    have er1 : rowAt rows r.1 = rows[r.1] := by unfold rowAt; rw [List.getElem?_eq_getElem h1]; rfl
    have er2 : rowAt rows2 r.2 = rows2[r.2] := by unfold rowAt; rw [List.getElem?_eq_getElem h2]; rfl
    obtain ⟨v1, ev1, dv1⟩ := DpAll.get hxS (show (rows.map (dL dLI))[r.1]? = some (dL dLI rows[r.1]) from by rw [List.getElem?_map, List.getElem?_eq_getElem h1]; rfl)
    obtain ⟨v2, ev2, dv2⟩ := DpAll.get hxO (show (rows2.map (dL dLI))[r.2]? = some (dL dLI rows2[r.2]) from by rw [List.getElem?_map, List.getElem?_eq_getElem h2]; rfl)
    have hc1 : ∀ c ∈ rowAt rows r.1, c ≠ [] := by rw [er1]; exact hce _ (List.getElem_mem h1)
    have hc2 : ∀ p ∈ cols, p.2 < (rowAt rows2 r.2).length := by rw [er2]; exact hin2 _ (List.getElem_mem h2)
    rw [← er1] at dv1
    rw [← er2] at dv2
    have fs := fm_snoc rc hr0
    have fl : (((rp.take (i + 1)).flatMap rc).flatten).length ≤ ((rp.flatMap rc).flatten).length := by
      conv => rhs; rw [← List.take_append_drop (i + 1) rp]
      rw [List.flatMap_append, List.flatten_append, List.length_append]
      omega
    rw [fs, List.flatten_append, List.length_append] at fl
    have hl : 1 + ((rp.flatMap rc).flatten).length ≤ 100000 := hl
    obtain ⟨pr, x1, rfl, hpr, hx1⟩ := Dp.list dv1
    have hx1l : x1.length = (rowAt rows r.1).length := by rw [DpAll.length hx1, List.length_map]
    generalize hA0 : (rp.take i).flatMap rc = A0 at hD3 fs fl ⊢
    have hrc : rc r = rowCellsM (rowAt rows r.1) (rowAt rows2 r.2) cols r.1 := rfl
    generalize rowAt rows r.1 = R1 at *
    generalize rowAt rows2 r.2 = R2 at *
    let fc : Nat → Option (List Int) := fun c => (R1[c]?).bind fun z => if toldB z R2 (VatdfBase.newOf cols c) = true then some ((r.1 : Int) :: (c : Int) :: z) else none
    have hrc : rc r = (List.range R1.length).filterMap fc := hrc
    refine ⟨t, _, rfl, ht, rfl, _, _, rfl, _, _, rfl, rfl, ?_⟩
    refine ⟨_, rfl, s, CT, dxs, _, _, rfl, s03 _ _ hS, S.cl, S.n2, rfl, _, rfl, pS, xS, _, _, rfl, rfl, s03.seq hpS, at_of (j := r.1) rfl ev1, pr, x1, rfl, s03.seq hpr, ?_⟩
    refine for_E (K := K) (fun j σ H' => Same H1 H' ∧ H' D = some (.lst (((A0 ++ (List.range j).filterMap fc).flatten).map V.int)) ∧ ∃ x9 x10, σ = [some (.ref s), some (.ref o), some (.ref p), some (.ref q), some (.ref d), some (.int ((A0 ++ (List.range j).filterMap fc).length : Nat)), some (.ref D), some (.int (r.1 : Nat)), some (.int (r.2 : Nat)), x9, x10])
      ⟨s3, by rw [hD3]; show _ = some (HO.lst (((A0 ++ []).flatten).map V.int)); rw [List.append_nil], x9, x10, by show _ = [_, _, _, _, _, some (V.int ((A0 ++ []).length : Nat)), _, _, _, _, _]; rw [List.append_nil]; rfl⟩ (fun j σ H' _ z => (s1.trans z.1).seq hpr) ?_ ?_
    · rintro j x' σ H4 tT hj ⟨s4, hD4, y9, y10, rfl⟩ hT
      obtain ⟨c, hc0, dc⟩ := DpAll.item (enc := dLI) hx1 hj
      have hjl : j < R1.length := (List.getElem?_eq_some_iff.mp hc0).1
      have sT : Same H4 (upd H4 tT (.tup [.int (j : Nat), x'])) := Same.made1 hT
      have hTT : upd H4 tT (.tup [.int (j : Nat), x']) tT = some (.tup [.int (j : Nat), x']) := upd_same
      refine ⟨tT, _, rfl, .inl (.inl hTT), rfl, _, _, rfl, _, _, rfl, rfl, ?_⟩
      generalize upd H4 tT (.tup [.int (j : Nat), x']) = H5 at sT hTT ⊢
      have s5 := s4.trans sT
      have s05 := s1.trans s5
      have hD5 := sT _ _ hD4
      have efc : fc j = if toldB c R2 (VatdfBase.newOf cols j) = true then some ((r.1 : Int) :: (j : Int) :: c) else none := by
        show (R1[j]?).bind _ = _
        rw [hc0]
        rfl
      have eV : ((valV (kvsP cols) (.inl ((j : Nat) : Int))).getD .non) = optV (VatdfBase.newOf cols j) := by
        rw [kvsP_val]
        cases VatdfBase.newOf cols j <;> rfl
      have dg := DGet.k (k := Sum.inl ((j : Nat) : Int)) (s5 _ _ hd1)
      rw [dict_val cols hnd] at dg
      refine ⟨_, rfl, _, rfl, o, CT, dxo, _, _, rfl, s05 _ _ hO, S.cl, S.n2, rfl, _, rfl, pO, xO, _, _, rfl, rfl, s05.seq hpO, at_of (j := r.2) rfl ev2, _, rfl, d, rfl, .inl ⟨_, .inl (s5 _ _ hd1)⟩, _, rfl, _, dg, x', v2, c, R2, VatdfBase.newOf cols j, by rw [eV], dmono s05 dc, hc1 c (List.mem_of_getElem? hc0), dmono s05 dv2, fun e he => ?_, _, rfl, ?_⟩
      · unfold VatdfBase.newOf at he
        obtain ⟨pp, hpp, rfl⟩ := Option.map_eq_some_iff.mp he
        exact hc2 pp (List.mem_of_find?_eq_some hpp)
      cases hb : toldB c R2 (VatdfBase.newOf cols j) with
      | false =>
        rw [hb, if_neg Bool.false_ne_true] at efc
        refine iteF ⟨s5, ?_, some (V.int (j : Nat)), some x', ?_⟩
        · rw [filterMap_range_succ, efc]
          show _ = some (HO.lst (((A0 ++ ((List.range j).filterMap fc ++ [])).flatten).map V.int))
          rw [List.append_nil]
          exact hD5
        · rw [filterMap_range_succ, efc]
          show _ = [_, _, _, _, _, some (V.int ((A0 ++ ((List.range j).filterMap fc ++ [])).length : Nat)), _, _, _, some (V.int (j : Nat)), some x']
          rw [List.append_nil]
          rfl
      | true =>
        rw [hb, if_pos rfl] at efc
        have more : A0 ++ (List.range (j + 1)).filterMap fc = (A0 ++ (List.range j).filterMap fc) ++ [(r.1 : Int) :: (j : Int) :: c] := by
          rw [filterMap_range_succ, efc, List.append_assoc]
        have few : ((A0 ++ (List.range j).filterMap fc).flatten).length + (c.length + 2) ≤ 100000 := by
          obtain ⟨rest, hrest⟩ := fmr_le fc (show j + 1 ≤ R1.length from hjl)
          rw [hrc, hrest, filterMap_range_succ, efc] at fl
          simp only [List.flatten_append, List.length_append, List.flatten_cons, List.flatten_nil, List.length_cons, List.length_nil] at fl ⊢
          omega
        obtain ⟨qc, rfl, hqc⟩ := Dp.ints dc
        refine iteT ⟨_, rfl, _, _, rfl, rfl, ?_⟩
        refine ⟨_, rfl, .inl ⟨rfl, _, SqL.of hD5⟩, _, rfl, _, rfl, by show 2 ≤ sizeLine; decide, fun e he => ?_⟩
        have s6 : Same H5 (upd H5 e (.lst [.int (r.1 : Nat), .int (j : Nat)])) := Same.made1 he
        have he6 : upd H5 e (.lst [.int (r.1 : Nat), .int (j : Nat)]) e = some (.lst [.int (r.1 : Nat), .int (j : Nat)]) := upd_same
        generalize upd H5 e (.lst [.int (r.1 : Nat), .int (j : Nat)]) = H6 at s6 he6 ⊢
        refine ⟨_, rfl, e, qc, _, _, rfl, rfl, SqL.of he6, (s05.trans s6).seq hqc, by rw [List.length_map]; show 2 + _ ≤ _; omega, fun u hu => ?_⟩
        have s7 : Same H6 (upd H6 u (.lst ([.int (r.1 : Nat), .int (j : Nat)] ++ c.map V.int))) := Same.made1 hu
        have hu7 : upd H6 u (.lst ([.int (r.1 : Nat), .int (j : Nat)] ++ c.map V.int)) u = some (.lst ([.int (r.1 : Nat), .int (j : Nat)] ++ c.map V.int)) := upd_same
        generalize upd H6 u (.lst ([.int (r.1 : Nat), .int (j : Nat)] ++ c.map V.int)) = H7 at s7 hu7 ⊢
        have s17 := (s5.trans s6).trans s7
        have hD7 := s7 _ _ (s6 _ _ hD5)
        refine ⟨D, u, _, _, rfl, rfl, hD7, SqL.of hu7, by rw [List.length_map, List.length_append, List.length_map]; show _ + (2 + _) ≤ _; omega, sameU hD s17, ?_, some (V.int (j : Nat)), some (.ref qc), ?_⟩
        · rw [upd_same, more]
          simp
        · rw [more]
          have : (((A0 ++ (List.range j).filterMap fc) ++ [(r.1 : Int) :: (j : Int) :: c]).length : Nat) = (A0 ++ (List.range j).filterMap fc).length + 1 := by rw [List.length_append (bs := [_])]; rfl
          rw [this, Int.natCast_add]
          rfl
    · rintro σ H4 ⟨s4, hD4, y9, y10, rfl⟩
      rw [hx1l, ← hrc, ← fs] at hD4
      refine ⟨s4, hD4, some (V.int (r.1 : Nat)), some (V.int (r.2 : Nat)), y9, y10, ?_⟩
      rw [hx1l, ← hrc, ← fs]
  · rintro σ H3 ⟨s3, hD3, x7, x8, x9, x10, rfl⟩
    rw [hxrl, List.take_length] at hD3 ⊢
    refine ⟨_, rfl, by show 1 ≤ sizeLine; decide, fun e he => ?_⟩
    have s4 : Same H3 (upd H3 e (.lst [.int ((rp.flatMap rc).length : Nat)])) := Same.made1 he
    have he4 : upd H3 e (.lst [.int ((rp.flatMap rc).length : Nat)]) e = some (.lst [.int ((rp.flatMap rc).length : Nat)]) := upd_same
    generalize upd H3 e (.lst [.int ((rp.flatMap rc).length : Nat)]) = H4 at s4 he4 ⊢
    have hl : 1 + ((rp.flatMap rc).flatten).length ≤ 100000 := hl
    refine ⟨_, rfl, e, D, _, _, rfl, rfl, SqL.of he4, SqL.of (s4 _ _ hD3), by rw [List.length_map]; show 1 + _ ≤ _; omega, fun R hR => ?_⟩
    have s04 := (s1.trans s3).trans s4
    refine hQ R _ (s04.trans (Same.made1 hR)) (s04.free hR) ?_
    rw [upd_same]
    rfl
end
end MR

namespace MR
open PySem PySem.Spec PyProof.Rows L2
section
variable {P : Program} {w : World} {K : PySem.W.Frag} {mg : Str → Option Value} {base : Heap} {f : Addr} {fd : FuncData} {C CE CT : Addr}
/-- what a side is told of, and that it is good -/
structure SideOk (nm : List (List Int)) (rows rows2 : List RowI) (cols rp : List (Nat × Nat)) : Prop where
  nd : (cols.map fun p => p.1).Nodup
  cl : cols.length ≤ 100
  rl : rp.length ≤ 100
  rn : rows.length ≤ 100
  inn : ∀ p ∈ rp, p.1 < rows.length ∧ p.2 < rows2.length
  ce : ∀ r ∈ rows, ∀ c ∈ r, c ≠ []
  in2 : ∀ r ∈ rows2, ∀ p ∈ cols, p.2 < r.length
  sz : (sideM nm rows rows2 cols rp).length ≤ 50000
abbrev s_told_side : Stmt := topS 67
theorem sc_told_side : FnScope ["side", "other", "columns", "rows", "lone", "told", "row", "other_row"] ["side", "other", "columns", "rows"] (defScope s_told_side) := ⟨rfl, rfl, rfl, by decide +kernel, rfl, by decide +kernel, by decide +kernel⟩
def sp_told_side (K : PySem.W.Frag) (CT : Addr) : Sp := fun vs H Q _ => ∃ (s o : Addr) (y z : V) (nm nm2 : List (List Int)) (rows rows2 : List RowI) (cols rp : List (Nat × Nat)), vs = [.ref s, .ref o, y, z] ∧ TabAt K CT H s nm rows ∧ TabAt K CT H o nm2 rows2 ∧ Dp K H y (dL dP (cols.map pN)) ∧ Dp K H z (dL dP (rp.map pN)) ∧
  SideOk nm rows rows2 cols rp ∧ Ints H Q (sideM nm rows rows2 cols rp)
theorem ok_told_side (T : Tops mg) (S : TabC K CT) (C_lone_numbers : CalX P w K mg base CX0 1 "lone_numbers" (sp_lone_numbers K)) (C_told_names : CalX P w K mg base CX0 1 "told_names" (sp_told_names K)) (C_told_lone_rows : CalX P w K mg base CX0 1 "told_lone_rows" (sp_told_lone_rows K CT))
    (C_told_cells : CalX P w K mg base CX0 3 "told_cells" (sp_told_cells K CT)) (F : Fun K "told_side" "told_side" s_told_side f fd) : FnOk P w K mg base CX0 4 f fd ["side", "other", "columns", "rows"] (sp_told_side K CT) := by
  refine F.ok sc_told_side (fun vs H Q E h => ?_) (fun cdv A outer s H vs Q E hr h => ⟨_, (pss_cons (ps_set (i := 4) sc_told_side.nd rfl (Or.inl rfl) (pe_k C_lone_numbers hr (by decide) (by rfl) (fun _ => quiet) (pa_cons (pe_lc (own := [("row", 6), ("other_row", 7)]) rfl sc_told_side.nd (lstK K (pv 3)) (blkOk_by (N := ["side", "other", "columns", "rows", "lone", "told", "row", "other_row"]) (sc := defScope s_told_side) (by decide +kernel)) (fun _ _ _ _ _ => (tupK K (n := 2) (pgs_cons (pg_name (i := 6) sc_told_side.nd rfl (Or.inl rfl)) (pgs_cons (pg_name (i := 7) sc_told_side.nd rfl (Or.inl rfl)) pgs_nil)))) (fun _ _ _ _ _ => pts_nil) (fun _ _ _ _ _ => (pv 6))) (pa_cons (pe_callB (lenK K) (by rfl) T.n_len PySem.boot_len (pa_cons (fldK K (pv 0)) pa_nil)) pa_nil))))
  (pss_cons (ps_set (i := 5) sc_told_side.nd rfl (Or.inl rfl) (pe_op (catK K) (pe_op (catK K) (pe_k C_told_names hr (by decide) (by rfl) (fun _ => quiet) (pa_cons (fldK K (pv 0)) pa_nil)) (pe_lst (pa_cons (pe_callB (lenK K) (by rfl) T.n_len PySem.boot_len (pa_cons (fldK K (pv 0)) pa_nil)) pa_nil))) (pe_k C_told_lone_rows hr (by decide) (by rfl) (fun _ => quiet) (pa_cons (pv 0) (pa_cons (pv 4) pa_nil)))))
  (pss_one (ps_ret (pe_op (catK K) (pv 5) (pe_k C_told_cells hr (by decide) (by rfl) (fun _ => quiet) (pa_cons (pv 0) (pa_cons (pv 1) (pa_cons (pv 2) (pa_cons (pv 3) pa_nil)))))))))), ?_⟩)
  · obtain ⟨s, o, y, z, nm, nm2, rows, rows2, cols, rp, rfl, _⟩ := h
    rfl
  obtain ⟨s, o, y, z, nm, nm2, rows, rows2, cols, rp, rfl, tS, tO, dy, dz, G, hQ⟩ := h
  obtain ⟨dxs, us, vs, hS, dus, dvs⟩ := id tS.ex
  obtain ⟨pS, xS, rfl, hpS, hxS⟩ := Dp.list dvs
  have lxS : xS.length = rows.length := by rw [DpAll.length hxS, List.length_map]
  have szl : (200000 : Nat) ≤ sizeLine := by rw [sizeLine_eq]; decide
  have sz := G.sz
  unfold sideM at sz
  rw [List.length_append, List.length_append, List.length_append, List.length_singleton] at sz
  have rl := G.rl
  have rn := G.rn
  have dz0 := dz
  rw [dP_pN] at dz
  obtain ⟨q, xr, rfl, hq, hxr⟩ := Dp.list dz
  refine ⟨_, rfl, q, rfl, ⟨xr, hq⟩, fun D hD => ?_⟩
  refine lc_L (K := K) (enc := fun q => dP (pN q)) (l := rp) (fun q => some (dI q.1)) (by omega) hD hq hxr ?_ ?_
  · intro i r x H2 acc hr2 s2 hacc dx Kt Kf ht hf
    obtain ⟨t, rfl, hT⟩ := Dp.pair dx
    exact ⟨t, _, rfl, hT, rfl, _, _, rfl, _, _, rfl, rfl, rfl, lc_yes ⟨_, rfl, ht _ _ _ rfl (Same.refl _) (.int _)⟩⟩
  intro H1 s1 d1
  have e1 : PyData.list (rp.filterMap fun q => some (dI q.1)) = dLI ((rp.map fun p => p.1).map Int.ofNat) := by
    rw [filterMap_some_map]
    show _ = PyData.list (((rp.map fun p => p.1).map Int.ofNat).map dI)
    rw [List.map_map, List.map_map]
    rfl
  rw [e1] at d1
  obtain ⟨q1, eq1, hq1⟩ := Dp.ints (dmono nw_in d1)
  cases eq1
  refine ⟨_, rfl, s, CT, dxs, _, _, rfl, s1 _ _ hS, S.cl, S.n2, rfl, _, _, rfl, .inl (s1.seq hpS), D, _, rows.length, by rw [lxS], hq1, by omega, fun v2 H2 s2 d2 => ?_⟩
  rw [loneCols_nat] at d2
  obtain ⟨pl, rfl, hpl⟩ := Dp.ints (dmono nw_in d2)
  have s02 := s1.trans s2
  have hln := loneN_len (rp.map fun p => p.1) rows.length
  -- its names, how many rows
  refine ⟨_, rfl, s, CT, dxs, _, _, rfl, s02 _ _ hS, S.cl, S.n1, rfl, us, nm, rfl, dmono s02 dus, by omega, fun p3 H3 s3 n3 h3 => ?_⟩
  have s03 := s02.trans s3
  refine ⟨_, rfl, s, CT, dxs, _, _, rfl, s03 _ _ hS, S.cl, S.n2, rfl, _, _, rfl, .inl (s03.seq hpS), by show 1 ≤ sizeLine; decide, fun e4 he4 => ?_⟩
  rw [lxS]
  have s4 : Same H3 (upd H3 e4 (.lst [.int (rows.length : Nat)])) := Same.made1 he4
  have h4 : upd H3 e4 (.lst [.int (rows.length : Nat)]) e4 = some (.lst [.int (rows.length : Nat)]) := upd_same
  generalize upd H3 e4 (.lst [.int (rows.length : Nat)]) = H4 at s4 h4 ⊢
  refine ⟨p3, e4, _, _, rfl, rfl, SqL.of (s4 _ _ h3), SqL.of h4, by rw [List.length_map]; show _ + 1 ≤ _; omega, fun e5 he5 => ?_⟩
  have s5 : Same H4 (upd H4 e5 (.lst ((toldNamesM nm).map V.int ++ [.int (rows.length : Nat)]))) := Same.made1 he5
  have h5 : upd H4 e5 (.lst ((toldNamesM nm).map V.int ++ [.int (rows.length : Nat)])) e5 = some (.lst ((toldNamesM nm).map V.int ++ [.int (rows.length : Nat)])) := upd_same
  generalize upd H4 e5 (.lst ((toldNamesM nm).map V.int ++ [.int (rows.length : Nat)])) = H5 at s5 h5 ⊢
  have s25 := (s3.trans s4).trans s5
  have s05 := s02.trans s25
  -- the lone rows
  refine ⟨_, rfl, _, rfl, s, pl, nm, rows, loneN (rp.map fun p => p.1) rows.length, rfl, tS.mono s05, s25.seq hpl, fun r hr2 => loneN_lt hr2, by omega, fun p6 H6 s6 n6 h6 => ?_⟩
  refine ⟨e5, p6, _, _, rfl, rfl, SqL.of (s6 _ _ h5), SqL.of h6, by rw [List.length_append, List.length_map, List.length_map]; show _ + 1 + _ ≤ _; omega, fun e7 he7 => ?_⟩
  generalize hL : ((toldNamesM nm).map V.int ++ [.int (rows.length : Nat)]) ++ (toldLoneM rows (loneN (rp.map fun p => p.1) rows.length)).map V.int = L7
  have lL : L7.length = (toldNamesM nm).length + 1 + (toldLoneM rows (loneN (rp.map fun p => p.1) rows.length)).length := by
    rw [← hL, List.length_append, List.length_append, List.length_map, List.length_map]
    rfl
  have s7 : Same H6 (upd H6 e7 (.lst L7)) := Same.made1 he7
  have h7 : upd H6 e7 (.lst L7) e7 = some (.lst L7) := upd_same
  generalize upd H6 e7 (.lst L7) = H7 at s7 h7 ⊢
  have s07 := (s05.trans s6).trans s7
  -- the cells
  refine ⟨_, rfl, _, rfl, _, rfl, _, rfl, _, rfl, s, o, y, .ref q, nm, nm2, rows, rows2, cols, rp, rfl, tS.mono s07, tO.mono s07, dmono s07 dy, dmono s07 dz0, G.nd, G.inn, G.ce, G.in2, by omega, fun p8 H8 s8 n8 h8 => ?_⟩
  refine ⟨e7, p8, _, _, rfl, rfl, SqL.of (s8 _ _ h7), SqL.of h8, by rw [lL, List.length_map]; omega, fun R hR => ?_⟩
  have s08 := s07.trans s8
  refine hQ R _ (s08.trans (Same.made1 hR)) (s08.free hR) ?_
  rw [upd_same, ← hL]
  unfold sideM
  rw [List.map_append, List.map_append, List.map_append]
  rfl

abbrev s_told_patch : Stmt := topS 66
theorem sc_told_patch : FnScope ["old", "new", "columns", "rows", "old_side", "new_side"] ["old", "new", "columns", "rows"] (defScope s_told_patch) := ⟨rfl, rfl, rfl, by decide +kernel, rfl, by decide +kernel, by decide +kernel⟩
def patchM (na nb : List (List Int)) (ra rb : List RowI) (cols rp : List (Nat × Nat)) : List Int := ((toldPairs (cols.map pN) ++ toldPairs (rp.map pN)) ++ sideM na ra rb cols rp) ++ sideM nb rb ra (cols.map swapP) (rp.map swapP)
def sp_told_patch (K : PySem.W.Frag) (CT : Addr) : Sp := fun vs H Q _ => ∃ (s o : Addr) (y z : V) (na nb : List (List Int)) (ra rb : List RowI) (cols rp : List (Nat × Nat)), vs = [.ref s, .ref o, y, z] ∧ TabAt K CT H s na ra ∧ TabAt K CT H o nb rb ∧ Dp K H y (dL dP (cols.map pN)) ∧ Dp K H z (dL dP (rp.map pN)) ∧
  SideOk na ra rb cols rp ∧ SideOk nb rb ra (cols.map swapP) (rp.map swapP) ∧ Ints H Q (patchM na nb ra rb cols rp)
theorem toldPairs_len2 (l : List (Int × Int)) : (toldPairs l).length = 2 * l.length + 1 := by
  unfold toldPairs
  rw [List.length_cons]
  congr 1
  induction l with
  | nil => rfl
  | cons p l ih =>
    simp only [List.flatMap_cons, List.length_append, ih, List.length_cons, List.length_nil]
    omega
theorem ok_told_patch (T : Tops mg) (C_told_side : CalX P w K mg base CX0 4 "told_side" (sp_told_side K CT)) (C_turned : CalX P w K mg base CX0 1 "turned" (sp_turned K)) (C_told_pairs : CalX P w K mg base CX0 1 "told_pairs" (sp_told_pairs K)) (F : Fun K "told_patch" "told_patch" s_told_patch f fd) :
    FnOk P w K mg base CX0 5 f fd ["old", "new", "columns", "rows"] (sp_told_patch K CT) := by
  refine F.ok sc_told_patch (fun vs H Q E h => ?_) (fun cdv A outer s H vs Q E hr h => ⟨_, (pss_cons (ps_set (i := 4) sc_told_patch.nd rfl (Or.inl rfl) (pe_k C_told_side hr (by decide) (by rfl) (fun _ => quiet) (pa_cons (pv 0) (pa_cons (pv 1) (pa_cons (pv 2) (pa_cons (pv 3) pa_nil))))))
  (pss_cons (ps_set (i := 5) sc_told_patch.nd rfl (Or.inl rfl) (pe_k C_told_side hr (by decide) (by rfl) (fun _ => quiet) (pa_cons (pv 1) (pa_cons (pv 0) (pa_cons (pe_k C_turned hr (by decide) (by rfl) (fun _ => quiet) (pa_cons (pv 2) pa_nil)) (pa_cons (pe_k C_turned hr (by decide) (by rfl) (fun _ => quiet) (pa_cons (pv 3) pa_nil)) pa_nil))))))
  (pss_one (ps_ret (pe_op (catK K) (pe_op (catK K) (pe_op (catK K) (pe_k C_told_pairs hr (by decide) (by rfl) (fun _ => quiet) (pa_cons (pv 2) pa_nil)) (pe_k C_told_pairs hr (by decide) (by rfl) (fun _ => quiet) (pa_cons (pv 3) pa_nil))) (pv 4)) (pv 5)))))), ?_⟩)
  · obtain ⟨s, o, y, z, na, nb, ra, rb, cols, rp, rfl, _⟩ := h
    rfl
  obtain ⟨s, o, y, z, na, nb, ra, rb, cols, rp, rfl, tS, tO, dy, dz, G, G2, hQ⟩ := h
  have szl : (200000 : Nat) ≤ sizeLine := by rw [sizeLine_eq]; decide
  have cl := G.cl
  have rl := G.rl
  have z1 := G.sz
  have z2 := G2.sz
  have l1 : ((toldPairs (cols.map pN)).map V.int).length ≤ 300 := by rw [List.length_map, toldPairs_len2, List.length_map]; omega
  have l2 : ((toldPairs (rp.map pN)).map V.int).length ≤ 300 := by rw [List.length_map, toldPairs_len2, List.length_map]; omega
  refine ⟨_, rfl, _, rfl, _, rfl, _, rfl, s, o, y, z, na, nb, ra, rb, cols, rp, rfl, tS, tO, dy, dz, G, fun p1 H1 s1 n1 h1 => ?_⟩
  refine ⟨_, rfl, _, rfl, _, rfl, y, cols, rfl, dmono s1 dy, by omega, fun v2 H2 s2 d2 => ?_⟩
  have s02 := s1.trans s2
  refine ⟨_, rfl, z, rp, rfl, dmono s02 dz, by omega, fun v3 H3 s3 d3 => ?_⟩
  have s03 := s02.trans s3
  refine ⟨o, s, v2, v3, nb, na, rb, ra, cols.map swapP, rp.map swapP, rfl, tO.mono s03, tS.mono s03, dmono s3 (dmono nw_in d2), dmono nw_in d3, G2, fun p4 H4 s4 n4 h4 => ?_⟩
  have s04 := s03.trans s4
  have h14 := ((s2.trans s3).trans s4) _ _ h1
  refine ⟨_, rfl, y, cols.map pN, rfl, dmono s04 dy, by rw [List.length_map]; omega, fun p5 H5 s5 n5 h5 => ?_⟩
  refine ⟨_, rfl, z, rp.map pN, rfl, dmono (s04.trans s5) dz, by rw [List.length_map]; omega, fun p6 H6 s6 n6 h6 => ?_⟩
  refine ⟨p5, p6, _, _, rfl, rfl, SqL.of (s6 _ _ h5), SqL.of h6, by omega, fun e7 he7 => ?_⟩
  generalize hL7 : (toldPairs (cols.map pN)).map V.int ++ (toldPairs (rp.map pN)).map V.int = L7
  have lL7 : L7.length ≤ 600 := by rw [← hL7, List.length_append]; omega
  have s7 : Same H6 (upd H6 e7 (.lst L7)) := Same.made1 he7
  have h7 : upd H6 e7 (.lst L7) e7 = some (.lst L7) := upd_same
  generalize upd H6 e7 (.lst L7) = H7 at s7 h7 ⊢
  have s47 := (s5.trans s6).trans s7
  refine ⟨_, rfl, e7, p1, _, _, rfl, rfl, SqL.of h7, SqL.of (s47 _ _ h14), by rw [List.length_map]; omega, fun e8 he8 => ?_⟩
  generalize hL8 : L7 ++ (sideM na ra rb cols rp).map V.int = L8
  have lL8 : L8.length ≤ 50600 := by rw [← hL8, List.length_append, List.length_map]; omega
  have s8 : Same H7 (upd H7 e8 (.lst L8)) := Same.made1 he8
  have h8 : upd H7 e8 (.lst L8) e8 = some (.lst L8) := upd_same
  generalize upd H7 e8 (.lst L8) = H8 at s8 h8 ⊢
  refine ⟨_, rfl, e8, p4, _, _, rfl, rfl, SqL.of h8, SqL.of ((s47.trans s8) _ _ h4), by rw [List.length_map]; omega, fun R hR => ?_⟩
  have s08 := (s04.trans s47).trans s8
  refine hQ R _ (s08.trans (Same.made1 hR)) (s08.free hR) ?_
  rw [upd_same, ← hL8, ← hL7]
  unfold patchM
  rw [List.map_append, List.map_append, List.map_append]
end
end MR

/-! The first least matching; what a patch costs; a patch as numbers. -/
namespace MR
open VatdfBase (Cell Row Table Bytes Pairs Spot Side Patch)
open Vatdfb (Grid Best better nextPairs withPair noPair bestAt rowBests bestsOf bestFrom at_ kthFrom)
/-! ### the k-th is least -/
theorem scanF_mem {b : Nat → Nat → Int × Int} {k : Int} : ∀ (l : Pairs) (x : Int) (p q : Nat) (r : Int), scanF b k l x = some (p, q, r) → (p, q) ∈ l
  | [], _, _, _, _, h => by cases h
  | y :: l, x, p, q, r, h => by
    have e : scanF b k (y :: l) x = if k < x + (b (y.1 + 1) (y.2 + 1)).2 then some (y.1, y.2, k - x) else scanF b k l (x + (b (y.1 + 1) (y.2 + 1)).2) := rfl
    rw [e] at h
    by_cases c : k < x + (b (y.1 + 1) (y.2 + 1)).2
    · rw [if_pos c] at h
      obtain ⟨h1, h2⟩ := Prod.mk.inj (Option.some.inj h)
      obtain ⟨h2, _⟩ := Prod.mk.inj h2
      rw [← h1, ← h2]
      exact List.mem_cons_self
    · rw [if_neg c] at h
      exact List.mem_cons_of_mem _ (scanF_mem l _ p q r h)
theorem kthM_least (g : Grid) (m n : Nat) : ∀ (f i j k : Nat), i ≤ m → j ≤ n → m + 1 ≤ i + f → k < (bestFrom (bestsOf g m n) i j).many →
    From m n i j (kthM (gridI g) (bN g m n) m n f i j (k : Nat)) ∧ 3 * ((m - i) + (n - j) - 2 * (kthM (gridI g) (bN g m n) m n f i j (k : Nat)).length) + sumG g (kthM (gridI g) (bN g m n) m n f i j (k : Nat)) = (bestFrom (bestsOf g m n) i j).cost
  | 0, i, j, k, hi, hj, hf, _ => absurd hf (by omega)
  | f + 1, i, j, k, hi, hj, hf, hk => by
    have ek : kthM (gridI g) (bN g m n) m n (f + 1) i j (k : Nat) = match scan (gridI g) (bN g m n) i j (k : Nat) (rowsFrom m n i j 0) 0 with
      | none => []
      | some (p, q, r) => (p, q) :: kthM (gridI g) (bN g m n) m n f (p + 1) (q + 1) r := rfl
    rw [ek, rows_next]
    rcases scan_fold g m n i j k hi hj (nextPairs m n i j) (fun p hp => ⟨(mem_next.mp hp).1.1, (mem_next.mp hp).2.1⟩) 0 (Nat.zero_le _) with ⟨h1, h2, _⟩ | ⟨p, r, hp, h1, h2, _, _⟩
    · have h1 : scan (gridI g) (bN g m n) i j (k : Nat) (nextPairs m n i j) 0 = none := h1
      rw [h1]
      have hm := many_eq g m n i j hi hj
      have hz : manyAt (bestFrom (bestsOf g m n) i j).cost (noPair m n i j) ≠ 0 := by omega
      have e : (noPair m n i j).cost = (bestFrom (bestsOf g m n) i j).cost := by
        refine Decidable.not_not.mp fun c => hz ?_
        unfold manyAt
        rw [if_neg c]
      refine ⟨⟨hi, hj⟩, ?_⟩
      rw [← e]
      rfl
    · have h1 : scan (gridI g) (bN g m n) i j (k : Nat) (nextPairs m n i j) 0 = some (p.1, p.2, ((r : Nat) : Int)) := h1
      rw [h1]
      obtain ⟨⟨p1, p2⟩, p3, p4⟩ := mem_next.mp hp
      obtain ⟨i1, i2⟩ := kthM_least g m n f (p.1 + 1) (p.2 + 1) r (by omega) (by omega) (by omega) h2
      have tight : (withPair g (bestsOf g m n) i j p).cost = (bestFrom (bestsOf g m n) i j).cost := by
        rw [scan_F] at h1
        have hm := scanF_mem _ _ _ _ _ h1
        have ht := of_decide_eq_true (List.mem_filter.mp hm).2
        obtain ⟨w1, _⟩ := way_eq g m n i j p1 p3
        have ht : wayCost (gridI g) (bN g m n) i j p.1 p.2 = (bN g m n i j).1 := ht
        rw [w1] at ht
        have ht : ((withPair g (bestsOf g m n) i j p).cost : Int) = ((bestFrom (bestsOf g m n) i j).cost : Nat) := ht
        omega
      have hl := from_len i1
      have ew : (withPair g (bestsOf g m n) i j p).cost = 3 * ((p.1 - i) + (p.2 - j)) + at_ g p.1 p.2 + (bestFrom (bestsOf g m n) (p.1 + 1) (p.2 + 1)).cost := rfl
      show From m n i j ((p.1, p.2) :: kthM (gridI g) (bN g m n) m n f (p.1 + 1) (p.2 + 1) ((r : Nat) : Int)) ∧ 3 * ((m - i) + (n - j) - 2 * ((p.1, p.2) :: kthM (gridI g) (bN g m n) m n f (p.1 + 1) (p.2 + 1) ((r : Nat) : Int)).length) + sumG g ((p.1, p.2) :: kthM (gridI g) (bN g m n) m n f (p.1 + 1) (p.2 + 1) ((r : Nat) : Int)) = _
      refine ⟨⟨⟨p1, p2⟩, ⟨p3, p4⟩, i1⟩, ?_⟩
      show 3 * ((m - i) + (n - j) - 2 * ((p.1, p.2) :: kthM (gridI g) (bN g m n) m n f (p.1 + 1) (p.2 + 1) ((r : Nat) : Int)).length) + sumG g ((p.1, p.2) :: kthM (gridI g) (bN g m n) m n f (p.1 + 1) (p.2 + 1) ((r : Nat) : Int)) = _
      rw [List.length_cons, sumG_cons]
      show 3 * ((m - i) + (n - j) - 2 * (_ + 1)) + (at_ g p.1 p.2 + _) = _
      omega
theorem ok_from {m n : Nat} : ∀ {l : Pairs} {i j : Nat}, From m n i j l → (∀ q ∈ l, (i ≤ q.1 ∧ q.1 < m) ∧ j ≤ q.2 ∧ q.2 < n) ∧ l.Pairwise fun p q => p.1 < q.1 ∧ p.2 < q.2
  | [], _, _, _ => ⟨fun q h => (by cases h), List.Pairwise.nil⟩
  | p :: l, i, j, ⟨h1, h2, h3⟩ => by
    obtain ⟨g1, g2⟩ := ok_from h3
    refine ⟨fun q hq => ?_, List.pairwise_cons.mpr ⟨fun q hq => ?_, g2⟩⟩
    · rcases List.mem_cons.mp hq with z | z
      · rw [z]
        exact ⟨h1, h2⟩
      · have := g1 q z
        omega
    · have := g1 q hq
      omega
theorem rows_from {m n : Nat} {l : Pairs} (h : From m n 0 0 l) : VatdfBase.okRows m n l = true := by
  obtain ⟨h1, h2⟩ := ok_from h
  refine (okRows_iff _ _ _).mpr ⟨fun q hq => ⟨(h1 q hq).1.2, (h1 q hq).2.2⟩, fun i hi => ?_, fun i hi => ?_⟩
  · exact (List.pairwise_iff_getElem.mp h2 i (i + 1) (Nat.lt_of_succ_lt hi) hi (by omega)).1
  · exact (List.pairwise_iff_getElem.mp h2 i (i + 1) (Nat.lt_of_succ_lt hi) hi (by omega)).2
/-! ### counting -/
theorem countP_one {m a : Nat} (h : a < m) : (List.range m).countP (fun d => d == a) = 1 := by
  induction m with
  | zero => omega
  | succ m ih =>
    rw [List.range_succ, List.countP_append, List.countP_cons, List.countP_nil]
    by_cases c : a < m
    · rw [ih c, if_neg]
      intro e
      have := eq_of_beq e
      omega
    · have em : a = m := by omega
      subst em
      rw [beq_self_eq_true, if_pos rfl]
      have z : (List.range a).countP (fun d => d == a) = 0 := List.countP_eq_zero.mpr fun x hx e => by
        have := eq_of_beq e
        have := List.mem_range.mp hx
        omega
      rw [z]
theorem countP_or {α : Type} (f g : α → Bool) : ∀ l : List α, (∀ x ∈ l, ¬ (f x = true ∧ g x = true)) → l.countP (fun x => f x || g x) = l.countP f + l.countP g
  | [], _ => rfl
  | x :: l, h => by
    rw [List.countP_cons, List.countP_cons, List.countP_cons, countP_or f g l fun y hy => h y (List.mem_cons_of_mem _ hy)]
    have := h x List.mem_cons_self
    rcases Bool.eq_false_or_eq_true (f x) with h1 | h1 <;> rcases Bool.eq_false_or_eq_true (g x) with h2 | h2 <;> rw [h1, h2]
    · exact absurd ⟨h1, h2⟩ this
    all_goals simp only [Bool.or_false, Bool.or_true, Bool.true_or, Bool.false_or, if_pos rfl, if_neg Bool.false_ne_true, Bool.false_eq_true, if_true, if_false]
    all_goals omega
theorem count_in {m : Nat} : ∀ (l : List Nat), l.Nodup → (∀ x ∈ l, x < m) → (List.range m).countP (fun d => l.contains d) = l.length
  | [], _, _ => by
    rw [show (fun d => ([] : List Nat).contains d) = fun _ => false from rfl]
    simp
  | a :: l, h, hm => by
    obtain ⟨h1, h2⟩ := List.nodup_cons.mp h
    have ih := count_in l h2 fun x hx => hm x (List.mem_cons_of_mem _ hx)
    have e : (fun d => (a :: l).contains d) = fun d => (d == a) || l.contains d := by
      funext d
      rw [List.contains_cons]
    rw [e, countP_or, ih, countP_one (hm a List.mem_cons_self), List.length_cons]
    · omega
    · rintro d _ ⟨d1, d2⟩
      have d1 := eq_of_beq d1
      rw [d1] at d2
      exact h1 (List.contains_iff_mem.mp d2)
theorem lone_count {m : Nat} {l : List Nat} (h : l.Nodup) (hm : ∀ x ∈ l, x < m) : (loneN l m).length = m - l.length := by
  unfold loneN
  have e := List.length_eq_countP_add_countP (fun d => l.contains d) (l := List.range m)
  rw [List.length_range, count_in l h hm] at e
  rw [← List.countP_eq_length_filter]
  have e2 : (List.range m).countP (fun c => !l.contains c) = (List.range m).countP (fun a => decide ¬ l.contains a = true) := countP_ext fun j _ => by cases l.contains j <;> rfl
  rw [e2]
  omega
/-- the pairs of columns, counted by the new ones -/
theorem count_pairs {n : Nat} (P : Nat × Nat → Bool) : ∀ (l : Pairs), (l.map fun p => p.2).Nodup → (∀ p ∈ l, p.2 < n) → (List.range n).countP (fun d => ((l.find? fun p => p.2 == d).map P).getD false) = l.countP P
  | [], _, _ => by
    rw [show (fun d => ((([] : Pairs).find? fun p => p.2 == d).map P).getD false) = fun _ => false from rfl]
    simp
  | p :: l, h, hn => by
    obtain ⟨h1, h2⟩ := List.nodup_cons.mp h
    have ih := count_pairs P l h2 fun q hq => hn q (List.mem_cons_of_mem _ hq)
    have hp := hn p List.mem_cons_self
    have none_ : l.find? (fun q => q.2 == p.2) = none := by
      rw [List.find?_eq_none]
      intro q hq e
      exact h1 (List.mem_map.mpr ⟨q, hq, eq_of_beq e⟩)
    have e : (List.range n).countP (fun d => (((p :: l).find? fun p => p.2 == d).map P).getD false) = (List.range n).countP (fun d => (d == p.2 && P p) || ((l.find? fun p => p.2 == d).map P).getD false) := by
      refine countP_ext fun d _ => ?_
      rw [List.find?_cons]
      by_cases c : p.2 = d
      · subst c
        rw [beq_self_eq_true, none_, Bool.true_and]
        show P p = (P p || false)
        rw [Bool.or_false]
      · rw [beq_eq_false_iff_ne.mpr c, beq_eq_false_iff_ne.mpr (Ne.symm c), Bool.false_and, Bool.false_or]
    rw [e, countP_or, ih, List.countP_cons, Nat.add_comm]
    · congr 1
      by_cases c : P p = true
      · rw [c, if_pos rfl]
        simp only [Bool.and_true]
        exact countP_one hp
      · rw [Bool.eq_false_iff.mpr c, if_neg Bool.false_ne_true]
        simp
    · rintro d _ ⟨d1, d2⟩
      rw [Bool.and_eq_true] at d1
      have ed := eq_of_beq d1.1
      rw [ed, none_] at d2
      cases d2
/-! ### a pair's cells -/
theorem fm_count {α β : Type} (p : α → Bool) (f : α → β) : ∀ l : List α, (l.filterMap fun c => if p c = true then none else some (f c)).length = l.countP fun c => !p c
  | [] => rfl
  | x :: l => by
    rw [List.filterMap_cons, List.countP_cons]
    cases h : p x with
    | true =>
      show (l.filterMap _).length = _
      rw [fm_count p f l]
      simp
    | false =>
      show (_ :: l.filterMap _).length = _
      rw [List.length_cons, fm_count p f l]
      simp
theorem fm_countP {α β : Type} (p : α → Bool) (f : α → β) (q : β → Bool) : ∀ l : List α, (l.filterMap fun c => if p c = true then none else some (f c)).countP q = l.countP fun c => q (f c) && !p c
  | [] => rfl
  | x :: l => by
    rw [List.filterMap_cons, List.countP_cons]
    cases h : p x with
    | true =>
      show (l.filterMap _).countP q = _
      rw [fm_countP p f q l]
      simp
    | false =>
      show (_ :: l.filterMap _).countP q = _
      rw [List.countP_cons, fm_countP p f q l]
      simp
theorem cell_pair {a b : Table} {cols : Pairs} (G : Good a b cols) (i j : Nat) : (VatdfBase.toldCells b j fun d => (VatdfBase.oldOf cols d).map fun c => a.cell i c).length +
    (VatdfBase.toldCells a i fun c => (VatdfBase.newOf cols c).map fun d => b.cell j d).countP (fun s => (VatdfBase.newOf cols s.col).isNone) = Vatdfb.pairCost a b cols i j := by
  have hc := (okCols_iff _ _ _).mp G.oc
  have nd2 : (cols.map fun p => p.2).Nodup := by
    rw [List.nodup_iff_pairwise_ne, List.pairwise_map, List.pairwise_iff_getElem]
    have step : ∀ (k : Nat) (x : Nat) (h : x + k + 1 < cols.length), cols[x].2 < cols[x + k + 1].2 := by
      intro k
      induction k with
      | zero => exact fun x h => hc.2.1 x h
      | succ k ih =>
        intro x h
        exact Nat.lt_trans (ih x (by omega)) (hc.2.1 (x + k + 1) (by omega))
    intro x y hx hy hxy e
    obtain ⟨k, rfl⟩ : ∃ k, y = x + k + 1 := ⟨y - x - 1, by omega⟩
    have := step k x hy
    omega
  have e1 : (VatdfBase.toldCells b j fun d => (VatdfBase.oldOf cols d).map fun c => a.cell i c).length = (List.range b.names.length).countP (fun d => ((VatdfBase.oldOf cols d).isNone && b.cell j d != .empty) || ((cols.find? fun p => p.2 == d).map fun p => a.cell i p.1 != b.cell j p.2).getD false) := by
    show (List.filterMap (fun d => if (b.cell j d == ((VatdfBase.oldOf cols d).map fun c => a.cell i c).getD .empty) = true then none else some (⟨j, d, b.cell j d⟩ : Spot)) (List.range b.names.length)).length = _
    rw [fm_count (fun d => b.cell j d == ((VatdfBase.oldOf cols d).map fun c => a.cell i c).getD .empty) (fun d => (⟨j, d, b.cell j d⟩ : Spot))]
    refine countP_ext fun d _ => ?_
    unfold VatdfBase.oldOf
    cases h : cols.find? (fun p => p.2 == d) with
    | none =>
      show (!(b.cell j d == .empty)) = ((true && (b.cell j d != .empty)) || false)
      rw [Bool.or_false, Bool.true_and]
      rfl
    | some p =>
      have hp : p.2 = d := by
        have := List.find?_some h
        exact eq_of_beq this
      show (!(b.cell j d == a.cell i p.1)) = ((false && (b.cell j d != .empty)) || (a.cell i p.1 != b.cell j p.2))
      rw [Bool.false_and, Bool.false_or, hp]
      have : (b.cell j d == a.cell i p.1) = (a.cell i p.1 == b.cell j d) := by
        by_cases c : b.cell j d = a.cell i p.1
        · rw [c]
        · rw [beq_eq_false_iff_ne.mpr c, beq_eq_false_iff_ne.mpr (Ne.symm c)]
      rw [this]
      rfl
  have e2 : (VatdfBase.toldCells a i fun c => (VatdfBase.newOf cols c).map fun d => b.cell j d).countP (fun s => (VatdfBase.newOf cols s.col).isNone) = (List.range a.names.length).countP fun c => (VatdfBase.newOf cols c).isNone && a.cell i c != .empty := by
    show (List.filterMap (fun c => if (a.cell i c == ((VatdfBase.newOf cols c).map fun d => b.cell j d).getD .empty) = true then none else some (⟨i, c, a.cell i c⟩ : Spot)) (List.range a.names.length)).countP _ = _
    rw [fm_countP (fun c => a.cell i c == ((VatdfBase.newOf cols c).map fun d => b.cell j d).getD .empty) (fun c => (⟨i, c, a.cell i c⟩ : Spot)) (fun s => (VatdfBase.newOf cols s.col).isNone)]
    refine countP_ext fun c _ => ?_
    show ((VatdfBase.newOf cols c).isNone && !(a.cell i c == ((VatdfBase.newOf cols c).map fun d => b.cell j d).getD .empty)) = _
    cases VatdfBase.newOf cols c with
    | none => rfl
    | some d => rfl
  rw [e1, e2, countP_or, count_pairs (fun p => a.cell i p.1 != b.cell j p.2) cols nd2 fun p hp => (hc.1 p hp).2]
  · unfold Vatdfb.pairCost
    omega
  · rintro d _ ⟨d1, d2⟩
    rw [Bool.and_eq_true] at d1
    have d1 := d1.1
    unfold VatdfBase.oldOf at d1
    cases h : cols.find? (fun p => p.2 == d) with
    | none => rw [h] at d2; cases d2
    | some p => rw [h] at d1; cases d1
theorem sum_flat {α β : Type} (f : α → List β) : ∀ l : List α, (l.flatMap f).length = (l.map fun x => (f x).length).sum
  | [] => rfl
  | x :: l => by rw [List.flatMap_cons, List.length_append, sum_flat f l, List.map_cons, List.sum_cons]
theorem sum_flatP {α β : Type} (f : α → List β) (q : β → Bool) : ∀ l : List α, (l.flatMap f).countP q = (l.map fun x => (f x).countP q).sum
  | [] => rfl
  | x :: l => by rw [List.flatMap_cons, List.countP_append, sum_flatP f q l, List.map_cons, List.sum_cons]
theorem sumG_sum (g : Grid) : ∀ l : Pairs, sumG g l = (l.map fun p => at_ g p.1 p.2).sum
  | [] => rfl
  | p :: l => by rw [sumG_cons, sumG_sum g l, List.map_cons, List.sum_cons]
theorem sum_add {α : Type} (f h : α → Nat) : ∀ l : List α, (l.map f).sum + (l.map h).sum = (l.map fun x => f x + h x).sum
  | [] => rfl
  | x :: l => by
    rw [List.map_cons, List.map_cons, List.map_cons, List.sum_cons, List.sum_cons, List.sum_cons, ← sum_add f h l]
    omega
end MR

/-! What the patch between two tables costs, and it as numbers. -/
namespace MR
open VatdfBase (Cell Row Table Bytes Pairs Spot Side Patch)
open Vatdfb (Grid Best better nextPairs withPair noPair bestAt rowBests bestsOf bestFrom at_ kthFrom)
theorem from_nodup {m n : Nat} {l : Pairs} (h : From m n 0 0 l) : (l.map fun p => p.1).Nodup ∧ (l.map fun p => p.2).Nodup ∧ (∀ x ∈ l.map (fun p => p.1), x < m) ∧ ∀ x ∈ l.map (fun p => p.2), x < n := by
  obtain ⟨h1, h2⟩ := ok_from h
  refine ⟨?_, ?_, fun x hx => ?_, fun x hx => ?_⟩
  · rw [List.nodup_iff_pairwise_ne, List.pairwise_map]
    exact h2.imp fun h => Nat.ne_of_lt h.1
  · rw [List.nodup_iff_pairwise_ne, List.pairwise_map]
    exact h2.imp fun h => Nat.ne_of_lt h.2
  · obtain ⟨q, hq, rfl⟩ := List.mem_map.mp hx
    exact (h1 q hq).1.2
  · obtain ⟨q, hq, rfl⟩ := List.mem_map.mp hx
    exact (h1 q hq).2.2
theorem zip_idx {α : Type} (l : List α) (g : Nat → α) (h : ∀ i (hi : i < l.length), g i = l[i]) : l.zipIdx = (List.range l.length).map fun i => (g i, i) := by
  refine List.ext_getElem (by rw [List.length_zipIdx, List.length_map, List.length_range]) fun i h1 h2 => ?_
  rw [List.length_zipIdx] at h1
  rw [List.getElem_zipIdx, List.getElem_map, List.getElem_range, h i h1, Nat.zero_add]
theorem loneRows_eq (t : Table) (l : List Nat) : VatdfBase.loneRows t l = (loneN l t.rows.length).map fun i => (i, t.row i) := by
  unfold VatdfBase.loneRows loneN
  rw [zip_idx t.rows t.row, List.filter_map, List.map_map]
  · rfl
  · intro i hi
    unfold VatdfBase.Table.row
    rw [List.getElem?_eq_getElem hi]
    rfl
theorem sum_congr {α : Type} {f g : α → Nat} : ∀ {l : List α}, (∀ x ∈ l, f x = g x) → (l.map f).sum = (l.map g).sum
  | [], _ => rfl
  | x :: l, h => by
    rw [List.map_cons, List.map_cons, List.sum_cons, List.sum_cons, h x List.mem_cons_self, sum_congr fun y hy => h y (List.mem_cons_of_mem _ hy)]
theorem patch_cost {a b : Table} {cols : Pairs} (G : Good a b cols) {l : Pairs} (h : From a.rows.length b.rows.length 0 0 l) :
    VatdfBase.cost (VatdfBase.between a b cols l) = VatdfBase.colsCost a.names b.names cols + Vatdfb.matchingCost (Vatdfb.gridOf a b cols) a.rows.length b.rows.length l := by
  obtain ⟨n1, n2, m1, m2⟩ := from_nodup h
  obtain ⟨l1, l2⟩ := from_len h
  have eR : VatdfBase.rowsCost (VatdfBase.between a b cols l) = 3 * (a.rows.length + b.rows.length - 2 * l.length) := by
    show 3 * ((VatdfBase.loneRows a (l.map fun p => p.1)).length + (VatdfBase.loneRows b (l.map fun p => p.2)).length) = _
    rw [loneRows_eq, loneRows_eq, List.length_map, List.length_map, lone_count n1 m1, lone_count n2 m2, List.length_map, List.length_map]
    omega
  have eC : VatdfBase.cellsCost (VatdfBase.between a b cols l) = sumG (Vatdfb.gridOf a b cols) l := by
    show 1 * ((l.flatMap fun p => VatdfBase.toldCells b p.2 fun d => (VatdfBase.oldOf cols d).map fun c => a.cell p.1 c).length + (l.flatMap fun p => VatdfBase.toldCells a p.1 fun c => (VatdfBase.newOf cols c).map fun d => b.cell p.2 d).countP fun s => (VatdfBase.newOf cols s.col).isNone) = _
    rw [sum_flat, sum_flatP, sum_add, Nat.one_mul, sumG_sum]
    refine sum_congr fun p hp => ?_
    have hp2 := (ok_from h).1 p hp
    rw [cell_pair G p.1 p.2, grid_at_cost hp2.1.2 hp2.2.2]
  show VatdfBase.colsCost a.names b.names cols + (VatdfBase.rowsCost _ + VatdfBase.cellsCost _) = _
  rw [eR, eC]
  rfl
/-! ### as numbers -/
def encS (s : Spot) : List Int := VatdfFlat.int s.row :: VatdfFlat.int s.col :: VatdfFlat.flatCell s.cell
theorem rowAt_I (t : Table) (r : Nat) : rowAt (rowsI t) r = (t.row r).map VatdfFlat.flatCell := by
  unfold rowAt rowsI VatdfBase.Table.row
  rw [List.getElem?_map]
  cases t.rows[r]? <;> rfl
theorem rowCells_I {t u : Table} (qt : Square t) (qu : Square u) {cols : Pairs} (hc : ∀ p ∈ cols, p.2 < u.names.length) {i j : Nat} (hi : i < t.rows.length) (hj : j < u.rows.length) :
    rowCellsM (rowAt (rowsI t) i) (rowAt (rowsI u) j) cols i = (VatdfBase.toldCells t i fun c => (VatdfBase.newOf cols c).map fun d => u.cell j d).map encS := by
  have gi := List.getElem?_eq_getElem hi
  have gj := List.getElem?_eq_getElem hj
  have ri : t.row i = t.rows[i] := by
    unfold VatdfBase.Table.row
    rw [gi]
    rfl
  have rj : u.row j = u.rows[j] := by
    unfold VatdfBase.Table.row
    rw [gj]
    rfl
  have li : (t.rows[i]).length = t.names.length := qt _ (List.getElem_mem hi)
  have lj : (u.rows[j]).length = u.names.length := qu _ (List.getElem_mem hj)
  rw [rowAt_I, rowAt_I, ri, rj]
  unfold rowCellsM
  rw [List.length_map, li]
  show _ = ((List.range t.names.length).filterMap fun c => if (t.cell i c == ((VatdfBase.newOf cols c).map fun d => u.cell j d).getD .empty) = true then none else some (⟨i, c, t.cell i c⟩ : Spot)).map encS
  rw [List.map_filterMap]
  refine filterMap_ext fun c hcr => ?_
  have hcl : c < (t.rows[i]).length := by rw [li]; exact List.mem_range.mp hcr
  rw [cell_at gi hcl, Option.bind_some]
  have et : toldB (VatdfFlat.flatCell (t.cell i c)) ((u.rows[j]).map VatdfFlat.flatCell) (VatdfBase.newOf cols c) = !(t.cell i c == ((VatdfBase.newOf cols c).map fun d => u.cell j d).getD .empty) := by
    cases hn : VatdfBase.newOf cols c with
    | none => exact fullC_cell _
    | some d =>
      have hd : d < (u.rows[j]).length := by
        rw [lj]
        unfold VatdfBase.newOf at hn
        cases hf : cols.find? (fun p => p.1 == c) with
        | none => rw [hf] at hn; cases hn
        | some p =>
          rw [hf] at hn
          rw [← Option.some.inj hn]
          exact hc p (List.mem_of_find?_eq_some hf)
      show (!decide (_ = (((u.rows[j]).map VatdfFlat.flatCell)[d]?).getD [])) = !(t.cell i c == u.cell j d)
      rw [cell_at gj hd]
      show (!decide (_ = VatdfFlat.flatCell (u.cell j d))) = _
      congr 1
      by_cases e : t.cell i c = u.cell j d
      · rw [e, beq_self_eq_true]
        exact decide_eq_true rfl
      · rw [beq_eq_false_iff_ne.mpr e]
        exact decide_eq_false fun z => e (flatCell_inj z)
  rw [et]
  cases (t.cell i c == ((VatdfBase.newOf cols c).map fun d => u.cell j d).getD .empty) <;> rfl
theorem flatMapE {α β : Type} {f g : α → List β} : ∀ {l : List α}, (∀ x ∈ l, f x = g x) → l.flatMap f = l.flatMap g
  | [], _ => rfl
  | x :: l, h => by
    rw [List.flatMap_cons, List.flatMap_cons, h x List.mem_cons_self, flatMapE fun y hy => h y (List.mem_cons_of_mem _ hy)]
theorem map_flat {α β γ : Type} (f : α → List β) (g : β → γ) : ∀ l : List α, (l.flatMap f).map g = l.flatMap fun x => (f x).map g
  | [] => rfl
  | x :: l => by rw [List.flatMap_cons, List.map_append, map_flat f g l, List.flatMap_cons]
/-- a side, by its table -/
def sideOf (t u : Table) (cols rp : Pairs) : Side := ⟨t.names, t.rows.length, VatdfBase.loneRows t (rp.map fun p => p.1), rp.flatMap fun p => VatdfBase.toldCells t p.1 fun c => (VatdfBase.newOf cols c).map fun d => u.cell p.2 d⟩
theorem side_I {t u : Table} (qt : Square t) (qu : Square u) {cols rp : Pairs} (hc : ∀ p ∈ cols, p.2 < u.names.length) (hr : ∀ p ∈ rp, p.1 < t.rows.length ∧ p.2 < u.rows.length) :
    sideM (namesI t) (rowsI t) (rowsI u) cols rp = VatdfFlat.flatSide (sideOf t u cols rp) := by
  have e1 : toldNamesM (namesI t) = VatdfFlat.int t.names.length :: t.names.flatMap VatdfFlat.flatBytes := by
    unfold toldNamesM namesI
    rw [List.length_map, List.flatMap_map]
    refine congrArg (List.cons _) (flatMapE fun w _ => ?_)
    show (((VatdfFlat.ints w).length : Nat) : Int) :: VatdfFlat.ints w = _
    rw [show (VatdfFlat.ints w).length = w.length from List.length_map _]
    rfl
  have e2 : toldLoneM (rowsI t) (loneN (rp.map fun p => p.1) t.rows.length) = VatdfFlat.int (VatdfBase.loneRows t (rp.map fun p => p.1)).length :: (VatdfBase.loneRows t (rp.map fun p => p.1)).flatMap fun r => VatdfFlat.int r.1 :: r.2.flatMap VatdfFlat.flatCell := by
    unfold toldLoneM
    rw [loneRows_eq, List.length_map, List.flatMap_map]
    refine congrArg (List.cons _) (flatMapE fun r _ => ?_)
    rw [rowAt_I]
    rfl
  have e3 : cellsM (rowsI t) (rowsI u) cols rp = (rp.flatMap fun p => VatdfBase.toldCells t p.1 fun c => (VatdfBase.newOf cols c).map fun d => u.cell p.2 d).map encS := by
    unfold cellsM
    rw [map_flat]
    exact flatMapE fun p hp => rowCells_I qt qu hc (hr p hp).1 (hr p hp).2
  unfold sideM toldCellsM
  rw [e3, rowsI_len, e2, e1, List.length_map]
  unfold VatdfFlat.flatSide
  show _ = (VatdfFlat.int t.names.length :: t.names.flatMap VatdfFlat.flatBytes) ++ ([VatdfFlat.int t.rows.length] ++ (VatdfFlat.int (VatdfBase.loneRows t (rp.map fun p => p.1)).length :: (VatdfBase.loneRows t (rp.map fun p => p.1)).flatMap fun r => VatdfFlat.int r.1 :: r.2.flatMap VatdfFlat.flatCell) ++ _)
  rw [List.append_assoc, List.append_assoc, List.append_assoc]
  rfl
theorem newOf_swap (cols : Pairs) (d : Nat) : VatdfBase.newOf (cols.map swapP) d = VatdfBase.oldOf cols d := by
  unfold VatdfBase.newOf VatdfBase.oldOf
  induction cols with
  | nil => rfl
  | cons p l ih =>
    rw [List.map_cons, List.find?_cons, List.find?_cons]
    show Option.map _ (match p.2 == d with | true => _ | false => _) = _
    cases p.2 == d with
    | true => rfl
    | false => exact ih
theorem patch_I {a b : Table} {cols : Pairs} (G : Good a b cols) {l : Pairs} (h : From a.rows.length b.rows.length 0 0 l) :
    patchM (namesI a) (namesI b) (rowsI a) (rowsI b) cols l = VatdfFlat.flatPatch (VatdfBase.between a b cols l) := by
  have hc := ((okCols_iff _ _ _).mp G.oc).1
  have hl := (ok_from h).1
  have qa := square_of G.oa
  have qb := square_of G.ob
  unfold patchM
  rw [toldPairs_pN, toldPairs_pN, side_I qa qb (fun p hp => (hc p hp).2) fun p hp => ⟨(hl p hp).1.2, (hl p hp).2.2⟩, side_I qb qa (fun p hp => ?_) fun p hp => ?_]
  · have e : sideOf b a (cols.map swapP) (l.map swapP) = (VatdfBase.between a b cols l).new := by
      unfold sideOf VatdfBase.between
      rw [List.map_map, List.flatMap_map]
      have e2 : (l.flatMap fun p => VatdfBase.toldCells b (swapP p).1 fun c => (VatdfBase.newOf (cols.map swapP) c).map fun d => a.cell (swapP p).2 d) = l.flatMap fun p => VatdfBase.toldCells b p.2 fun d => (VatdfBase.oldOf cols d).map fun c => a.cell p.1 c := by
        refine flatMapE fun p _ => ?_
        have : (fun c => (VatdfBase.newOf (cols.map swapP) c).map fun d => a.cell (swapP p).2 d) = fun d => (VatdfBase.oldOf cols d).map fun c => a.cell p.1 c := by
          funext c
          rw [newOf_swap]
          rfl
        rw [this]
        rfl
      rw [e2]
      rfl
    rw [e, List.append_assoc, List.append_assoc]
    rfl
  · obtain ⟨q, hq, rfl⟩ := List.mem_map.mp hp
    exact (hc q hq).1
  · obtain ⟨q, hq, rfl⟩ := List.mem_map.mp hp
    exact ⟨(hl q hq).2.2, (hl q hq).1.2⟩
/-! ### how long -/
theorem flat_le {α β : Type} (f : α → List β) (k : Nat) : ∀ {l : List α}, (∀ x ∈ l, (f x).length ≤ k) → (l.flatMap f).length ≤ l.length * k
  | [], _ => Nat.zero_le _
  | x :: l, h => by
    have := flat_le f k fun y hy => h y (List.mem_cons_of_mem _ hy)
    have := h x List.mem_cons_self
    rw [List.flatMap_cons, List.length_append, List.length_cons, Nat.succ_mul]
    omega
theorem flat_to {α β : Type} (f : α → List β) (k m : Nat) {l : List α} (hl : l.length ≤ m) (h : ∀ x ∈ l, (f x).length ≤ k) : (l.flatMap f).length ≤ m * k := Nat.le_trans (flat_le f k h) (Nat.mul_le_mul_right k hl)
theorem cell_len {c : Cell} (h : VatdfBase.isCell c = true) : (VatdfFlat.flatCell c).length ≤ 10 := by
  cases c with
  | empty => exact (by decide : 1 ≤ 10)
  | num z => exact (by decide : 2 ≤ 10)
  | word w =>
    have h : VatdfBase.isWord w = true := h
    unfold VatdfBase.isWord at h
    rw [Bool.and_eq_true, Bool.and_eq_true] at h
    have h2 : w.length ≤ 8 := of_decide_eq_true h.2.1
    show ((VatdfFlat.ints w).length + 1 + 1) ≤ 10
    rw [show (VatdfFlat.ints w).length = w.length from List.length_map _]
    omega
theorem name_len {w : Bytes} (h : VatdfBase.isName w = true) : (VatdfFlat.flatBytes w).length ≤ 9 := by
  unfold VatdfBase.isName at h
  rw [Bool.and_eq_true] at h
  have h2 : w.length ≤ 8 := of_decide_eq_true h.1
  show (VatdfFlat.ints w).length + 1 ≤ 9
  rw [show (VatdfFlat.ints w).length = w.length from List.length_map _]
  omega
theorem any_cell {t : Table} (h : VatdfBase.isTable t = true) (i c : Nat) : VatdfBase.isCell (t.cell i c) = true := by
  unfold VatdfBase.Table.cell VatdfBase.Table.row VatdfBase.cellAt
  cases h1 : t.rows[i]? with
  | none =>
    show VatdfBase.isCell ((([] : Row)[c]?).getD .empty) = true
    rfl
  | some r =>
    show VatdfBase.isCell ((r[c]?).getD .empty) = true
    cases h2 : r[c]? with
    | none => rfl
    | some z => exact (((isTable_iff t).mp h).2.2 r (List.mem_of_getElem? h1)).2 z (List.mem_of_getElem? h2)
theorem any_row {t : Table} (h : VatdfBase.isTable t = true) (i : Nat) : (t.row i).length ≤ 5 ∧ ∀ c ∈ t.row i, VatdfBase.isCell c = true := by
  have g := (isTable_iff t).mp h
  unfold VatdfBase.Table.row
  cases h1 : t.rows[i]? with
  | none => exact ⟨Nat.zero_le _, fun c hc => nomatch hc⟩
  | some r =>
    have := g.2.2 r (List.mem_of_getElem? h1)
    refine ⟨?_, this.2⟩
    show r.length ≤ 5
    rw [this.1]
    exact g.1.2.1
theorem side_len {t u : Table} (h : VatdfBase.isTable t = true) {cols rp : Pairs} (hl : rp.length ≤ 12) : (VatdfFlat.flatSide (sideOf t u cols rp)).length ≤ 50000 := by
  have g := (isTable_iff t).mp h
  have n1 : (t.names.flatMap VatdfFlat.flatBytes).length ≤ 5 * 9 := flat_to _ _ _ g.1.2.1 fun w hw => name_len (g.1.2.2.1 w hw)
  have l0 : (VatdfBase.loneRows t (rp.map fun p => p.1)).length ≤ 12 := by
    rw [loneRows_eq, List.length_map]
    unfold loneN
    have := List.length_filter_le (fun c => !(rp.map fun p => p.1).contains c) (List.range t.rows.length)
    rw [List.length_range] at this
    have := g.2.1
    omega
  have n2 : ((VatdfBase.loneRows t (rp.map fun p => p.1)).flatMap fun r => VatdfFlat.int r.1 :: r.2.flatMap VatdfFlat.flatCell).length ≤ 12 * 60 := by
    refine flat_to _ _ _ l0 fun r hr => ?_
    rw [loneRows_eq] at hr
    obtain ⟨i, _, rfl⟩ := List.mem_map.mp hr
    have := any_row h i
    have := flat_to VatdfFlat.flatCell 10 5 this.1 fun c hc => cell_len (this.2 c hc)
    rw [List.length_cons]
    show ((t.row i).flatMap VatdfFlat.flatCell).length + 1 ≤ _
    omega
  have n3 : (((rp.flatMap fun p => VatdfBase.toldCells t p.1 fun c => (VatdfBase.newOf cols c).map fun d => u.cell p.2 d)).flatMap fun x => VatdfFlat.int x.row :: VatdfFlat.int x.col :: VatdfFlat.flatCell x.cell).length ≤ 60 * 12 := by
    have len : (rp.flatMap fun p => VatdfBase.toldCells t p.1 fun c => (VatdfBase.newOf cols c).map fun d => u.cell p.2 d).length ≤ 12 * 5 := by
      refine flat_to _ _ _ hl fun p _ => ?_
      have := List.length_filterMap_le (fun c => if (t.cell p.1 c == ((VatdfBase.newOf cols c).map fun d => u.cell p.2 d).getD .empty) = true then none else some (⟨p.1, c, t.cell p.1 c⟩ : Spot)) (List.range t.names.length)
      rw [List.length_range] at this
      exact Nat.le_trans this g.1.2.1
    refine flat_to _ _ _ len fun x hx => ?_
    obtain ⟨p, _, hx⟩ := List.mem_flatMap.mp hx
    have hx : x ∈ (List.range t.names.length).filterMap fun c => if (t.cell p.1 c == ((VatdfBase.newOf cols c).map fun d => u.cell p.2 d).getD .empty) = true then none else some (⟨p.1, c, t.cell p.1 c⟩ : Spot) := hx
    obtain ⟨c, _, e⟩ := List.mem_filterMap.mp hx
    have hcell : VatdfBase.isCell x.cell = true := by
      by_cases z : (t.cell p.1 c == ((VatdfBase.newOf cols c).map fun d => u.cell p.2 d).getD .empty) = true
      · rw [if_pos z] at e
        cases e
      · rw [if_neg z] at e
        rw [← Option.some.inj e]
        exact any_cell h _ _
    have := cell_len hcell
    rw [List.length_cons, List.length_cons]
    omega
  unfold VatdfFlat.flatSide
  rw [List.length_append, List.length_append, List.length_cons, List.length_cons, List.length_cons, List.length_cons]
  show (t.names.flatMap VatdfFlat.flatBytes).length + 1 + (((VatdfBase.loneRows t (rp.map fun p => p.1)).flatMap fun r => VatdfFlat.int r.1 :: r.2.flatMap VatdfFlat.flatCell).length + 1 + 1 + (((rp.flatMap fun p => VatdfBase.toldCells t p.1 fun c => (VatdfBase.newOf cols c).map fun d => u.cell p.2 d)).flatMap fun x => VatdfFlat.int x.row :: VatdfFlat.int x.col :: VatdfFlat.flatCell x.cell).length + 1) ≤ 50000
  omega
theorem cols_news {m n : Nat} {cols : Pairs} (h : VatdfBase.okCols m n cols = true) : (cols.map fun p => p.2).Nodup ∧ cols.length ≤ n := by
  have hc := (okCols_iff _ _ _).mp h
  have nd : (cols.map fun p => p.2).Nodup := by
    rw [List.nodup_iff_pairwise_ne, List.pairwise_map, List.pairwise_iff_getElem]
    have step : ∀ (k : Nat) (x : Nat) (h : x + k + 1 < cols.length), cols[x].2 < cols[x + k + 1].2 := by
      intro k
      induction k with
      | zero => exact fun x h => hc.2.1 x h
      | succ k ih =>
        intro x h
        exact Nat.lt_trans (ih x (by omega)) (hc.2.1 (x + k + 1) (by omega))
    intro x y hx hy hxy e
    obtain ⟨k, rfl⟩ : ∃ k, y = x + k + 1 := ⟨y - x - 1, by omega⟩
    have := step k x hy
    omega
  refine ⟨nd, ?_⟩
  have e := count_in (m := n) (cols.map fun p => p.2) nd fun x hx => by
    obtain ⟨p, hp, rfl⟩ := List.mem_map.mp hx
    exact (hc.1 p hp).2
  have := List.countP_le_length (p := fun d => (cols.map fun p => p.2).contains d) (l := List.range n)
  rw [e, List.length_map, List.length_range] at this
  exact this
theorem sides_ok {a b : Table} {cols : Pairs} (G : Good a b cols) {l : Pairs} (h : From a.rows.length b.rows.length 0 0 l) :
    SideOk (namesI a) (rowsI a) (rowsI b) cols l ∧ SideOk (namesI b) (rowsI b) (rowsI a) (cols.map swapP) (l.map swapP) := by
  have hc := (okCols_iff _ _ _).mp G.oc
  have hl := (ok_from h).1
  obtain ⟨c1, c2⟩ := cols_news G.oc
  obtain ⟨l1, l2⟩ := from_len h
  have ga := (isTable_iff a).mp G.oa
  have gb := (isTable_iff b).mp G.ob
  have a5 := ga.1.2.1
  have b5 := gb.1.2.1
  have a12 := ga.2.1
  have b12 := gb.2.1
  have qa := square_of G.oa
  have qb := square_of G.ob
  have ta := tabOk G.oa
  have tb := tabOk G.ob
  refine ⟨⟨hc.2.2, by omega, by omega, by rw [rowsI_len]; omega, fun p hp => ?_, ta.ce, fun r hr p hp => ?_, ?_⟩, ⟨?_, by rw [List.length_map]; omega, by rw [List.length_map]; omega, by rw [rowsI_len]; omega, fun p hp => ?_, tb.ce, fun r hr p hp => ?_, ?_⟩⟩
  · rw [rowsI_len, rowsI_len]
    exact ⟨(hl p hp).1.2, (hl p hp).2.2⟩
  · rw [tb.rl r hr, namesI_len]
    exact (hc.1 p hp).2
  · rw [side_I qa qb (fun p hp => (hc.1 p hp).2) fun p hp => ⟨(hl p hp).1.2, (hl p hp).2.2⟩]
    exact side_len G.oa (by omega)
  · rw [List.map_map]
    exact c1
  · obtain ⟨q, hq, rfl⟩ := List.mem_map.mp hp
    rw [rowsI_len, rowsI_len]
    exact ⟨(hl q hq).2.2, (hl q hq).1.2⟩
  · obtain ⟨q, hq, rfl⟩ := List.mem_map.mp hp
    rw [ta.rl r hr, namesI_len]
    exact (hc.1 q hq).1
  · rw [side_I qb qa (fun p hp => ?_) fun p hp => ?_]
    · exact side_len G.ob (by rw [List.length_map]; omega)
    · obtain ⟨q, hq, rfl⟩ := List.mem_map.mp hp
      exact (hc.1 q hq).1
    · obtain ⟨q, hq, rfl⟩ := List.mem_map.mp hp
      exact ⟨(hl q hq).2.2, (hl q hq).1.2⟩
/-- the first least matching -/
def firstM (a b : Table) (cols : Pairs) : Pairs := kthM (gridI (costsOf a b cols)) (bN (costsOf a b cols) a.rows.length b.rows.length) a.rows.length b.rows.length (a.rows.length + 1) 0 0 0
theorem first_from (a b : Table) (cols : Pairs) : From a.rows.length b.rows.length 0 0 (firstM a b cols) ∧ Vatdfb.matchingCost (costsOf a b cols) a.rows.length b.rows.length (firstM a b cols) = (bestFrom (bestsOf (costsOf a b cols) a.rows.length b.rows.length) 0 0).cost := by
  obtain ⟨h1, h2⟩ := kthM_least (costsOf a b cols) a.rows.length b.rows.length (a.rows.length + 1) 0 0 0 (Nat.zero_le _) (Nat.zero_le _) (by omega) (many_pos _ _ _ a.rows.length 0 0 (Nat.zero_le _) (Nat.zero_le _) (by omega))
  refine ⟨h1, ?_⟩
  rw [← h2]
  rfl
theorem step_patch {a b : Table} {cols : Pairs} (G : Good a b cols) : Vatdfb.step ⟨some (a, b), cols⟩ .patch = (⟨some (a, b), cols⟩, [((VatdfBase.colsCost a.names b.names cols : Nat) : Int) + (bN (costsOf a b cols) a.rows.length b.rows.length 0 0).1] ++ patchM (namesI a) (namesI b) (rowsI a) (rowsI b) cols (firstM a b cols)) := by
  obtain ⟨h1, h2⟩ := first_from a b cols
  have e := kth_eq (costsOf a b cols) a.rows.length b.rows.length (a.rows.length + 1) 0 0 0 (Nat.zero_le _) (Nat.zero_le _) (by omega)
  rw [if_pos (many_pos _ _ _ a.rows.length 0 0 (Nat.zero_le _) (Nat.zero_le _) (by omega))] at e
  have ef : Vatdfb.first (Vatdfb.work a b cols) = firstM a b cols := by
    show (Vatdfb.kthFrom (costsOf a b cols) a.rows.length b.rows.length (Vatdfb.bestsOf (costsOf a b cols) a.rows.length b.rows.length) (a.rows.length + 1) 0 0 0).getD [] = _
    rw [e]
    rfl
  show (_, Vatdfb.int (VatdfBase.cost (VatdfBase.between a b cols (Vatdfb.first (Vatdfb.work a b cols)))) :: VatdfFlat.flatPatch (VatdfBase.between a b cols (Vatdfb.first (Vatdfb.work a b cols)))) = _
  rw [ef, patch_I G h1, patch_cost G h1]
  have h2 : Vatdfb.matchingCost (Vatdfb.gridOf a b cols) a.rows.length b.rows.length (firstM a b cols) = (bestFrom (bestsOf (costsOf a b cols) a.rows.length b.rows.length) 0 0).cost := h2
  rw [h2]
  rfl
end MR

namespace MR
open PySem PySem.Spec PyProof.Rows L2
open VatdfBase (Cell Row Table Bytes Pairs)
section
variable {P : Program} {w : World} {K : PySem.W.Frag} {mg : Str → Option Value} {base : Heap} {f : Addr} {fd : FuncData} {C CE CT CL CM CW XT XC XR XP XN : Addr}
abbrev s_answer_patch : Stmt := topS 88
theorem sc_answer_patch : FnScope ["both", "handed", "matched", "cost", "first"] ["both", "handed"] (defScope s_answer_patch) := ⟨rfl, rfl, rfl, by decide +kernel, rfl, by decide +kernel, by decide +kernel⟩
def sp_answer_patch (K : PySem.W.Frag) (CT CL CM CW XN : Addr) : Sp := fun vs H Q E => ∃ (s : Addr) (hv : V) (st : Vatdfb.State), vs = [.ref s, hv] ∧ StAt K CT CL CM CW H s st ∧
  (st.tables = none → Refuse E H XN) ∧ Gives K CT CL CM CW H s Q (Vatdfb.step st .patch)
theorem ok_answer_patch (S : MtC K CM) (C_TwoTables_matched : MetX P w K mg base (L2.CX P w) 1 CW "matched" (sp_matched K CW XN)) (C_MatchedTables_cost_of_columns : MetX P w K mg base CX0 5 CM "cost_of_columns" (sp_cost_of_columns K CT CL CM))
    (C_LeastMatchings_least_cost : MetX P w K mg base CX0 1 CL "least_cost" (sp_least_cost K CL)) (C_LeastMatchings_at_place : MetX P w K mg base CX0 4 CL "at_place" (sp_at_place K CL)) (C_told_patch : CalX P w K mg base CX0 5 "told_patch" (sp_told_patch K CT)) (F : Fun K "answer_patch" "answer_patch" s_answer_patch f fd) :
    FnOk P w K mg base (L2.CX P w) 6 f fd ["both", "handed"] (sp_answer_patch K CT CL CM CW XN) := by
  refine F.okX sc_answer_patch (fun vs H Q E h => ?_) (fun cdv A outer s H vs Q E hr h => ⟨_, (pss_cons (ps_set (i := 2) sc_answer_patch.nd rfl (Or.inl rfl) (pe_m0 (pv 0) C_TwoTables_matched hr (by decide) (loud (takes_of rfl rfl rfl rfl))))
  (pss_cons (ps_set (i := 3) sc_answer_patch.nd rfl (Or.inl rfl) (pe_op op_add (pe_m0 (pv 2) C_MatchedTables_cost_of_columns hr (by decide) (fun _ => quiet)) (pe_m0 (fldK K (pv 2)) C_LeastMatchings_least_cost hr (by decide) (fun _ => quiet))))
  (pss_cons (ps_set (i := 4) sc_answer_patch.nd rfl (Or.inl rfl) (pe_m (fldK K (pv 2)) C_LeastMatchings_at_place hr (by decide) (fun _ => quiet) (pa_cons pe_int pa_nil)))
  (pss_one (ps_ret (pe_op (catK K) (pe_lst (pa_cons (pv 3) pa_nil)) (pe_k C_told_patch hr (by decide) (by rfl) (fun _ => quiet) (pa_cons (fldK K (pv 2)) (pa_cons (fldK K (pv 2)) (pa_cons (fldK K (pv 2)) (pa_cons (pv 4) pa_nil))))))))))), ?_⟩)
  · obtain ⟨s, hv, st, rfl, _⟩ := h
    rfl
  obtain ⟨s, hv, st, rfl, hst, hN, hQ⟩ := h
  obtain ⟨stt, cols⟩ := st
  cases stt with
  | none =>
    obtain ⟨dx, hs⟩ := hst
    exact ⟨_, rfl, s, dx, _, rfl, hs, rfl, s, dx, .non, rfl, hs, .inl ⟨rfl, hN rfl⟩⟩
  | some t =>
  obtain ⟨a, b⟩ := t
  have hst : TwAt K CT CL CM CW H s a b cols := hst
  obtain ⟨G, dx, h, d, o, n, y, p, l, dl, cd, wd, kc, kw, hs, X⟩ := id hst
  refine ⟨_, rfl, s, dx, _, rfl, hs, rfl, s, dx, .ref h, rfl, hs, .inr ⟨(fun z => nomatch z), ?_⟩⟩
  obtain ⟨t1, t2⟩ := X.td 0 0 (Nat.zero_le _) (Nat.zero_le _)
  refine ⟨_, rfl, h, d, _, rfl, X.ob, rfl, h, a, b, cols, d, o, n, y, p, l, dl, cd, wd, kc, kw, rfl, X, G, fun H1 s1 => ?_⟩
  have X1 := X.same s1
  refine ⟨_, rfl, h, CM, d, _, _, rfl, X1.ob, S.cl, S.n5, rfl, l, dl, _, rfl, X1.lm.ob, rfl, l, dl, p, _, _, _, cd, wd, kc, kw, _, rfl, X1.lm, t1, fun H2 s2 => ⟨_, _, rfl, rfl, ?_⟩⟩
  have X2 := X1.same s2
  refine ⟨_, rfl, h, CM, d, _, _, rfl, X2.ob, S.cl, S.n5, rfl, l, dl, _, rfl, X2.lm.ob, rfl, l, dl, p, _, _, _, cd, wd, kc, kw, 0, bN (costsOf a b cols) a.rows.length b.rows.length, rfl, X2.lm, G.gridOk, G.small.1, G.small.2, X2.td, fun v3 H3 s3 d3 => ?_⟩
  have s03 : Same H H3 := (s1.trans s2).trans s3
  obtain ⟨hf, _⟩ := first_from a b cols
  obtain ⟨z1, z2⟩ := sides_ok G hf
  have d3 : Dp K H3 v3 (dL dP ((firstM a b cols).map pN)) := dmono nw_in d3
  unfold Gives at hQ
  rw [step_patch G] at hQ
  have szl : (200000 : Nat) ≤ sizeLine := by rw [sizeLine_eq]; decide
  have hl : (patchM (namesI a) (namesI b) (rowsI a) (rowsI b) cols (firstM a b cols)).length ≤ 150000 := by
    have h1 := z1.sz
    have h2 := z2.sz
    have h3 := z1.cl
    have h4 := z1.rl
    unfold patchM
    rw [List.length_append, List.length_append, List.length_append, toldPairs_len, toldPairs_len, List.length_map, List.length_map]
    omega
  generalize firstM a b cols = fm at *
  refine ⟨_, rfl, by show 1 ≤ sizeLine; omega, fun D hD => ?_⟩
  generalize hM : [V.int (((VatdfBase.colsCost a.names b.names cols : Nat) : Int) + (bN (costsOf a b cols) a.rows.length b.rows.length 0 0).1)] = M at *
  have lM : M.length = 1 := by rw [← hM]; rfl
  have s4 : Same H3 (upd H3 D (.lst M)) := Same.made1 hD
  have hD4 : upd H3 D (.lst M) D = some (.lst M) := upd_same
  generalize upd H3 D (.lst M) = H4 at s4 hD4 ⊢
  have s04 := s03.trans s4
  have X4 := X.same s04
  refine ⟨_, rfl, h, CM, d, _, _, rfl, X4.ob, S.cl, S.n1, rfl, _, rfl, h, CM, d, _, _, rfl, X4.ob, S.cl, S.n2, rfl, _, rfl, h, CM, d, _, _, rfl, X4.ob, S.cl, S.n3, rfl, _, rfl, o, n, y, v3, namesI a, namesI b, rowsI a, rowsI b, cols, fm, rfl, X4.ta, X4.tb, X4.dy, dmono s4 d3, z1, z2, fun q H5 s5 nq hq => ?_⟩
  have s05 := s04.trans s5
  refine ⟨D, q, _, _, rfl, rfl, SqL.of (s5 _ _ hD4), SqL.of hq, by rw [List.length_map]; omega, fun R hR => ?_⟩
  have s06 := s05.trans (Same.made1 (o := .lst (M ++ (patchM (namesI a) (namesI b) (rowsI a) (rowsI b) cols fm).map V.int)) hR)
  refine hQ _ R (KpB.same s06) (Same.tk s06) (TwAt.same hst s06) (s05.free hR) ?_
  rw [upd_same, List.map_append, ← hM]
  rfl
end
end MR

namespace MR
open PySem PySem.Spec PyProof.Rows L2
open VatdfBase (Cell Row Table Bytes Pairs)
/-- what each call is handed: its number, its whole numbers, its lists -/
def ToldC (k : Int) (ns : List Int) (ls : List (List Int)) : Vatdfb.Call → Prop
  | .tables x y => k = 0 ∧ ns = [] ∧ ls = [x, y]
  | .cols l => k = 1 ∧ ns = [] ∧ ls = [l]
  | .least => k = 2 ∧ ns = [] ∧ ls = []
  | .kth z => k = 3 ∧ ns = [z] ∧ ls = []
  | .cost l => k = 4 ∧ ns = [] ∧ ls = [l]
  | .pair i j => k = 5 ∧ ns = [i, j] ∧ ls = []
  | .surely => k = 6 ∧ ns = [] ∧ ls = []
  | .mayBe => k = 7 ∧ ns = [] ∧ ls = []
  | .free => k = 8 ∧ ns = [] ∧ ls = []
  | .keyed l => k = 9 ∧ ns = [] ∧ ls = [l]
  | .patch => k = 10 ∧ ns = [] ∧ ls = []
  | .rank l => k = 11 ∧ ns = [] ∧ ls = [l]
def notTables : Vatdfb.Call → Prop
  | .tables _ _ => False
  | _ => True
theorem step_none {st : Vatdfb.State} {c : Vatdfb.Call} (h : st.tables = none) (n : notTables c) : Vatdfb.step st c = (st, [-8]) := by
  cases c with
  | tables x y => exact n.elim
  | cols l =>
    show (match st.tables with | none => (st, [-8]) | some t => _) = _
    rw [h]
  | _ =>
    show (match st.tables with | none => (st, [-8]) | some t => _) = _
    rw [h]
theorem step_tables {st : Vatdfb.State} {x y : List Int} (h : VatdfFlat.tableOf x = none ∨ VatdfFlat.tableOf y = none) : Vatdfb.step st (.tables x y) = (st, [-1]) := by
  show (match VatdfFlat.tableOf x, VatdfFlat.tableOf y with | some a, some b => _ | _, _ => (st, [-1])) = _
  rcases h with h | h
  · rw [h]
  · rw [h]
    cases VatdfFlat.tableOf x <;> rfl
theorem step_cols {st : Vatdfb.State} {l : List Int} {t : Table × Table} (e : st.tables = some t) (h : ∀ p, VatdfFlat.pairsOf l = some p → ¬ VatdfBase.okCols t.1.names.length t.2.names.length p = true) : Vatdfb.step st (.cols l) = (st, [-2]) := by
  show (match st.tables with | none => (st, [-8]) | some t => match VatdfFlat.pairsOf l with | none => (st, [-2]) | some p => if VatdfBase.okCols t.1.names.length t.2.names.length p then ({ st with cols := p }, [Vatdfb.int (VatdfBase.colsCost t.1.names t.2.names p)]) else (st, [-2])) = _
  rw [e]
  cases q : VatdfFlat.pairsOf l with
  | none => rfl
  | some p => exact if_neg (h p q)
theorem step_kth4 {st : Vatdfb.State} {k : Int} (e : st.tables ≠ none) (h : k < 0) : Vatdfb.step st (.kth k) = (st, [-4]) := by
  obtain ⟨stt, cols⟩ := st
  cases stt with
  | none => exact absurd rfl e
  | some t =>
    obtain ⟨a, b⟩ := t
    rw [step_kth, if_pos h]
theorem step_cost3 {st : Vatdfb.State} {l : List Int} {t : Table × Table} (e : st.tables = some t) (h : Vatdfb.rowsOf t.1 t.2 l = none) : Vatdfb.step st (.cost l) = (st, [-3]) := by
  show (match st.tables with | none => (st, [-8]) | some t => (st, match Vatdfb.rowsOf t.1 t.2 l with | none => [-3] | some p => _)) = _
  rw [e]
  show (st, match Vatdfb.rowsOf t.1 t.2 l with | none => [-3] | some p => _) = _
  rw [h]
theorem step_pair4 {st : Vatdfb.State} {i j : Int} {t : Table × Table} (e : st.tables = some t) (h : ¬ ((0 ≤ i ∧ i < t.1.rows.length) ∧ (0 ≤ j ∧ j < t.2.rows.length))) : Vatdfb.step st (.pair i j) = (st, [-4]) := by
  obtain ⟨stt, cols⟩ := st
  have e : stt = some t := e
  subst e
  obtain ⟨a, b⟩ := t
  rw [step_pair, if_neg h]
theorem step_rank3 {st : Vatdfb.State} {l : List Int} {t : Table × Table} (e : st.tables = some t) (h : Vatdfb.rowsOf t.1 t.2 l = none) : Vatdfb.step st (.rank l) = (st, [-3]) := by
  show (match st.tables with | none => (st, [-8]) | some t => (st, match Vatdfb.rowsOf t.1 t.2 l with | none => [-3] | some p => _)) = _
  rw [e]
  show (st, match Vatdfb.rowsOf t.1 t.2 l with | none => [-3] | some p => _) = _
  rw [h]
theorem step_keyed2 {st : Vatdfb.State} {l : List Int} (e : st.tables ≠ none) (h : Vatdfb.keysOf st.cols l = none) : Vatdfb.step st (.keyed l) = (st, [-2]) := by
  obtain ⟨stt, cols⟩ := st
  cases stt with
  | none => exact absurd rfl e
  | some t =>
    obtain ⟨a, b⟩ := t
    have h : Vatdfb.keysOf cols l = none := h
    show (_, match Vatdfb.keysOf cols l with | none => [-2] | some cs => _) = _
    rw [h]
theorem step_free6 {st : Vatdfb.State} {t : Table × Table} (e : st.tables = some t) (h : 8 < t.1.rows.length ∨ 8 < t.2.rows.length) : Vatdfb.step st .free = (st, [-6]) := by
  obtain ⟨stt, cols⟩ := st
  have e : stt = some t := e
  subst e
  obtain ⟨a, b⟩ := t
  rw [step_free, if_pos h]
section
variable {P : Program} {w : World} {K : PySem.W.Frag} {mg : Str → Option Value} {base : Heap} {f : Addr} {fd : FuncData} {C CE CT CL CM CW XT XC XK_ XR XP XF_ XN : Addr}
/-- what is caught, and told as which number -/
abbrev errsA (XT XC XK_ XR XP XF_ XN : Addr) : List (Addr × Int) := [(XT, 1), (XC, 2), (XK_, 2), (XR, 3), (XP, 4), (XF_, 6), (XN, 8)]
/-- the defs of the table, what each does -/
abbrev spsA (K : PySem.W.Frag) (CT CL CM CW XT XC XK_ XR XP XF_ XN : Addr) : List Sp := [sp_answer_tables K CT CL CM CW XT, sp_answer_cols K CT CL CM CW XC XN, sp_answer_least K CT CL CM CW XN, sp_answer_kth K CT CL CM CW XP XN, sp_answer_cost K CT CL CM CW XR XN, sp_answer_pair K CT CL CM CW XP XN, sp_answer_surely K CT CL CM CW XN, sp_answer_maybe K CT CL CM CW XN, sp_answer_free K CT CL CM CW XF_ XN, sp_answer_keyed K CT CL CM CW XK_ XN, sp_answer_patch K CT CL CM CW XN, sp_answer_rank K CT CL CM CW XR XN]
abbrev tabA (K : PySem.W.Frag) (CT CL CM CW XT XC XK_ XR XP XF_ XN : Addr) (fs : List Addr) (f : Addr) (sp : Sp) : Prop := ∃ i : Nat, fs[i]? = some f ∧ (spsA K CT CL CM CW XT XC XK_ XR XP XF_ XN)[i]? = some sp
abbrev s_answer_or_refusal : Stmt := topS 93
theorem sc_answer_or_refusal : FnScope ["both", "call", "handed"] ["both", "call", "handed"] (defScope s_answer_or_refusal) := ⟨rfl, rfl, rfl, by decide +kernel, rfl, by decide +kernel, by decide +kernel⟩
def sp_aor (K : PySem.W.Frag) (CT CL CM CW : Addr) : Sp := fun vs H Q E => ∃ (s : Addr) (k : Int) (hv : V) (ns : List Int) (ls : List (List Int)) (c : Vatdfb.Call) (st : Vatdfb.State), vs = [.ref s, .int k, hv] ∧ HandAt H hv ns ls ∧ ToldC k ns ls c ∧
  (∀ l ∈ ls, l.length ≤ 1000) ∧ StAt K CT CL CM CW H s st ∧ Gives K CT CL CM CW H s Q (Vatdfb.step st c)
theorem ok_aor {tA : Addr} {fs : List Addr} (T : Tops mg) (TT_ANSWERERS : TopT K mg "ANSWERERS" tA (fs.map V.ref)) (hfs : fs.length = 12)
    (TAB : ∀ f sp, tabA K CT CL CM CW XT XC XK_ XR XP XF_ XN fs f sp → Entry P w K mg base (L2.CX P w) 8 f sp)
    (X_NotTable : ErrX K mg "NotTable" XT) (X_NotColumnPairs : ErrX K mg "NotColumnPairs" XC) (X_NotKeys : ErrX K mg "NotKeys" XK_) (X_NotRowPairs : ErrX K mg "NotRowPairs" XR) (X_NotThere : ErrX K mg "NotThere" XP) (X_TooManyRows : ErrX K mg "TooManyRows" XF_) (X_NoTables : ErrX K mg "NoTables" XN)
    (M : ∀ (i j : Nat) p q, (errsA XT XC XK_ XR XP XF_ XN)[i]? = some p → (errsA XT XC XK_ XR XP XF_ XN)[j]? = some q → PySem.W.exmOne K (.ref p.1) (.ref q.1) = some (decide (j = i)))
    (F : Fun K "answer_or_refusal" "answer_or_refusal" s_answer_or_refusal f fd) : FnOk P w K mg base CX0 9 f fd ["both", "call", "handed"] (sp_aor K CT CL CM CW) := by
  refine F.ok sc_answer_or_refusal (fun vs H Q E h => ?_) (fun cdv A outer s H vs Q E hr h => ⟨_, (pss_one (ps_try_many rfl rfl takes_none5 (fun W pn xe tk _ => (pss_one (ps_ret (pe_callE (pe_ix (ixT K) (pe_gt (by rfl) TT_ANSWERERS) (pv 1) (fun _ _ => rfl)) TAB hr (loudW tk) (pa_cons (pv 0) (pa_cons (pv 2) pa_nil))))))
   (HdsOk.cons (ts := fun _ _ _ => _) ⟨by rfl, by decide, .inl X_NotTable.g⟩ (fun _ _ _ _ _ _ _ => (pss_one (ps_ret (pe_lst (pa_cons (pe_un un_neg pe_int) pa_nil)))))
    (HdsOk.cons (ts := fun _ _ _ => _) ⟨by rfl, by decide, .inl X_NotColumnPairs.g⟩ (fun _ _ _ _ _ _ _ => (pss_one (ps_ret (pe_lst (pa_cons (pe_un un_neg pe_int) pa_nil)))))
    (HdsOk.cons (ts := fun _ _ _ => _) ⟨by rfl, by decide, .inl X_NotKeys.g⟩ (fun _ _ _ _ _ _ _ => (pss_one (ps_ret (pe_lst (pa_cons (pe_un un_neg pe_int) pa_nil)))))
    (HdsOk.cons (ts := fun _ _ _ => _) ⟨by rfl, by decide, .inl X_NotRowPairs.g⟩ (fun _ _ _ _ _ _ _ => (pss_one (ps_ret (pe_lst (pa_cons (pe_un un_neg pe_int) pa_nil)))))
    (HdsOk.cons (ts := fun _ _ _ => _) ⟨by rfl, by decide, .inl X_NotThere.g⟩ (fun _ _ _ _ _ _ _ => (pss_one (ps_ret (pe_lst (pa_cons (pe_un un_neg pe_int) pa_nil)))))
    (HdsOk.cons (ts := fun _ _ _ => _) ⟨by rfl, by decide, .inl X_TooManyRows.g⟩ (fun _ _ _ _ _ _ _ => (pss_one (ps_ret (pe_lst (pa_cons (pe_un un_neg pe_int) pa_nil)))))
    (HdsOk.cons (ts := fun _ _ _ => _) ⟨by rfl, by decide, .inl X_NoTables.g⟩ (fun _ _ _ _ _ _ _ => (pss_one (ps_ret (pe_lst (pa_cons (pe_un un_neg pe_int) pa_nil)))))
    HdsOk.nil))))))))), ?_⟩)
  · obtain ⟨s, k, hv, ns, ls, c, st, rfl, _⟩ := h
    rfl
  obtain ⟨s, k, hv, ns, ls, c, st, rfl, hh, hc, hl, hst, hQ⟩ := h
  have back : ∀ (n : Int) H', Same H H' → Vatdfb.step st c = (st, [-n]) → tRet (tLst (tCons (tUn (rU fun i => V.int (-i)) (tC (V.int n))) tNil)) { nx := fun x H' => Q V.non H', rt := Q } (L2.start ["both", "call", "handed"] [V.ref s, V.int k, hv]) H' := fun n H' s1 e => by
    refine ⟨n, rfl, by show 1 ≤ sizeLine; decide, fun D hD => ?_⟩
    unfold Gives at hQ
    rw [e] at hQ
    have s2 := s1.trans (Same.made1 (o := .lst [.int (-n)]) hD)
    exact hQ _ D (KpB.same s2) (Same.tk s2) (hst.same s2) (s1.free hD) upd_same
  have rx : ∀ (i : Nat) (p : Addr × Int), (errsA XT XC XK_ XR XP XF_ XN)[i]? = some p → Vatdfb.step st c = (st, [-p.2]) → ∀ H', Same H H' → wMany K (fun _ _ _ _ => False) { nx := fun x H' => Q V.non H', rt := Q } ((errsA XT XC XK_ XR XP XF_ XN).map hdl) (.ref p.1) none (L2.start ["both", "call", "handed"] [V.ref s, V.int k, hv]) H' := fun i p hi e H' s1 =>
    wmany_at (back p.2 H' s1 e) _ i hi fun j q hj _ => M i j p q hi hj
  have rT := rx 0 _ rfl
  have rC := rx 1 _ rfl
  have rK := rx 2 _ rfl
  have rR := rx 3 _ rfl
  have rP := rx 4 _ rfl
  have rF := rx 5 _ rfl
  have rN := rx 6 _ rfl
  have tab : ∀ i : Nat, i < 12 → (fs.map V.ref)[i]? = some (.ref (fs.getD i 0)) ∧ fs[i]? = some (fs.getD i 0) := fun i hi => by
    have hi : i < fs.length := by omega
    rw [List.getElem?_map, List.getElem?_eq_getElem hi, List.getD_eq_getElem?_getD, List.getElem?_eq_getElem hi]
    exact ⟨rfl, rfl⟩
  cases c with
  | tables x y =>
    obtain ⟨rfl, rfl, rfl⟩ := hc
    obtain ⟨t1, t2⟩ := tab 0 (by decide)
    refine ⟨_, rfl, tA, _, _, _, rfl, rfl, TT_ANSWERERS.t _, atI_of (k := 0) (by decide) t1, _, _, rfl, ⟨0, t2, rfl⟩, _, rfl, _, rfl, s, hv, x, y, st, rfl, hh, hl x (by simp), hl y (by simp), hst, fun e => rT (step_tables e), hQ⟩
  | cols l =>
    obtain ⟨rfl, rfl, rfl⟩ := hc
    obtain ⟨t1, t2⟩ := tab 1 (by decide)
    refine ⟨_, rfl, tA, _, _, _, rfl, rfl, TT_ANSWERERS.t _, atI_of (k := 1) (by decide) t1, _, _, rfl, ⟨1, t2, rfl⟩, _, rfl, _, rfl, s, hv, l, st, rfl, hh, hl l (by simp), hst, fun e => rN (step_none e trivial), fun t e1 e2 => rC (step_cols e1 e2), hQ⟩
  | least =>
    obtain ⟨rfl, rfl, rfl⟩ := hc
    obtain ⟨t1, t2⟩ := tab 2 (by decide)
    refine ⟨_, rfl, tA, _, _, _, rfl, rfl, TT_ANSWERERS.t _, atI_of (k := 2) (by decide) t1, _, _, rfl, ⟨2, t2, rfl⟩, _, rfl, _, rfl, s, hv, st, rfl, hst, fun e => rN (step_none e trivial), hQ⟩
  | kth z =>
    obtain ⟨rfl, rfl, rfl⟩ := hc
    obtain ⟨t1, t2⟩ := tab 3 (by decide)
    refine ⟨_, rfl, tA, _, _, _, rfl, rfl, TT_ANSWERERS.t _, atI_of (k := 3) (by decide) t1, _, _, rfl, ⟨3, t2, rfl⟩, _, rfl, _, rfl, s, hv, z, st, rfl, hh, hst, fun e => rN (step_none e trivial), fun e1 e2 => rP (step_kth4 e1 e2), hQ⟩
  | cost l =>
    obtain ⟨rfl, rfl, rfl⟩ := hc
    obtain ⟨t1, t2⟩ := tab 4 (by decide)
    refine ⟨_, rfl, tA, _, _, _, rfl, rfl, TT_ANSWERERS.t _, atI_of (k := 4) (by decide) t1, _, _, rfl, ⟨4, t2, rfl⟩, _, rfl, _, rfl, s, hv, l, st, rfl, hh, hl l (by simp), hst, fun e => rN (step_none e trivial), fun t e1 e2 => rR (step_cost3 e1 e2), hQ⟩
  | pair i j =>
    obtain ⟨rfl, rfl, rfl⟩ := hc
    obtain ⟨t1, t2⟩ := tab 5 (by decide)
    refine ⟨_, rfl, tA, _, _, _, rfl, rfl, TT_ANSWERERS.t _, atI_of (k := 5) (by decide) t1, _, _, rfl, ⟨5, t2, rfl⟩, _, rfl, _, rfl, s, hv, i, j, st, rfl, hh, hst, fun e => rN (step_none e trivial), fun t e1 e2 => rP (step_pair4 e1 e2), hQ⟩
  | surely =>
    obtain ⟨rfl, rfl, rfl⟩ := hc
    obtain ⟨t1, t2⟩ := tab 6 (by decide)
    refine ⟨_, rfl, tA, _, _, _, rfl, rfl, TT_ANSWERERS.t _, atI_of (k := 6) (by decide) t1, _, _, rfl, ⟨6, t2, rfl⟩, _, rfl, _, rfl, s, hv, st, rfl, hst, fun e => rN (step_none e trivial), hQ⟩
  | mayBe =>
    obtain ⟨rfl, rfl, rfl⟩ := hc
    obtain ⟨t1, t2⟩ := tab 7 (by decide)
    refine ⟨_, rfl, tA, _, _, _, rfl, rfl, TT_ANSWERERS.t _, atI_of (k := 7) (by decide) t1, _, _, rfl, ⟨7, t2, rfl⟩, _, rfl, _, rfl, s, hv, st, rfl, hst, fun e => rN (step_none e trivial), hQ⟩
  | free =>
    obtain ⟨rfl, rfl, rfl⟩ := hc
    obtain ⟨t1, t2⟩ := tab 8 (by decide)
    refine ⟨_, rfl, tA, _, _, _, rfl, rfl, TT_ANSWERERS.t _, atI_of (k := 8) (by decide) t1, _, _, rfl, ⟨8, t2, rfl⟩, _, rfl, _, rfl, s, hv, st, rfl, hst, fun e => rN (step_none e trivial), fun t e1 e2 => rF (step_free6 e1 e2), hQ⟩
  | keyed l =>
    obtain ⟨rfl, rfl, rfl⟩ := hc
    obtain ⟨t1, t2⟩ := tab 9 (by decide)
    refine ⟨_, rfl, tA, _, _, _, rfl, rfl, TT_ANSWERERS.t _, atI_of (k := 9) (by decide) t1, _, _, rfl, ⟨9, t2, rfl⟩, _, rfl, _, rfl, s, hv, l, st, rfl, hh, hl l (by simp), hst, fun e => rN (step_none e trivial), fun e1 e2 => rK (step_keyed2 e1 e2), hQ⟩
  | patch =>
    obtain ⟨rfl, rfl, rfl⟩ := hc
    obtain ⟨t1, t2⟩ := tab 10 (by decide)
    refine ⟨_, rfl, tA, _, _, _, rfl, rfl, TT_ANSWERERS.t _, atI_of (k := 10) (by decide) t1, _, _, rfl, ⟨10, t2, rfl⟩, _, rfl, _, rfl, s, hv, st, rfl, hst, fun e => rN (step_none e trivial), hQ⟩
  | rank l =>
    obtain ⟨rfl, rfl, rfl⟩ := hc
    obtain ⟨t1, t2⟩ := tab 11 (by decide)
    refine ⟨_, rfl, tA, _, _, _, rfl, rfl, TT_ANSWERERS.t _, atI_of (k := 11) (by decide) t1, _, _, rfl, ⟨11, t2, rfl⟩, _, rfl, _, rfl, s, hv, l, st, rfl, hh, hl l (by simp), hst, fun e => rN (step_none e trivial), fun t e1 e2 => rR (step_rank3 e1 e2), hQ⟩
end
end MR

/-! The list of calls, taken apart. -/
namespace MR
open PySem PySem.Spec PyProof.Rows L2
/-- a call: its number, its whole numbers, its lists -/
abbrev CallI := Int × List Int × List (List Int)
def tripOf : List (List Int) → CallI
  | (p :: xs) :: rows => (p, xs, rows)
  | _ => (0, [], [])
def ItemAt (G : Hp) (x : V) (c : CallI) : Prop := ∃ t hv, x = .ref t ∧ G t = some (.tup [.int c.1, hv]) ∧ HandAt G hv c.2.1 c.2.2
theorem HandAt.same {H H' : Hp} {v : V} {ns : List Int} {ls : List (List Int)} (h : HandAt H v ns ls) (s : Same H H') : HandAt H' v ns ls := h.mono fun c xs e => s c _ e
theorem ItemAt.same {G G' : Hp} {x : V} {c : CallI} (h : ItemAt G x c) (s : Same G G') : ItemAt G' x c := by
  obtain ⟨t, hv, rfl, h1, h2⟩ := h
  exact ⟨t, hv, rfl, s _ _ h1, h2.same s⟩
/-- things, each at its place -/
def ItemsA (G : Hp) (xs : List V) (cs : List CallI) : Prop := xs.length = cs.length ∧ ∀ (i : Nat) x c, xs[i]? = some x → cs[i]? = some c → ItemAt G x c
theorem ItemsA.same {G G' : Hp} {xs : List V} {cs : List CallI} (h : ItemsA G xs cs) (s : Same G G') : ItemsA G' xs cs := ⟨h.1, fun i x c e1 e2 => (h.2 i x c e1 e2).same s⟩
theorem ItemsA.snoc {G : Hp} {xs : List V} {cs : List CallI} {x : V} {c : CallI} (h : ItemsA G xs cs) (y : ItemAt G x c) : ItemsA G (xs ++ [x]) (cs ++ [c]) := by
  refine ⟨by rw [List.length_append, List.length_append, h.1]; rfl, fun i x' c' e1 e2 => ?_⟩
  by_cases hi : i < xs.length
  · rw [List.getElem?_append_left hi] at e1
    rw [List.getElem?_append_left (by rw [← h.1]; exact hi)] at e2
    exact h.2 i x' c' e1 e2
  · rw [List.getElem?_append_right (by omega)] at e1
    rw [List.getElem?_append_right (by rw [← h.1]; omega), ← h.1] at e2
    cases q : i - xs.length with
    | zero =>
      rw [q] at e1 e2
      cases e1
      cases e2
      exact y
    | succ n =>
      rw [q] at e1
      cases e1
def SplitAt (G : Hp) (v : V) (cs : List CallI) : Prop := ∃ p xs, v = .ref p ∧ G p = some (.lst xs) ∧ ItemsA G xs cs
theorem ListsAt.snoc {H : Hp} {rs : List Addr} {ls : List (List Int)} {r : Addr} {l : List Int} (h : ListsAt H rs ls) (y : LI H r l) : ListsAt H (rs ++ [r]) (ls ++ [l]) := by
  refine ⟨by rw [List.length_append, List.length_append, h.1]; rfl, fun i x' c' e1 e2 => ?_⟩
  by_cases hi : i < rs.length
  · rw [List.getElem?_append_left hi] at e1
    rw [List.getElem?_append_left (by rw [← h.1]; exact hi)] at e2
    exact h.2 i x' c' e1 e2
  · rw [List.getElem?_append_right (by omega)] at e1
    rw [List.getElem?_append_right (by rw [← h.1]; omega), ← h.1] at e2
    cases q : i - rs.length with
    | zero =>
      rw [q] at e1 e2
      cases e1
      cases e2
      exact y
    | succ n =>
      rw [q] at e1
      cases e1
theorem ListsAt.same {H H' : Hp} {rs : List Addr} {ls : List (List Int)} (h : ListsAt H rs ls) (s : Same H H') : ListsAt H' rs ls := ⟨h.1, fun i r l e1 e2 => s _ _ (h.2 i r l e1 e2)⟩
/-! ### How the numbers tell calls -/
theorem row_some {l x s : List Int} (h : PyFlat.row l = some (x, s)) : ∃ n : Nat, ∃ r, l = (n : Int) :: r ∧ n ≤ r.length ∧ x = r.take n ∧ s = r.drop n := by
  cases l with
  | nil => cases h
  | cons z r =>
    have h : (if 0 ≤ z ∧ z.toNat ≤ r.length then some (r.take z.toNat, r.drop z.toNat) else none) = some (x, s) := h
    by_cases c : 0 ≤ z ∧ z.toNat ≤ r.length
    · rw [if_pos c] at h
      cases h
      exact ⟨z.toNat, r, by rw [show ((z.toNat : Nat) : Int) = z from by omega], c.2, rfl, rfl⟩
    · rw [if_neg c] at h
      cases h
theorem rows_some {k : Nat} {l t : List Int} {xs : List (List Int)} (h : PyFlat.rows (k + 1) l = some (xs, t)) : ∃ (n : Nat) (r : List Int) (ys : List (List Int)), l = (n : Int) :: r ∧ n ≤ r.length ∧ PyFlat.rows k (r.drop n) = some (ys, t) ∧ xs = r.take n :: ys := by
  have h : (match PyFlat.row l with
    | none => none
    | some (x, s) => match PyFlat.rows k s with
      | none => none
      | some (xs, t) => some (x :: xs, t)) = some (xs, t) := h
  cases e : PyFlat.row l with
  | none => rw [e] at h; cases h
  | some u =>
    obtain ⟨x, s⟩ := u
    obtain ⟨n, r, rfl, h1, rfl, rfl⟩ := row_some e
    rw [e] at h
    have h : (match PyFlat.rows k (r.drop n) with
      | none => none
      | some (xs, t) => some (r.take n :: xs, t)) = some (xs, t) := h
    cases e2 : PyFlat.rows k (r.drop n) with
    | none => rw [e2] at h; cases h
    | some v =>
      obtain ⟨ys, t'⟩ := v
      rw [e2] at h
      cases h
      exact ⟨n, r, ys, rfl, h1, e2, rfl⟩
theorem call_some {shape : Int → Option (Nat × Nat)} {p : Int} {r t : List Int} {c : List (List Int)} (h : PyFlat.call shape (p :: r) = some (c, t)) : ∃ n k xs, shape p = some (n, k) ∧ n ≤ r.length ∧ PyFlat.rows k (r.drop n) = some (xs, t) ∧ c = (p :: r.take n) :: xs := by
  have h : (match shape p with
    | none => none
    | some (n, k) => if r.length < n then none else match PyFlat.rows k (r.drop n) with
      | none => none
      | some (xs, t) => some ((p :: r.take n) :: xs, t)) = some (c, t) := h
  cases e : shape p with
  | none => rw [e] at h; cases h
  | some u =>
    obtain ⟨n, k⟩ := u
    rw [e] at h
    have h : (if r.length < n then none else match PyFlat.rows k (r.drop n) with
      | none => none
      | some (xs, t) => some ((p :: r.take n) :: xs, t)) = some (c, t) := h
    by_cases q : r.length < n
    · rw [if_pos q] at h
      cases h
    · rw [if_neg q] at h
      cases e2 : PyFlat.rows k (r.drop n) with
      | none => rw [e2] at h; cases h
      | some v =>
        obtain ⟨xs, t'⟩ := v
        rw [e2] at h
        cases h
        exact ⟨n, k, xs, rfl, by omega, e2, rfl⟩
theorem calls_some {shape : Int → Option (Nat × Nat)} {f : Nat} {p : Int} {r : List Int} {cs : List (List (List Int))} (h : PyFlat.calls shape f (p :: r) = some cs) : ∃ g c t ds, f = g + 1 ∧ PyFlat.call shape (p :: r) = some (c, t) ∧ PyFlat.calls shape g t = some ds ∧ cs = c :: ds := by
  cases f with
  | zero => cases h
  | succ g =>
    have h : (match PyFlat.call shape (p :: r) with
      | none => none
      | some (c, t) => match PyFlat.calls shape g t with
        | none => none
        | some cs => some (c :: cs)) = some cs := h
    cases e : PyFlat.call shape (p :: r) with
    | none => rw [e] at h; cases h
    | some u =>
      obtain ⟨c, t⟩ := u
      rw [e] at h
      have h : (match PyFlat.calls shape g t with
        | none => none
        | some cs => some (c :: cs)) = some cs := h
      cases e2 : PyFlat.calls shape g t with
      | none => rw [e2] at h; cases h
      | some ds =>
        rw [e2] at h
        cases h
        exact ⟨g, c, t, ds, rfl, rfl, e2, rfl⟩
/-- from a place on -/
theorem drop_cons {l r : List Int} {z : Int} {e : Nat} (h : l.drop e = z :: r) : l[e]? = some z ∧ l.drop (e + 1) = r ∧ e < l.length := by
  have he : e < l.length := by
    refine Decidable.byContradiction fun q => ?_
    rw [List.drop_of_length_le (by omega)] at h
    cases h
  rw [List.drop_eq_getElem_cons he] at h
  obtain ⟨h1, h2⟩ := List.cons.inj h
  exact ⟨by rw [List.getElem?_eq_getElem he, h1], h2, he⟩
theorem cut_at {l r : List Int} {a n : Nat} (h : l.drop a = r) (hn : n ≤ r.length) (ha : a ≤ l.length) : cutV (l.map V.int) (some (a : Int)) (some ((a + n : Nat) : Int)) = (r.take n).map V.int := by
  have hl : r.length = l.length - a := by rw [← h, List.length_drop]
  unfold cutV
  rw [HT.sIx_nat, HT.sIx_nat, List.length_map, Nat.min_eq_left ha, Nat.min_eq_left (by omega), ← List.map_drop, ← List.map_take, h]
  congr 2
  omega
theorem mem_map_int {ns : List Int} {i : Nat} {z : Int} (h : ns[i]? = some z) : (ns.map V.int)[i]? = some (.int z) := by
  rw [List.getElem?_map, h]
  rfl
end MR

namespace MR
open PySem PySem.Spec PyProof.Rows L2
section
variable {P : Program} {w : World} {K : PySem.W.Frag} {mg : Str → Option Value} {base : Heap} {f : Addr} {fd : FuncData}
abbrev s_split_calls : Stmt := topS 94
theorem sc_split_calls : FnScope ["calls", "split", "place", "call", "end", "handed", "k", "start"] ["calls"] (defScope s_split_calls) := ⟨rfl, rfl, rfl, by decide +kernel, rfl, by decide +kernel, by decide +kernel⟩
/-- how many whole numbers, how many lists -/
def Counts (shape : Int → Option (Nat × Nat)) (nc lc : List Nat) : Prop := ∀ p n k, shape p = some (n, k) → 0 ≤ p ∧ nc[p.toNat]? = some n ∧ lc[p.toNat]? = some k ∧ n ≤ 1000 ∧ k ≤ 1000
abbrev natsV (l : List Nat) : List V := l.map fun n => V.int (n : Nat)
def sp_split_calls (K : PySem.W.Frag) (shape : Int → Option (Nat × Nat)) : Sp := fun vs H Q _ => ∃ (a : Addr) (ns : List Int) (fu : Nat) (raw : List (List (List Int))), vs = [.ref a] ∧ SqL K H a (ns.map V.int) ∧ ns.length ≤ 1000000 ∧
  PyFlat.calls shape fu ns = some raw ∧ ∀ H' v, Same H H' → SplitAt (nw H H') v (raw.map tripOf) → Q v H'
theorem ok_split_calls {tN tL : Addr} {nc lc : List Nat} {shape : Int → Option (Nat × Nat)} (T : Tops mg) (TT_NUMBER_COUNTS : TopT K mg "NUMBER_COUNTS" tN (natsV nc)) (TT_LIST_COUNTS : TopT K mg "LIST_COUNTS" tL (natsV lc)) (HC : Counts shape nc lc)
    (F : Fun K "split_calls" "split_calls" s_split_calls f fd) : FnOk P w K mg base CX0 1 f fd ["calls"] (sp_split_calls K shape) := by
  refine F.ok sc_split_calls (fun vs H Q E h => ?_) (fun cdv A outer s H vs Q E hr h => ⟨_, (pss_cons (ps_set (i := 1) sc_split_calls.nd rfl (Or.inl rfl) (pe_lst pa_nil))
  (pss_cons (ps_set (i := 2) sc_split_calls.nd rfl (Or.inl rfl) pe_int)
  (pss_cons (ps_while PassesOwn.never (pt_cmpR op_lt (pv 2) (pe_callB (lenK K) (by rfl) T.n_len PySem.boot_len (pa_cons (pv 0) pa_nil)) (nomark _))
   (pss_cons (ps_set (i := 3) sc_split_calls.nd rfl (Or.inl rfl) (pe_ix (ixL K) (pv 0) (pv 2) (fun _ _ => rfl)))
  (pss_cons (ps_set (i := 4) sc_split_calls.nd rfl (Or.inl rfl) (pe_op op_add (pe_op op_add (pv 2) pe_int) (pe_ix (ixT K) (pe_gt (by rfl) TT_NUMBER_COUNTS) (pv 3) (fun _ _ => rfl))))
  (pss_cons (ps_set (i := 5) sc_split_calls.nd rfl (Or.inl rfl) (pe_slice (slL K) (pv 0) (po_some (pe_op op_add (pv 2) pe_int)) (po_some (pv 4))))
  (pss_cons (ps_for PassesOwn.never rfl (pi_range1 (by rfl) T.n_range (pa_cons (pe_ix (ixT K) (pe_gt (by rfl) TT_LIST_COUNTS) (pv 3) (fun _ _ => rfl)) pa_nil)) (pg_name (i := 6) sc_split_calls.nd rfl (Or.inl rfl))
   (pss_cons (ps_set (i := 7) sc_split_calls.nd rfl (Or.inl rfl) (pe_op op_add (pv 4) pe_int))
  (pss_cons (ps_set (i := 4) sc_split_calls.nd rfl (Or.inl rfl) (pe_op op_add (pv 7) (pe_ix (ixL K) (pv 0) (pv 4) (fun _ _ => rfl))))
  (pss_one (ps_expr (pe_bm PySem.F.plainAttrs_list PySem.F.slot_list_append PySem.F.type_list_append mt_append (pv 5) (pa_cons (pe_slice (slL K) (pv 0) (po_some (pv 7)) (po_some (pv 4))) pa_nil)))))))
  (pss_cons (ps_expr (pe_bm PySem.F.plainAttrs_list PySem.F.slot_list_append PySem.F.type_list_append mt_append (pv 1) (pa_cons (pe_tup (pa_cons (pv 3) (pa_cons (pv 5) pa_nil))) pa_nil)))
  (pss_one (ps_set (i := 2) sc_split_calls.nd rfl (Or.inl rfl) (pv 4)))))))))
  (pss_one (ps_ret (pv 1)))))), ?_⟩)
  · obtain ⟨a, ns, fu, raw, rfl, _⟩ := h
    rfl
  obtain ⟨a, ns, fu, raw, rfl, ha, hl, hraw, hQ⟩ := h
  refine ⟨Nat.zero_le _, fun D hD => ?_⟩
  have s0 : Same H (upd H D (.lst [])) := Same.made1 hD
  have aD : ∀ {c o}, H c = some o → c ≠ D := fun e => ne_of_none e hD
  refine ⟨fun μ σ H' => ∃ (pl : Nat) (dn : List CallI) (rw_ : List (List (List Int))) (f2 : Nat) (acc : List V) (x3 x4 x5 x6 x7 : Option V), σ = [some (.ref a), some (.ref D), some (.int (pl : Nat)), x3, x4, x5, x6, x7] ∧ Same H H' ∧ pl ≤ ns.length ∧ PyFlat.calls shape f2 (ns.drop pl) = some rw_ ∧
    raw.map tripOf = dn ++ rw_.map tripOf ∧ H' D = some (.lst acc) ∧ ItemsA (hd D (nw H H')) acc dn ∧ dn.length ≤ pl ∧ μ = ns.length - pl, ⟨_, 0, [], raw, fu, [], _, _, _, _, _, rfl, s0, Nat.zero_le _, hraw, rfl, upd_same, ⟨rfl, fun i x c e _ => by cases e⟩, Nat.le_refl _, rfl⟩, ?_⟩
  rintro μ σ H1 ⟨pl, dn, rw_, f2, acc, x3, x4, x5, x6, x7, rfl, s1, hpl, hcalls, hmap, hD1, hitems, hdn, rfl⟩
  refine ⟨_, rfl, _, rfl, a, _, rfl, .inl ((s1.seq ha)), _, _, rfl, rfl, _, rfl, ?_⟩
  refine ite_dec (c := pl < ns.length) ?_ (fun c => ?_) fun c => ?_
  · rw [List.length_map]
    exact decide_eq_decide.mpr (by omega)
  · obtain ⟨p, r, hpr⟩ : ∃ p r, ns.drop pl = p :: r := ⟨_, _, List.drop_eq_getElem_cons c⟩
    rw [hpr] at hcalls
    obtain ⟨g, cc, t, ds, rfl, hcall, hcs, rfl⟩ := calls_some hcalls
    obtain ⟨n, k, xs, hsh, hn, hrows, rfl⟩ := call_some hcall
    obtain ⟨hp0, hnc, hlc, hn1, hk1⟩ := HC p n k hsh
    obtain ⟨e1, e2, _⟩ := drop_cons hpr
    have hrl : r.length = ns.length - (pl + 1) := by rw [← e2, List.length_drop]
    have eN : (natsV nc)[p.toNat]? = some (.int (n : Nat)) := by rw [List.getElem?_map, hnc]; rfl
    have eL : (natsV lc)[p.toNat]? = some (.int (k : Nat)) := by rw [List.getElem?_map, hlc]; rfl
    refine ⟨_, fun σ' H' w' => w', ?_⟩
    refine ⟨_, rfl, _, rfl, a, _, _, _, rfl, rfl, (s1.seq ha), at_of (j := pl) rfl (mem_map_int e1), ?_⟩
    refine ⟨_, rfl, _, _, rfl, rfl, _, rfl, tN, _, _, _, rfl, rfl, TT_NUMBER_COUNTS.t _, atI_of hp0 eN, _, _, rfl, rfl, ?_⟩
    refine ⟨_, rfl, _, rfl, _, _, rfl, rfl, _, rfl, _, rfl, _, rfl, a, _, rfl, (s1.seq ha), fun q hq => ?_⟩
    have ecut : cutV (ns.map V.int) (some ((pl : Int) + 1)) (some ((pl : Int) + 1 + (n : Nat))) = (r.take n).map V.int := by
      rw [show (pl : Int) + 1 + (n : Nat) = ((pl + 1 + n : Nat) : Int) from by omega, show (pl : Int) + 1 = ((pl + 1 : Nat) : Int) from by omega]
      exact cut_at e2 hn (by omega)
    rw [ecut]
    have qD : q ≠ D := fun z => by rw [z, hD1] at hq; cases hq
    generalize hH2 : upd H1 q (.lst ((r.take n).map V.int)) = H2
    have s2 : Same H1 H2 := by rw [← hH2]; exact Same.made1 hq
    have hq2 : H2 q = some (.lst ((r.take n).map V.int)) := by rw [← hH2]; exact upd_same
    refine ⟨_, rfl, tL, _, _, _, rfl, rfl, TT_LIST_COUNTS.t _, atI_of hp0 eL, ?_⟩
    have aq : ∀ {H'}, KpB q H2 H' → SqL K H' a (ns.map V.int) := fun {H'} k' => Same.seq (fun c o e => k' c o (s2 c o e) (ne_of_none e hq)) (s1.seq ha)
    have ek : ((k : Nat) : Int).toNat = k := rfl
    refine ⟨((k : Nat) : Int), rfl, by omega, by omega, for_range (lo := 0) (n := k) (fun j σ H' => ∃ (e : Nat) (z : Int) (rs : List Addr) (ls rest : List (List Int)) (y6 y7 : Option V), σ = [some (.ref a), some (.ref D), some (.int (pl : Nat)), some (.int p), some (.int z), some (.ref q), y6, y7] ∧ z = (e : Nat) ∧
      KpB q H2 H' ∧ H' q = some (.lst ((r.take n).map V.int ++ rs.map V.ref)) ∧ ListsAt (nw H2 H') rs ls ∧ ls.length = j ∧ xs = ls ++ rest ∧ PyFlat.rows (k - j) (ns.drop e) = some (rest, t) ∧ e ≤ ns.length ∧ pl < e)
      ⟨pl + 1 + n, _, [], [], xs, _, _, rfl, by omega, (fun _ _ e _ => e), by rw [hq2]; simp, ⟨rfl, fun i r l e _ => by cases e⟩, rfl, rfl, ?_, by omega, by omega⟩ ?_ ?_⟩
    · rw [← hrows, ← e2, List.drop_drop]
      rfl
    · rintro j σ H3 hj ⟨e, z, rs, ls, rest, y6, y7, rfl, rfl, k3, hq3, hls, hlj, hxs, hrw, hel, hple⟩
      obtain ⟨j2, hj2⟩ : ∃ j2, k - j = j2 + 1 := ⟨k - j - 1, by omega⟩
      rw [hj2] at hrw
      obtain ⟨n2, r2, ys, hr2, hn2, hrows2, rfl⟩ := rows_some hrw
      obtain ⟨f1, f2', f3⟩ := drop_cons hr2
      have hr2l : r2.length = ns.length - (e + 1) := by rw [← f2', List.length_drop]
      refine ⟨_, rfl, _, _, rfl, rfl, ?_⟩
      refine ⟨_, rfl, _, rfl, _, rfl, a, _, _, _, rfl, rfl, (aq k3), at_of (j := e) rfl (mem_map_int f1), _, _, rfl, rfl, ?_⟩
      refine ⟨_, rfl, .inl ⟨rfl, _, SqL.of hq3⟩, _, rfl, _, rfl, _, rfl, _, rfl, _, rfl, a, _, rfl, (aq k3), fun u hu => ?_⟩
      have ecut2 : cutV (ns.map V.int) (some ((e : Int) + 1)) (some ((e : Int) + 1 + (n2 : Nat))) = (r2.take n2).map V.int := by
        rw [show (e : Int) + 1 + (n2 : Nat) = ((e + 1 + n2 : Nat) : Int) from by omega, show (e : Int) + 1 = ((e + 1 : Nat) : Int) from by omega]
        exact cut_at f2' hn2 (by omega)
      rw [ecut2]
      have uq : u ≠ q := fun z => by rw [z, hq3] at hu; cases hu
      refine ⟨q, _, _, rfl, rfl, (upd_ne (Ne.symm uq)).trans hq3, ?_, ?_⟩
      · rw [sizeLine_eq, List.length_append, List.length_map, List.length_map, hls.1, List.length_take]
        omega
      generalize hH4 : upd (upd H3 u (.lst ((r2.take n2).map V.int))) q (.lst ((r.take n).map V.int ++ rs.map V.ref ++ [.ref u])) = H4
      have k34 : KpB q H3 H4 := fun c o ec nc => by
        rw [← hH4, upd_ne nc, upd_ne (ne_of_none ec hu)]
        exact ec
      have hq4 : H4 q = some (.lst ((r.take n).map V.int ++ rs.map V.ref ++ [.ref u])) := by rw [← hH4]; exact upd_same
      have hu4 : H4 u = some (.lst ((r2.take n2).map V.int)) := by rw [← hH4, upd_ne uq, upd_same]
      have hu2 : H2 u = none := by
        cases eu : H2 u with
        | none => rfl
        | some o => rw [k3 _ _ eu uq] at hu; cases hu
      have up : Same (nw H2 H3) (nw H2 H4) := fun c o ec => nw_of (nw_some ec).1 (k34 _ _ (nw_some ec).2 fun z => by rw [z] at ec; have := (nw_some ec).1; rw [hq2] at this; cases this)
      refine ⟨e + 1 + n2, _, rs ++ [u], ls ++ [r2.take n2], ys, _, _, rfl, by omega, k3.trans k34, ?_, (hls.same up).snoc (nw_of hu2 hu4), by rw [List.length_append, hlj]; rfl, by rw [hxs]; simp, ?_, by omega, by omega⟩
      · rw [hq4, List.map_append, List.append_assoc]
        rfl
      · rw [← List.drop_drop, f2', show k - (j + 1) = j2 from by omega]
        exact hrows2
    · rintro σ H3 ⟨e, z, rs, ls, rest, y6, y7, rfl, rfl, k3, hq3, hls, hlj, hxs, hrw, hel, hple⟩
      rw [Nat.sub_self] at hrw
      have hrw : some ([], ns.drop e) = some (rest, t) := hrw
      cases hrw
      rw [List.append_nil] at hxs
      subst hxs
      have hD3 := k3 _ _ (s2 _ _ hD1) (Ne.symm qD)
      have hal : acc.length = dn.length := hitems.1
      refine ⟨_, rfl, .inl ⟨rfl, _, SqL.of hD3⟩, _, rfl, _, rfl, by show 2 ≤ sizeLine; decide, fun u hu => ?_⟩
      have uD : u ≠ D := fun z => by rw [z, hD3] at hu; cases hu
      refine ⟨D, acc, _, rfl, rfl, (upd_ne (Ne.symm uD)).trans hD3, by rw [sizeLine_eq]; omega, ?_⟩
      generalize hH4 : upd (upd H3 u (.tup [.int p, .ref q])) D (.lst (acc ++ [.ref u])) = H4
      have k34 : KpB D H3 H4 := fun c o ec nc => by
        rw [← hH4, upd_ne nc, upd_ne (ne_of_none ec hu)]
        exact ec
      have hD4 : H4 D = some (.lst (acc ++ [.ref u])) := by rw [← hH4]; exact upd_same
      have hu4 : H4 u = some (.tup [.int p, .ref q]) := by rw [← hH4, upd_ne uD, upd_same]
      -- from the turn's start: all but D and what is new
      have k14 : KpB D H1 H4 := fun c o ec nc => k34 _ _ (k3 _ _ (s2 _ _ ec) (ne_of_none ec hq)) nc
      have s04 : Same H H4 := fun c o ec => k14 c o (s1 _ _ ec) (aD ec)
      have fq : H q = none := s1.free hq
      have fu3 : H u = none := by
        cases eu : H u with
        | none => rfl
        | some o => rw [k3 _ _ (s2 _ _ (s1 _ _ eu)) (ne_of_none (s1 _ _ eu) hq)] at hu; cases hu
      have up : Same (hd D (nw H H1)) (hd D (nw H H4)) := fun c o ec => hd_of (hd_ne ec).1 (nw_of (nw_some (hd_ne ec).2).1 (k14 c o (nw_some (hd_ne ec).2).2 (hd_ne ec).1))
      have uq : u ≠ q := fun z => by rw [z, hq3] at hu; cases hu
      have ups : Same (nw H2 H3) (hd D (nw H H4)) := fun c o ec => by
        have c2 := (nw_some ec).1
        have cD : c ≠ D := fun z => by rw [z, s2 _ _ hD1] at c2; cases c2
        have cH : H c = none := by
          cases eu : H c with
          | none => rfl
          | some o => rw [s2 _ _ (s1 _ _ eu)] at c2; cases c2
        exact hd_of cD (nw_of cH (k34 _ _ (nw_some ec).2 cD))
      refine ⟨_, rfl, ns.length - e, by omega, e, dn ++ [tripOf ((p :: r.take n) :: xs)], ds, g, _, _, _, _, _, _, rfl, s04, hel, hcs, ?_, hD4, ?_, by rw [List.length_append]; show dn.length + 1 ≤ e; omega, rfl⟩
      · rw [hmap]
        simp
      · refine (hitems.same up).snoc ⟨u, .ref q, rfl, hd_of uD (nw_of fu3 hu4), q, rs, rfl, hd_of qD (nw_of fq (k34 _ _ hq3 qD)), hls.same ups⟩
  · have e0 : pl = ns.length := by omega
    rw [e0, List.drop_of_length_le (Nat.le_refl _)] at hcalls
    have er : rw_ = [] := by
      cases f2 with
      | zero => exact (Option.some.inj hcalls).symm
      | succ f2 => exact (Option.some.inj hcalls).symm
    subst er
    refine ⟨_, rfl, hQ _ _ s1 ⟨D, acc, rfl, nw_of hD hD1, ?_⟩⟩
    rw [hmap, List.map_nil, List.append_nil]
    exact hitems.same hd_in
end
end MR

/-! The frame of a list: what is evaluated without it leaves it alone. -/
namespace MR
open PySem PySem.Spec PyProof.Rows L2
section
variable {X : Cx} {pins : List (Addr × Obj)} {σ : L2.St} {H H' : Hp} {s s' : Shared} {D : Addr} {xs : List V}
theorem objok_to {P : Program} {w : World} {H H' : Hp} {h : Heap} {a : Addr} {o : HO} (x : ObjOk P w H h a o) (ho : ∀ b y, H b = some (.own y) → H' b = some (.own y)) (ht : ∀ b xs, H b = some (.tup xs) → H' b = some (.tup xs)) : ObjOk P w H' h a o :=
  ObjOk.stay x (fun b u _ e => e) (fun b e => ho b _ e) ht
/-- a list set aside -/
theorem Inv.aside (I : Inv X pins σ H s) (hD : H D = some (.lst xs)) : ∃ ob, s.heap.get? D = some ob ∧ Inv X (pins ++ [(D, ob)]) σ (hd D H) s := by
  obtain ⟨hz, its, n, hv, ho⟩ := I.hok D _ hD
  have low : ∀ b, H b = none → hd D H b = none := fun b e => by
    unfold hd
    by_cases c : b = D
    · rw [if_pos c]
    · rw [if_neg c]
      exact e
  refine ⟨_, ho, I.ok, I.os, I.bare, ⟨I.base.keep, I.base.slot, fun b o e n h => low b (I.base.free b o e n h), I.base.there, fun b ys e => ?_, fun b o u e => ?_, fun b ps e => ?_⟩, I.loc, I.cell, low _ I.free, fun x c e => low _ (I.freeC x c e), fun p hp => ?_, fun b o e => ?_, I.len⟩
  · have z := I.base.tups b ys e
    exact hd_of (ne_of z hD fun q => nomatch q) z
  · have z := I.base.frzs b o u e
    exact hd_of (ne_of z hD fun q => nomatch q) z
  · obtain ⟨more, z⟩ := I.base.tbls b ps e
    exact ⟨more, hd_of (ne_of z hD fun q => nomatch q) z⟩
  · rw [← List.append_assoc] at hp
    rcases List.mem_append.mp hp with hp | hp
    · obtain ⟨h1, h2, h3, h4, h5⟩ := I.pin p hp
      exact ⟨h1, low _ h2, h3, h4, h5⟩
    · rw [List.mem_singleton.mp hp]
      refine ⟨ho, ?_, ne_of_none hD I.free, fun hb => ?_, fun v q => nomatch q⟩
      · show hd D H D = none
        unfold hd
        rw [if_pos rfl]
      · obtain ⟨_, o, e, _⟩ := I.ok.funs.mem hb
        have := I.base.free D o e (I.ok.frf D hb) fun z => I.ok.exfs D z hb
        rw [hD] at this
        cases this
  · obtain ⟨nb, e⟩ := hd_ne e
    exact objok_to (I.hok b o e) (fun c y q => hd_of (ne_of q hD fun q => nomatch q) q) fun c ys q => hd_of (ne_of q hD fun q => nomatch q) q
/-- and taken up again -/
theorem Inv.again {ob : Obj} (I : Inv X pins σ H s) (hD : H D = some (.lst xs)) (ho : s.heap.get? D = some ob) (J : Inv X (pins ++ [(D, ob)]) σ H' s') : H' D = none ∧ Inv X pins σ (upd H' D (.lst xs)) s' := by
  obtain ⟨hz, its, n, hv, ho2⟩ := I.hok D _ hD
  rw [ho] at ho2
  cases ho2
  obtain ⟨p1, p2, p3, p4, p5⟩ := J.pin (D, _) (List.mem_append_right _ (List.mem_append_right _ (List.mem_singleton.mpr rfl)))
  have p1 : s'.heap.get? D = some { cls := .type "list", data := .seq its.toArray n } := p1
  have p2 : H' D = none := p2
  have p3 : D ≠ X.env.locals := p3
  have up : ∀ {c o}, H' c = some o → upd H' D (.lst xs) c = some o := fun {c o} e => by
    rw [upd_ne (ne_of_none e p2)]
    exact e
  have lowU : ∀ {c}, c ≠ D → H' c = none → upd H' D (.lst xs) c = none := fun {c} n e => by
    rw [upd_ne n]
    exact e
  have J0 := J.unpinned (pins := pins) (pl := [(D, _)])
  refine ⟨p2, J0.ok, J0.os, J0.bare, ⟨J0.base.keep, J0.base.slot, fun b o e n h => ?_, J0.base.there, fun b ys e => up (J0.base.tups b ys e), fun b o u e => up (J0.base.frzs b o u e), fun b ps e => ?_⟩, J0.loc, J0.cell, lowU (Ne.symm p3) J0.free, fun x c e => lowU ?_ (J0.freeC x c e), fun p hp => ?_, fun b o e => ?_, J0.len⟩
  · by_cases c : b = D
    · have := I.base.free b o e n h
      rw [c, hD] at this
      cases this
    · exact lowU c (J0.base.free b o e n h)
  · obtain ⟨more, z⟩ := J0.base.tbls b ps e
    exact ⟨more, up z⟩
  · intro z
    obtain ⟨v, o', e', d⟩ := J.cell x c e
    rw [z, p1] at e'
    cases e'
    cases d
  · obtain ⟨h1, h2, h3, h4, h5⟩ := I.pin p hp
    obtain ⟨j1, j2, j3, j4, j5⟩ := J0.pin p hp
    exact ⟨j1, lowU (Ne.symm (ne_of_none hD h2)) j2, j3, j4, j5⟩
  · by_cases c : b = D
    · rw [c, upd_same] at e
      cases e
      rw [c]
      exact ⟨hz, its, n, hv, p1⟩
    · rw [upd_ne c] at e
      exact objok_to (J0.hok b o e) (fun c y q => up q) fun c ys q => up q
def tFr (t : TE) : TE := fun σ H Q => ∃ D xs, H D = some (.lst xs) ∧ t σ (hd D H) fun v H' => H' D = none → Q v (upd H' D (.lst xs))
theorem pe_fr {e : Expr} {t : TE} (he : PE X e t) : PE X e (tFr t) := by
  refine ⟨fun pins s σ H Q I h => ?_⟩
  obtain ⟨D, xs, hD, h⟩ := h
  obtain ⟨ob, ho, J⟩ := Inv.aside I hD
  refine thn (he.run (pins ++ [(D, ob)]) s σ (hd D H) _ J h) fun u s1 hu => ?_
  obtain ⟨v, H1, J1, r, q⟩ := hu
  obtain ⟨n1, I1⟩ := Inv.again I hD ho J1
  exact ⟨v, _, I1, r, q n1⟩
end
end MR

namespace MR
open PySem PySem.Spec PyProof.Rows L2
/-- the object played -/
def playC : Vatdfb.State → List Vatdfb.Call → List (List Int)
  | _, [] => []
  | s, c :: r => (Vatdfb.step s c).2 :: playC (Vatdfb.step s c).1 r
/-- the numbers tell these calls -/
def Means (raw : List (List (List Int))) (cs : List Vatdfb.Call) : Prop := raw.length = cs.length ∧ ∀ (i : Nat) r c, raw[i]? = some r → cs[i]? = some c → ToldC (tripOf r).1 (tripOf r).2.1 (tripOf r).2.2 c ∧ ∀ l ∈ (tripOf r).2.2, l.length ≤ 1000
theorem told_cons (a : List Int) (l : List (List Int)) : PyFlat.told (a :: l) = (a.length : Int) :: (a ++ PyFlat.told l) := by
  unfold PyFlat.told
  rw [List.flatMap_cons]
  rfl
section
variable {P : Program} {w : World} {K : PySem.W.Frag} {mg : Str → Option Value} {base : Heap} {f : Addr} {fd : FuncData} {C CE CT CL CM CW : Addr}
abbrev s_answers : Stmt := topS 95
theorem sc_answers : FnScope ["calls", "both", "told", "call", "handed", "answer"] ["calls"] (defScope s_answers) := ⟨rfl, rfl, rfl, by decide +kernel, rfl, by decide +kernel, by decide +kernel⟩
def sp_answers (K : PySem.W.Frag) (shape : Int → Option (Nat × Nat)) : Sp := fun vs H Q _ => ∃ (a : Addr) (ns : List Int) (fu : Nat) (raw : List (List (List Int))) (cs : List Vatdfb.Call), vs = [.ref a] ∧ SqL K H a (ns.map V.int) ∧ ns.length ≤ 1000000 ∧
  PyFlat.calls shape fu ns = some raw ∧ raw.length ≤ 1000 ∧ Means raw cs ∧ (PyFlat.told (playC Vatdfb.start cs)).length ≤ 10000000 ∧ ∀ H' q, H' q = some (.lst ((PyFlat.told (playC Vatdfb.start cs)).map V.int)) → Q (.ref q) H'
theorem ok_answers {shape : Int → Option (Nat × Nat)} (T : Tops mg) (C_TwoTables : MakX P w K mg base CX0 1 "TwoTables" CW (sp_tw_init CW)) (C_split_calls : CalX P w K mg base CX0 1 "split_calls" (sp_split_calls K shape))
    (C_answer_or_refusal : CalX P w K mg base CX0 9 "answer_or_refusal" (sp_aor K CT CL CM CW)) (F : Fun K "answers" "answers" s_answers f fd) : FnOk P w K mg base CX0 10 f fd ["calls"] (sp_answers K shape) := by
  refine F.ok sc_answers (fun vs H Q E h => ?_) (fun cdv A outer s H vs Q E hr h => ⟨_, (pss_cons (ps_set (i := 1) sc_answers.nd rfl (Or.inl rfl) (pe_n0 C_TwoTables hr (by decide) (by rfl) pass0))
  (pss_cons (ps_set (i := 2) sc_answers.nd rfl (Or.inl rfl) (pe_lst pa_nil))
  (pss_cons (ps_for PassesOwn.never rfl (lstK K (pe_k C_split_calls hr (by decide) (by rfl) (fun _ => quiet) (pa_cons (pv 0) pa_nil))) (tupK K (n := 2) (pgs_cons (pg_name (i := 3) sc_answers.nd rfl (Or.inl rfl)) (pgs_cons (pg_name (i := 4) sc_answers.nd rfl (Or.inl rfl)) pgs_nil)))
   (pss_cons (ps_set (i := 5) sc_answers.nd rfl (Or.inl rfl) (pe_fr (pe_k C_answer_or_refusal hr (by decide) (by rfl) (fun _ => quiet) (pa_cons (pv 1) (pa_cons (pv 3) (pa_cons (pv 4) pa_nil))))))
  (pss_cons (ps_expr (pe_bm PySem.F.plainAttrs_list PySem.F.slot_list_append PySem.F.type_list_append mt_append (pv 2) (pa_cons (pe_callB (lenK K) (by rfl) T.n_len PySem.boot_len (pa_cons (pv 5) pa_nil)) pa_nil)))
  (pss_one (ps_expr (pe_bm PySem.F.plainAttrs_list PySem.F.slot_list_extend PySem.F.type_list_extend mt_extend (pv 2) (pa_cons (pv 5) pa_nil)))))))
  (pss_one (ps_ret (pv 2)))))), ?_⟩)
  · obtain ⟨a, ns, fu, raw, cs, rfl, _⟩ := h
    rfl
  obtain ⟨a, ns, fu, raw, cs, rfl, ha, hl, hraw, hrl, hM, hlen, hQ⟩ := h
  intro x dx hx hdx hne
  generalize hH1 : upd (upd H dx (.own x)) x (.ins CW dx []) = H1
  have s1 : Same H H1 := fun c e q => by
    rw [← hH1, upd_ne (ne_of_none q hx), upd_ne (ne_of_none q hdx)]
    exact q
  refine ⟨x, dx, rfl, by rw [← hH1]; exact upd_same, rfl, ?_⟩
  generalize hH2 : upd H1 x (.ins CW dx (twF .non)) = H2
  have s2 : Same H H2 := fun c e q => by
    rw [← hH2, upd_ne (ne_of_none q hx)]
    exact s1 c e q
  have hx2 : H2 x = some (.ins CW dx (twF .non)) := by rw [← hH2]; exact upd_same
  refine ⟨Nat.zero_le _, fun D hD => ?_⟩
  generalize hH3 : upd H2 D (.lst []) = H3
  have s3 : Same H2 H3 := by rw [← hH3]; exact Same.made1 hD
  have hD3 : H3 D = some (.lst []) := by rw [← hH3]; exact upd_same
  have hx3 := s3 _ _ hx2
  have xD : x ≠ D := ne_of_none hx2 hD
  refine ⟨_, rfl, a, ns, fu, raw, rfl, (s2.trans s3).seq ha, hl, hraw, fun H4 v s4 hsp => ?_⟩
  obtain ⟨p, xs, rfl, hp, hit⟩ := hsp
  have hin : Same (nw H3 H4) H4 := nw_in
  have hxl : xs.length = raw.length := by rw [hit.1, List.length_map]
  have gone : ∀ {c o}, nw H3 H4 c = some o → c ≠ x ∧ c ≠ D := fun {c o} e => by
    have := (nw_some e).1
    exact ⟨fun z => (by rw [z, hx3] at this; cases this), fun z => (by rw [z, hD3] at this; cases this)⟩
  have keep : ∀ {H'}, Kp (fun c => c = x ∨ c = D) H4 H' → Same (nw H3 H4) H' := fun {H'} k c o e => k c o (nw_in _ _ e) fun z => z.elim (gone e).1 (gone e).2
  have hD4 := s4 _ _ hD3
  have hx4 := s4 _ _ hx3
  have hcl : raw.length = cs.length := hM.1
  have xD' : D ≠ x := Ne.symm xD
  refine ⟨p, rfl, ⟨xs, SqL.of (nw_in _ _ hp)⟩, for_list (K := K) (a := p) (xs := xs) (fun n σ H' => ∃ (st : Vatdfb.State) (t : List Int) (y3 y4 y5 : Option V), σ = [some (.ref a), some (.ref x), some (.ref D), y3, y4, y5] ∧ Kp (fun c => c = x ∨ c = D) H4 H' ∧ StAt K CT CL CM CW (hd D H') x st ∧ H' D = some (.lst (t.map V.int)) ∧
    PyFlat.told (playC Vatdfb.start cs) = t ++ PyFlat.told (playC st (cs.drop n)))
    ⟨Vatdfb.start, [], _, _, _, rfl, (fun _ _ e _ => e), ⟨dx, hd_of xD hx4⟩, hD4, rfl⟩ (fun n σ H' _ ⟨_, _, _, _, _, _, k, _⟩ => SqL.of (keep k _ _ hp)) ?_ ?_⟩
  · rintro n y σ H5 hn ⟨st, t, y3, y4, y5, rfl, k5, hst, hD5, hout⟩
    obtain ⟨hn1, _⟩ := List.getElem?_eq_some_iff.mp hn
    have hnr : n < raw.length := by omega
    have hnc : n < cs.length := by omega
    have er : (raw.map tripOf)[n]? = some (tripOf raw[n]) := by rw [List.getElem?_map, List.getElem?_eq_getElem hnr]; rfl
    obtain ⟨tt, hv, rfl, htt, hhand⟩ := hit.2 n y _ hn er
    have htt := keep k5 _ _ htt
    have inD : Same (nw H3 H4) (hd D H5) := fun c o e => hd_of (gone e).2 (keep k5 _ _ e)
    have hhand := hhand.same inD
    obtain ⟨hmean, hlens⟩ := hM.2 n _ _ (List.getElem?_eq_getElem hnr) (List.getElem?_eq_getElem hnc)
    rw [List.drop_eq_getElem_cons hnc] at hout
    have hout : PyFlat.told (playC Vatdfb.start cs) = t ++ (((Vatdfb.step st cs[n]).2.length : Int) :: ((Vatdfb.step st cs[n]).2 ++ PyFlat.told (playC (Vatdfb.step st cs[n]).1 (cs.drop (n + 1))))) := by
      rw [hout]
      show _ ++ PyFlat.told ((Vatdfb.step st cs[n]).2 :: playC (Vatdfb.step st cs[n]).1 (cs.drop (n + 1))) = _
      rw [told_cons]
    have hlens2 := congrArg List.length hout
    rw [List.length_append, List.length_cons, List.length_append] at hlens2
    refine ⟨tt, _, rfl, .inl (.inl htt), rfl, _, _, rfl, _, _, rfl, rfl, ?_⟩
    refine ⟨D, _, hD5, _, rfl, _, rfl, _, rfl, x, _, hv, _, _, cs[n], st, rfl, hhand, hmean, hlens, hst, fun H6 q k6 t6 hst6 nq hq nD6 => ?_⟩
    have qD : q ≠ D := ne_of_none hq nD6
    have hD6 : upd H6 D (.lst (t.map V.int)) D = some (.lst (t.map V.int)) := upd_same
    refine ⟨_, rfl, .inl ⟨rfl, _, SqL.of hD6⟩, _, rfl, q, _, rfl, .inl (SqL.of ((upd_ne qD).trans hq)), D, _, _, rfl, rfl, hD6, by rw [sizeLine_eq, List.length_map]; omega, ?_⟩
    rw [List.length_map, upd_upd]
    refine ⟨_, rfl, .inl ⟨rfl, _, SqL.of upd_same⟩, _, rfl, D, q, _, _, rfl, rfl, upd_same, (upd_ne qD).trans hq, by rw [sizeLine_eq, List.length_append, List.length_map, List.length_map]; show t.length + 1 + _ ≤ _; omega, ?_⟩
    rw [upd_upd]
    refine ⟨(Vatdfb.step st cs[n]).1, t ++ (((Vatdfb.step st cs[n]).2.length : Int) :: (Vatdfb.step st cs[n]).2), _, _, _, rfl, ?_, ?_, ?_, ?_⟩
    · intro c o e nc
      have c1 : c ≠ x := fun z => nc (.inl z)
      have c2 : c ≠ D := fun z => nc (.inr z)
      rw [upd_ne c2]
      exact k6 _ _ (hd_of c2 (k5 _ _ e nc)) c1
    · refine hst6.same fun c o e => ?_
      have cD : c ≠ D := ne_of_none e nD6
      exact hd_of cD ((upd_ne cD).trans e)
    · rw [upd_same, List.map_append, List.append_assoc]
      rfl
    · rw [hout]
      simp
  · rintro σ H5 ⟨st, t, y3, y4, y5, rfl, k5, hst, hD5, hout⟩
    rw [List.drop_of_length_le (by omega)] at hout
    have hout : PyFlat.told (playC Vatdfb.start cs) = t := by rw [hout]; show t ++ PyFlat.told [] = t; exact List.append_nil t
    refine ⟨_, rfl, hQ _ D ?_⟩
    rw [hout]
    exact hD5
end
end MR

/-! What is asked: numbers that tell calls. -/
namespace MR
theorem whole_id (c : List (List Int)) : PyVatdfb.whole c = c := by
  unfold PyVatdfb.whole
  split <;> rfl
theorem asked_one (r : List (List Int)) (h : VatdfbNeutral.asked1 r = true) : ∃ c, VatdfbNeutral.callOf r = some c ∧ ToldC (tripOf r).1 (tripOf r).2.1 (tripOf r).2.2 c ∧ ∀ l ∈ (tripOf r).2.2, l.length ≤ 1000 := by
  have lim : ∀ {l : List Int} {n : Nat}, n ≤ 1000 → VatdfbNeutral.allWhole l n = true → l.length ≤ 1000 := fun {l n} hn e => by
    unfold VatdfbNeutral.allWhole at e
    rw [Bool.and_eq_true] at e
    have := of_decide_eq_true e.2
    omega
  unfold VatdfbNeutral.asked1 at h
  split at h
  · rename_i a b
    rw [Bool.and_eq_true] at h
    refine ⟨.tables a b, rfl, ⟨rfl, rfl, rfl⟩, fun l hl => ?_⟩
    have hl : l ∈ [a, b] := hl
    rcases List.mem_cons.mp hl with rfl | hl
    · exact lim (by decide) h.1
    · rw [List.mem_singleton.mp hl]
      exact lim (by decide) h.2
  · rename_i a
    refine ⟨.cols a, rfl, ⟨rfl, rfl, rfl⟩, fun l hl => ?_⟩
    rw [List.mem_singleton.mp (show l ∈ [a] from hl)]
    exact lim (by decide) h
  · exact ⟨.least, rfl, ⟨rfl, rfl, rfl⟩, fun l hl => nomatch hl⟩
  · rename_i k
    exact ⟨.kth k, rfl, ⟨rfl, rfl, rfl⟩, fun l hl => nomatch hl⟩
  · rename_i a
    refine ⟨.cost a, rfl, ⟨rfl, rfl, rfl⟩, fun l hl => ?_⟩
    rw [List.mem_singleton.mp (show l ∈ [a] from hl)]
    exact lim (by decide) h
  · rename_i i j
    exact ⟨.pair i j, rfl, ⟨rfl, rfl, rfl⟩, fun l hl => nomatch hl⟩
  · exact ⟨.surely, rfl, ⟨rfl, rfl, rfl⟩, fun l hl => nomatch hl⟩
  · exact ⟨.mayBe, rfl, ⟨rfl, rfl, rfl⟩, fun l hl => nomatch hl⟩
  · exact ⟨.free, rfl, ⟨rfl, rfl, rfl⟩, fun l hl => nomatch hl⟩
  · rename_i a
    refine ⟨.keyed a, rfl, ⟨rfl, rfl, rfl⟩, fun l hl => ?_⟩
    rw [List.mem_singleton.mp (show l ∈ [a] from hl)]
    exact lim (by decide) h
  · exact ⟨.patch, rfl, ⟨rfl, rfl, rfl⟩, fun l hl => nomatch hl⟩
  · rename_i a
    refine ⟨.rank a, rfl, ⟨rfl, rfl, rfl⟩, fun l hl => ?_⟩
    rw [List.mem_singleton.mp (show l ∈ [a] from hl)]
    exact lim (by decide) h
  · cases h
def callG (r : List (List Int)) : Vatdfb.Call := (VatdfbNeutral.callOf r).getD .least
theorem played_eq : ∀ (raw : List (List (List Int))) (s : Vatdfb.State), (∀ r ∈ raw, ∃ c, VatdfbNeutral.callOf r = some c) → PyFlat.played VatdfbNeutral.step s (raw.map PyVatdfb.whole) = playC s (raw.map callG)
  | [], _, _ => rfl
  | r :: raw, s, h => by
    obtain ⟨c, hc⟩ := h r List.mem_cons_self
    have e1 : VatdfbNeutral.step s (PyVatdfb.whole r) = Vatdfb.step s c := by
      rw [whole_id]
      show (match VatdfbNeutral.callOf r with | some k => Vatdfb.step s k | none => (s, [-99])) = _
      rw [hc]
    have e2 : callG r = c := by
      show (VatdfbNeutral.callOf r).getD .least = c
      rw [hc]
      rfl
    show (VatdfbNeutral.step s (PyVatdfb.whole r)).2 :: PyFlat.played VatdfbNeutral.step (VatdfbNeutral.step s (PyVatdfb.whole r)).1 (raw.map PyVatdfb.whole) = (Vatdfb.step s (callG r)).2 :: playC (Vatdfb.step s (callG r)).1 (raw.map callG)
    rw [e1, e2, played_eq raw _ fun q hq => h q (List.mem_cons_of_mem _ hq)]
theorem asked_means (l : List Int) (h : PyVatdfb.answers_asked l = true) : ∃ raw cs, PyFlat.calls PyVatdfb.shape l.length l = some raw ∧ raw.length ≤ 1000 ∧ Means raw cs ∧ PyVatdfb.answers l = PyFlat.told (playC Vatdfb.start cs) ∧ (PyFlat.told (playC Vatdfb.start cs)).length ≤ 10000000 := by
  have h : (match PyFlat.calls PyVatdfb.shape l.length l with
    | none => false
    | some raw => !raw.isEmpty && PyFlat.atMost 40 raw && PyInside.calls PyVatdfb.bound raw && VatdfbNeutral.asked (raw.map PyVatdfb.whole) && PyFlat.short 10000000 (PyVatdfb.answers l)) = true := h
  cases e : PyFlat.calls PyVatdfb.shape l.length l with
  | none => rw [e] at h; cases h
  | some raw =>
    rw [e] at h
    have h : (!raw.isEmpty && PyFlat.atMost 40 raw && PyInside.calls PyVatdfb.bound raw && VatdfbNeutral.asked (raw.map PyVatdfb.whole) && PyFlat.short 10000000 (PyVatdfb.answers l)) = true := h
    rw [Bool.and_eq_true, Bool.and_eq_true, Bool.and_eq_true, Bool.and_eq_true] at h
    obtain ⟨⟨⟨⟨_, h2⟩, _⟩, h4⟩, h5⟩ := h
    have h2 : raw.length ≤ 40 := of_decide_eq_true h2
    have h5 : (PyVatdfb.answers l).length ≤ 10000000 := of_decide_eq_true h5
    have h4 : ((raw.map PyVatdfb.whole).all VatdfbNeutral.asked1 && _) = true := h4
    rw [Bool.and_eq_true, List.all_eq_true] at h4
    have one : ∀ r ∈ raw, VatdfbNeutral.asked1 r = true := fun r hr => by
      have := h4.1 _ (List.mem_map.mpr ⟨r, hr, rfl⟩)
      rwa [whole_id] at this
    have ea : PyVatdfb.answers l = PyFlat.told (playC Vatdfb.start (raw.map callG)) := by
      have e1 : PyVatdfb.calls l = some (raw.map PyVatdfb.whole) := by
        unfold PyVatdfb.calls
        rw [e]
      unfold PyVatdfb.answers
      rw [e1]
      show PyFlat.told (PyFlat.played VatdfbNeutral.step Vatdfb.start (raw.map PyVatdfb.whole)) = _
      rw [played_eq raw _ fun r hr => by obtain ⟨c, hc, _⟩ := asked_one r (one r hr); exact ⟨c, hc⟩]
    refine ⟨raw, raw.map callG, rfl, by omega, ⟨by rw [List.length_map], fun i r c e1 e2 => ?_⟩, ea, by rw [← ea]; exact h5⟩
    rw [List.getElem?_map, e1] at e2
    have e2 : callG r = c := Option.some.inj e2
    obtain ⟨c', hc, hm, hl⟩ := asked_one r (one r (List.mem_of_getElem? e1))
    have e3 : callG r = c' := by
      show (VatdfbNeutral.callOf r).getD .least = c'
      rw [hc]
      rfl
    rw [← e2, e3]
    exact ⟨hm, hl⟩
theorem shape_counts : Counts PyVatdfb.shape [0, 0, 0, 1, 0, 2, 0, 0, 0, 0, 0, 0] [2, 1, 0, 0, 1, 0, 0, 0, 0, 1, 0, 1] := by
  intro p n k h
  unfold PyVatdfb.shape at h
  repeat (split at h; · rename_i e; subst e; cases h; exact ⟨by decide, rfl, rfl, by decide, by decide⟩)
  cases h
end MR

/-! The program's top, by names. -/
namespace MR
open PySem PySem.Spec PyProof.Rows L2
section
variable {P : Program} {w : World} {K : PySem.W.Frag} {h : Heap} {mg : Str → Option Value} {base : Heap}
/-- the values of a tuple at the top -/
def tupO (K : PySem.W.Frag) (x : Str) : Option (List (Option V)) := match K.lookup (He.ga K x) with
  | some ⟨.type "tuple", _, .seq its _, _⟩ => if its.size ≤ 1000 then some (its.toList.map absV) else none
  | _ => none
theorem abs_rel {u : Value} {v : V} (h : absV u = some v) : RelV v u := by
  cases u <;> first | (cases h; exact rfl) | (cases h; exact ⟨_, rfl⟩) | cases h
theorem abs_vals : ∀ {us : List Value} {vs : List V}, us.map absV = vs.map some → Vals vs us
  | [], [], _ => .nil
  | [], _ :: _, h => by cases h
  | _ :: _, [], h => by cases h
  | u :: us, v :: vs, h => by
    obtain ⟨h1, h2⟩ := List.cons.inj h
    exact .cons (abs_rel h1) (abs_vals h2)
theorem topT_of (X : K.In h) (G : h.Ns mainGlobals mg) {x : Str} {vs : List V} (g : (He.Fa.glo x).ok K = true) (e : tupO K x = some (vs.map some)) : TopT K mg x (He.ga K x) vs := by
  refine ⟨He.glo_ok X G g, fun H => .inr ?_⟩
  unfold tupO at e
  split at e
  · rename_i od its n sl q
    by_cases c : its.size ≤ 1000
    · rw [if_pos c] at e
      exact ⟨_, its, n, q, rfl, rfl, by rw [sizeLine_eq]; omega, abs_vals (Option.some.inj e)⟩
    · rw [if_neg c] at e
      cases e
  · cases e
/-- an own error class over Exception -/
def errB (K : PySem.W.Frag) (x : Str) : Bool := PySem.W.excIn K (He.ga K x) [.type "Exception", .type "BaseException", .type "object"] "Exception.__new__" && (PySem.W.keepIn K (.ref (He.ga K x)) && (decide (PySem.W.subIn K (.ref (He.ga K x)) (.type "BaseException") = some true) && decide (PySem.W.typeIn K (.ref (He.ga K x)) = some (.type "type"))))
theorem errX_of (X : K.In h) (G : h.Ns mainGlobals mg) {x : Str} (g : (He.Fa.glo x).ok K = true) (e : errB K x = true) : ErrX K mg x (He.ga K x) := by
  obtain ⟨e1, e2⟩ := He.ba e
  obtain ⟨e2, e3⟩ := He.ba e2
  obtain ⟨e3, e4⟩ := He.ba e3
  exact ⟨He.glo_ok X G g, e1, e2, of_decide_eq_true e3, of_decide_eq_true e4⟩
/-- a def at the top, a method: where it stands, what it is -/
def fnD (p : Str × Option Str) (x q : Str) (st : Stmt) : He.FnD := ⟨p, x, q, defArgs st, defBody st, defScope st⟩
theorem fun_of {p : Str × Option Str} {x q : Str} {st : Stmt} (e : He.fnObs K p = (fnD p x q st).val) (c : (He.Fa.code p q).ok K = true) (k : PySem.W.keepIn K (.ref (He.fAd K p)) = true) : ∃ fd, Fun K x q st (He.fAd K p) fd := by
  obtain ⟨oc, od, osl, kV, doc, pm, an, cdv, ct, l, c2⟩ := He.fn_ok (d := fnD p x q st) e c
  exact ⟨_, fun_mk l c2 k⟩
theorem calX_of {CX : CXT} {k : Nat} {x : Str} {st : Stmt} {ps : List Str} {sp : Sp} (X : K.In h) (G : h.Ns mainGlobals mg) (g : (He.Fa.glo x).ok K = true) (kp : (He.Fa.keep x).ok K = true) (e : He.fnObs K (x, none) = (fnD (x, none) x x st).val) (c : (He.Fa.code (x, none) x).ok K = true)
    (b : ∀ (kV doc pm : Value) (an : Option Addr) (cdv ct : Value) (us : List Value), us.length = ps.length → bindArgs (PySem.W.fnOf x x (defArgs st) (defBody st) (defScope st) .none kV doc pm an cdv ct) ⟨us, []⟩ = pure (ps.zip us))
    (ok : ∀ {f fd}, Fun K x x st f fd → FnOk P w K mg base CX k f fd ps sp) : CalX P w K mg base CX k x sp := by
  obtain ⟨fd, F⟩ := fun_of e c kp
  exact ⟨_, fd, ps, ok F, F.binds b, He.glo_ok X G g, kp⟩
theorem metX_of {CX : CXT} {k : Nat} {C m q : Str} {st : Stmt} {ps : List Str} {sp : Sp} (cl : (He.Fa.cls C).ok K = true) (mt : (He.Fa.meth C m).ok K = true) (e : He.fnObs K (C, some m) = (fnD (C, some m) m q st).val) (c : (He.Fa.code (C, some m) q).ok K = true)
    (b : ∀ (kV doc pm : Value) (an : Option Addr) (cdv ct : Value) (us : List Value), us.length = ps.length → bindArgs (PySem.W.fnOf m q (defArgs st) (defBody st) (defScope st) .none kV doc pm an cdv ct) ⟨us, []⟩ = pure (ps.zip us))
    (ok : ∀ {f fd}, Fun K m q st f fd → FnOk P w K mg base CX k f fd ps sp) : MetX P w K mg base CX k (He.ga K C) m sp := by
  have M := He.meth_ok mt
  obtain ⟨fd, F⟩ := fun_of e c M.kp
  exact ⟨⟨_, fd, ps, ok F, F.binds b, M⟩, He.cls_ok cl⟩
theorem makX_of {CX : CXT} {k : Nat} {C q : Str} {st : Stmt} {ps : List Str} {sp : Sp} (X : K.In h) (G : h.Ns mainGlobals mg) (g : (He.Fa.glo C).ok K = true) (mk : (He.Fa.mkr C).ok K = true) (kp : PySem.W.keepIn K (.ref (He.fAd K (C, some "__init__"))) = true) (e : He.fnObs K (C, some "__init__") = (fnD (C, some "__init__") "__init__" q st).val) (c : (He.Fa.code (C, some "__init__") q).ok K = true)
    (b : ∀ (kV doc pm : Value) (an : Option Addr) (cdv ct : Value) (us : List Value), us.length = ps.length → bindArgs (PySem.W.fnOf "__init__" q (defArgs st) (defBody st) (defScope st) .none kV doc pm an cdv ct) ⟨us, []⟩ = pure (ps.zip us))
    (ok : ∀ {f fd}, Fun K "__init__" q st f fd → FnOk P w K mg base CX k f fd ps sp) : MakX P w K mg base CX k C (He.ga K C) sp := by
  obtain ⟨fd, F⟩ := fun_of e c kp
  exact ⟨⟨_, fd, ps, ok F, F.binds b, He.mkr_ok mk⟩, He.glo_ok X G g⟩
theorem entry_of {CX : CXT} {k j : Nat} {x : Str} {sp : Sp} (c : CalX P w K mg base CX j x sp) (hj : j ≤ k) (X : K.In h) (G : h.Ns mainGlobals mg) (g : (He.Fa.glo x).ok K = true) : Entry P w K mg base CX k (He.ga K x) sp := by
  obtain ⟨f, fd, ps, F, B, hm, kp⟩ := c.ex
  have e := hm.symm.trans (He.glo_ok X G g)
  cases e
  exact ⟨⟨j, fd, ps, hj, F, B⟩, kp⟩
end
end MR

/-! The program's top: what is known of it, and what follows. -/
namespace MR
open PySem PySem.Spec PyProof.Rows L2
def faL : List He.Fa := [.free "len",
  .free "range",
  .free "enumerate",
  .free "zip",
  .free "max",
  .free "sum",
  .free "set",
  .free "ord",
  .free "min",
  .free "dict",
  .free "sorted",
  .int "UNLIKE_NAMES_COST" (2),
  .int "LONE_COLUMN_COST" (4),
  .int "LONE_ROW_COST" (3),
  .int "MOST_FREE_ROWS" (8),
  .int "EMPTY" (0),
  .int "NUMBER" (1),
  .int "WORD" (2),
  .int "MOST_COLUMNS" (5),
  .int "MOST_ROWS" (12),
  .int "MOST_BYTES" (8),
  .int "BIGGEST_NUMBER" (1000000),
  .int "FIRST_BYTE" (32),
  .int "LAST_BYTE" (126),
  .cls "TableNumbers",
  .noat "TableNumbers" "numbers",
  .noat "TableNumbers" "place",
  .cls "Table",
  .noat "Table" "names",
  .noat "Table" "rows",
  .cls "LeastMatchings",
  .noat "LeastMatchings" "pair_costs",
  .noat "LeastMatchings" "old_count",
  .noat "LeastMatchings" "new_count",
  .noat "LeastMatchings" "costs",
  .noat "LeastMatchings" "ways",
  .cls "MatchedTables",
  .noat "MatchedTables" "old",
  .noat "MatchedTables" "new",
  .noat "MatchedTables" "columns",
  .noat "MatchedTables" "pair_costs",
  .noat "MatchedTables" "least",
  .cls "FreeMatchings",
  .noat "FreeMatchings" "pair_costs",
  .noat "FreeMatchings" "old_count",
  .noat "FreeMatchings" "new_count",
  .noat "FreeMatchings" "costs",
  .cls "TwoTables",
  .noat "TwoTables" "held",
  .glo "NotTable",
  .glo "NotColumnPairs",
  .glo "NotKeys",
  .glo "NotRowPairs",
  .glo "NotThere",
  .glo "TooManyRows",
  .glo "NoTables",
  .glo "ANSWERERS",
  .glo "NUMBER_COUNTS",
  .glo "LIST_COUNTS",
  .code ("is_there", none) "is_there",
  .glo "is_there",
  .keep "is_there",
  .code ("rises", none) "rises",
  .glo "rises",
  .keep "rises",
  .code ("paired", none) "paired",
  .glo "paired",
  .keep "paired",
  .code ("told_pairs", none) "told_pairs",
  .glo "told_pairs",
  .keep "told_pairs",
  .code ("rising_lengths", none) "rising_lengths",
  .glo "rising_lengths",
  .keep "rising_lengths",
  .code ("same_name_pairs", none) "same_name_pairs",
  .glo "same_name_pairs",
  .keep "same_name_pairs",
  .code ("lone_numbers", none) "lone_numbers",
  .glo "lone_numbers",
  .keep "lone_numbers",
  .code ("TableNumbers", some "is_over") "TableNumbers.is_over",
  .meth "TableNumbers" "is_over",
  .code ("is_small_letter", none) "is_small_letter",
  .glo "is_small_letter",
  .keep "is_small_letter",
  .code ("is_digit", none) "is_digit",
  .glo "is_digit",
  .keep "is_digit",
  .code ("TableNumbers", some "__init__") "TableNumbers.__init__",
  .glo "TableNumbers",
  .mkr "TableNumbers",
  .code ("Table", some "__init__") "Table.__init__",
  .glo "Table",
  .mkr "Table",
  .code ("is_empty", none) "is_empty",
  .glo "is_empty",
  .keep "is_empty",
  .code ("unlike_count", none) "unlike_count",
  .glo "unlike_count",
  .keep "unlike_count",
  .code ("LeastMatchings", some "cost_by_first") "LeastMatchings.cost_by_first",
  .meth "LeastMatchings" "cost_by_first",
  .code ("LeastMatchings", some "least_cost") "LeastMatchings.least_cost",
  .meth "LeastMatchings" "least_cost",
  .code ("LeastMatchings", some "how_many") "LeastMatchings.how_many",
  .meth "LeastMatchings" "how_many",
  .code ("LeastMatchings", some "ways_behind") "LeastMatchings.ways_behind",
  .meth "LeastMatchings" "ways_behind",
  .code ("matching_cost", none) "matching_cost",
  .glo "matching_cost",
  .keep "matching_cost",
  .code ("TwoTables", some "__init__") "TwoTables.__init__",
  .glo "TwoTables",
  .mkr "TwoTables",
  .code ("TwoTables", some "matched") "TwoTables.matched",
  .meth "TwoTables" "matched",
  .code ("FreeMatchings", some "rows_left") "FreeMatchings.rows_left",
  .meth "FreeMatchings" "rows_left",
  .code ("FreeMatchings", some "cost_with") "FreeMatchings.cost_with",
  .meth "FreeMatchings" "cost_with",
  .code ("FreeMatchings", some "least_cost") "FreeMatchings.least_cost",
  .meth "FreeMatchings" "least_cost",
  .code ("row_keys", none) "row_keys",
  .glo "row_keys",
  .keep "row_keys",
  .code ("turned", none) "turned",
  .glo "turned",
  .keep "turned",
  .code ("told_names", none) "told_names",
  .glo "told_names",
  .keep "told_names",
  .code ("told_lone_rows", none) "told_lone_rows",
  .glo "told_lone_rows",
  .keep "told_lone_rows",
  .code ("split_calls", none) "split_calls",
  .glo "split_calls",
  .keep "split_calls",
  .code ("are_whole_pairs", none) "are_whole_pairs",
  .glo "are_whole_pairs",
  .keep "are_whole_pairs",
  .code ("longest_rising", none) "longest_rising",
  .glo "longest_rising",
  .keep "longest_rising",
  .code ("first_longest_part", none) "first_longest_part",
  .glo "first_longest_part",
  .keep "first_longest_part",
  .code ("TableNumbers", some "take") "TableNumbers.take",
  .meth "TableNumbers" "take",
  .code ("filled_counts", none) "filled_counts",
  .glo "filled_counts",
  .keep "filled_counts",
  .code ("LeastMatchings", some "weigh") "LeastMatchings.weigh",
  .meth "LeastMatchings" "weigh",
  .code ("LeastMatchings", some "first_pairs") "LeastMatchings.first_pairs",
  .meth "LeastMatchings" "first_pairs",
  .code ("MatchedTables", some "cost_of_rows") "MatchedTables.cost_of_rows",
  .meth "MatchedTables" "cost_of_rows",
  .code ("FreeMatchings", some "least_from") "FreeMatchings.least_from",
  .meth "FreeMatchings" "least_from",
  .code ("FreeMatchings", some "least_new") "FreeMatchings.least_new",
  .meth "FreeMatchings" "least_new",
  .code ("read_keys", none) "read_keys",
  .glo "read_keys",
  .keep "read_keys",
  .code ("pairs_by_keys", none) "pairs_by_keys",
  .glo "pairs_by_keys",
  .keep "pairs_by_keys",
  .code ("is_told", none) "is_told",
  .glo "is_told",
  .keep "is_told",
  .code ("answer_pair", none) "answer_pair",
  .glo "answer_pair",
  .keep "answer_pair",
  .code ("read_row_pairs", none) "read_row_pairs",
  .glo "read_row_pairs",
  .keep "read_row_pairs",
  .code ("out_of_order", none) "out_of_order",
  .glo "out_of_order",
  .keep "out_of_order",
  .code ("read_column_pairs", none) "read_column_pairs",
  .glo "read_column_pairs",
  .keep "read_column_pairs",
  .code ("read_bytes", none) "read_bytes",
  .glo "read_bytes",
  .keep "read_bytes",
  .code ("all_pair_costs", none) "all_pair_costs",
  .glo "all_pair_costs",
  .keep "all_pair_costs",
  .code ("LeastMatchings", some "step_to") "LeastMatchings.step_to",
  .meth "LeastMatchings" "step_to",
  .code ("LeastMatchings", some "ways_ahead") "LeastMatchings.ways_ahead",
  .meth "LeastMatchings" "ways_ahead",
  .code ("LeastMatchings", some "__init__") "LeastMatchings.__init__",
  .glo "LeastMatchings",
  .mkr "LeastMatchings",
  .code ("beginnings", none) "beginnings",
  .glo "beginnings",
  .keep "beginnings",
  .code ("FreeMatchings", some "first_least") "FreeMatchings.first_least",
  .meth "FreeMatchings" "first_least",
  .code ("FreeMatchings", some "__init__") "FreeMatchings.__init__",
  .glo "FreeMatchings",
  .mkr "FreeMatchings",
  .code ("told_cells", none) "told_cells",
  .glo "told_cells",
  .keep "told_cells",
  .code ("answer_keyed", none) "answer_keyed",
  .glo "answer_keyed",
  .keep "answer_keyed",
  .code ("columns_cost", none) "columns_cost",
  .glo "columns_cost",
  .keep "columns_cost",
  .code ("read_name", none) "read_name",
  .glo "read_name",
  .keep "read_name",
  .code ("read_cell", none) "read_cell",
  .glo "read_cell",
  .keep "read_cell",
  .code ("LeastMatchings", some "place_of") "LeastMatchings.place_of",
  .meth "LeastMatchings" "place_of",
  .code ("LeastMatchings", some "at_place") "LeastMatchings.at_place",
  .meth "LeastMatchings" "at_place",
  .code ("maybe_pairs", none) "maybe_pairs",
  .glo "maybe_pairs",
  .keep "maybe_pairs",
  .code ("surely_pairs", none) "surely_pairs",
  .glo "surely_pairs",
  .keep "surely_pairs",
  .code ("told_side", none) "told_side",
  .glo "told_side",
  .keep "told_side",
  .code ("answer_cost", none) "answer_cost",
  .glo "answer_cost",
  .keep "answer_cost",
  .code ("read_names", none) "read_names",
  .glo "read_names",
  .keep "read_names",
  .code ("read_row", none) "read_row",
  .glo "read_row",
  .keep "read_row",
  .code ("MatchedTables", some "__init__") "MatchedTables.__init__",
  .glo "MatchedTables",
  .mkr "MatchedTables",
  .code ("MatchedTables", some "cost_of_columns") "MatchedTables.cost_of_columns",
  .meth "MatchedTables" "cost_of_columns",
  .code ("told_patch", none) "told_patch",
  .glo "told_patch",
  .keep "told_patch",
  .code ("answer_least", none) "answer_least",
  .glo "answer_least",
  .keep "answer_least",
  .code ("answer_kth", none) "answer_kth",
  .glo "answer_kth",
  .keep "answer_kth",
  .code ("answer_surely", none) "answer_surely",
  .glo "answer_surely",
  .keep "answer_surely",
  .code ("answer_maybe", none) "answer_maybe",
  .glo "answer_maybe",
  .keep "answer_maybe",
  .code ("answer_free", none) "answer_free",
  .glo "answer_free",
  .keep "answer_free",
  .code ("answer_rank", none) "answer_rank",
  .glo "answer_rank",
  .keep "answer_rank",
  .code ("read_table", none) "read_table",
  .glo "read_table",
  .keep "read_table",
  .code ("answer_patch", none) "answer_patch",
  .glo "answer_patch",
  .keep "answer_patch",
  .code ("TwoTables", some "hold") "TwoTables.hold",
  .meth "TwoTables" "hold",
  .code ("answer_tables", none) "answer_tables",
  .glo "answer_tables",
  .keep "answer_tables",
  .code ("answer_cols", none) "answer_cols",
  .glo "answer_cols",
  .keep "answer_cols",
  .exm "NotTable" "NotTable" true,
  .exm "NotTable" "NotColumnPairs" false,
  .exm "NotTable" "NotKeys" false,
  .exm "NotTable" "NotRowPairs" false,
  .exm "NotTable" "NotThere" false,
  .exm "NotTable" "TooManyRows" false,
  .exm "NotTable" "NoTables" false,
  .exm "NotColumnPairs" "NotTable" false,
  .exm "NotColumnPairs" "NotColumnPairs" true,
  .exm "NotColumnPairs" "NotKeys" false,
  .exm "NotColumnPairs" "NotRowPairs" false,
  .exm "NotColumnPairs" "NotThere" false,
  .exm "NotColumnPairs" "TooManyRows" false,
  .exm "NotColumnPairs" "NoTables" false,
  .exm "NotKeys" "NotTable" false,
  .exm "NotKeys" "NotColumnPairs" false,
  .exm "NotKeys" "NotKeys" true,
  .exm "NotKeys" "NotRowPairs" false,
  .exm "NotKeys" "NotThere" false,
  .exm "NotKeys" "TooManyRows" false,
  .exm "NotKeys" "NoTables" false,
  .exm "NotRowPairs" "NotTable" false,
  .exm "NotRowPairs" "NotColumnPairs" false,
  .exm "NotRowPairs" "NotKeys" false,
  .exm "NotRowPairs" "NotRowPairs" true,
  .exm "NotRowPairs" "NotThere" false,
  .exm "NotRowPairs" "TooManyRows" false,
  .exm "NotRowPairs" "NoTables" false,
  .exm "NotThere" "NotTable" false,
  .exm "NotThere" "NotColumnPairs" false,
  .exm "NotThere" "NotKeys" false,
  .exm "NotThere" "NotRowPairs" false,
  .exm "NotThere" "NotThere" true,
  .exm "NotThere" "TooManyRows" false,
  .exm "NotThere" "NoTables" false,
  .exm "TooManyRows" "NotTable" false,
  .exm "TooManyRows" "NotColumnPairs" false,
  .exm "TooManyRows" "NotKeys" false,
  .exm "TooManyRows" "NotRowPairs" false,
  .exm "TooManyRows" "NotThere" false,
  .exm "TooManyRows" "TooManyRows" true,
  .exm "TooManyRows" "NoTables" false,
  .exm "NoTables" "NotTable" false,
  .exm "NoTables" "NotColumnPairs" false,
  .exm "NoTables" "NotKeys" false,
  .exm "NoTables" "NotRowPairs" false,
  .exm "NoTables" "NotThere" false,
  .exm "NoTables" "TooManyRows" false,
  .exm "NoTables" "NoTables" true,
  .code ("answer_or_refusal", none) "answer_or_refusal",
  .glo "answer_or_refusal",
  .keep "answer_or_refusal",
  .code ("answers", none) "answers",
  .glo "answers",
  .keep "answers"]
def fnL : List He.FnD := [fnD ("is_there", none) "is_there" "is_there" s_is_there,
  fnD ("rises", none) "rises" "rises" s_rises,
  fnD ("paired", none) "paired" "paired" s_paired,
  fnD ("told_pairs", none) "told_pairs" "told_pairs" s_told_pairs,
  fnD ("rising_lengths", none) "rising_lengths" "rising_lengths" s_rising_lengths,
  fnD ("same_name_pairs", none) "same_name_pairs" "same_name_pairs" s_same_name_pairs,
  fnD ("lone_numbers", none) "lone_numbers" "lone_numbers" s_lone_numbers,
  fnD ("TableNumbers", some "is_over") "is_over" "TableNumbers.is_over" s_TableNumbers_is_over,
  fnD ("is_small_letter", none) "is_small_letter" "is_small_letter" s_is_small_letter,
  fnD ("is_digit", none) "is_digit" "is_digit" s_is_digit,
  fnD ("TableNumbers", some "__init__") "__init__" "TableNumbers.__init__" s_TableNumbers_init,
  fnD ("Table", some "__init__") "__init__" "Table.__init__" s_Table_init,
  fnD ("is_empty", none) "is_empty" "is_empty" s_is_empty,
  fnD ("unlike_count", none) "unlike_count" "unlike_count" s_unlike_count,
  fnD ("LeastMatchings", some "cost_by_first") "cost_by_first" "LeastMatchings.cost_by_first" s_LeastMatchings_cost_by_first,
  fnD ("LeastMatchings", some "least_cost") "least_cost" "LeastMatchings.least_cost" s_LeastMatchings_least_cost,
  fnD ("LeastMatchings", some "how_many") "how_many" "LeastMatchings.how_many" s_LeastMatchings_how_many,
  fnD ("LeastMatchings", some "ways_behind") "ways_behind" "LeastMatchings.ways_behind" s_LeastMatchings_ways_behind,
  fnD ("matching_cost", none) "matching_cost" "matching_cost" s_matching_cost,
  fnD ("TwoTables", some "__init__") "__init__" "TwoTables.__init__" s_TwoTables_init,
  fnD ("TwoTables", some "matched") "matched" "TwoTables.matched" s_TwoTables_matched,
  fnD ("FreeMatchings", some "rows_left") "rows_left" "FreeMatchings.rows_left" s_FreeMatchings_rows_left,
  fnD ("FreeMatchings", some "cost_with") "cost_with" "FreeMatchings.cost_with" s_FreeMatchings_cost_with,
  fnD ("FreeMatchings", some "least_cost") "least_cost" "FreeMatchings.least_cost" s_FreeMatchings_least_cost,
  fnD ("row_keys", none) "row_keys" "row_keys" s_row_keys,
  fnD ("turned", none) "turned" "turned" s_turned,
  fnD ("told_names", none) "told_names" "told_names" s_told_names,
  fnD ("told_lone_rows", none) "told_lone_rows" "told_lone_rows" s_told_lone_rows,
  fnD ("split_calls", none) "split_calls" "split_calls" s_split_calls,
  fnD ("are_whole_pairs", none) "are_whole_pairs" "are_whole_pairs" s_are_whole_pairs,
  fnD ("longest_rising", none) "longest_rising" "longest_rising" s_longest_rising,
  fnD ("first_longest_part", none) "first_longest_part" "first_longest_part" s_first_longest_part,
  fnD ("TableNumbers", some "take") "take" "TableNumbers.take" s_TableNumbers_take,
  fnD ("filled_counts", none) "filled_counts" "filled_counts" s_filled_counts,
  fnD ("LeastMatchings", some "weigh") "weigh" "LeastMatchings.weigh" s_LeastMatchings_weigh,
  fnD ("LeastMatchings", some "first_pairs") "first_pairs" "LeastMatchings.first_pairs" s_LeastMatchings_first_pairs,
  fnD ("MatchedTables", some "cost_of_rows") "cost_of_rows" "MatchedTables.cost_of_rows" s_MatchedTables_cost_of_rows,
  fnD ("FreeMatchings", some "least_from") "least_from" "FreeMatchings.least_from" s_FreeMatchings_least_from,
  fnD ("FreeMatchings", some "least_new") "least_new" "FreeMatchings.least_new" s_FreeMatchings_least_new,
  fnD ("read_keys", none) "read_keys" "read_keys" s_read_keys,
  fnD ("pairs_by_keys", none) "pairs_by_keys" "pairs_by_keys" s_pairs_by_keys,
  fnD ("is_told", none) "is_told" "is_told" s_is_told,
  fnD ("answer_pair", none) "answer_pair" "answer_pair" s_answer_pair,
  fnD ("read_row_pairs", none) "read_row_pairs" "read_row_pairs" s_read_row_pairs,
  fnD ("out_of_order", none) "out_of_order" "out_of_order" s_out_of_order,
  fnD ("read_column_pairs", none) "read_column_pairs" "read_column_pairs" s_read_column_pairs,
  fnD ("read_bytes", none) "read_bytes" "read_bytes" s_read_bytes,
  fnD ("all_pair_costs", none) "all_pair_costs" "all_pair_costs" s_all_pair_costs,
  fnD ("LeastMatchings", some "step_to") "step_to" "LeastMatchings.step_to" s_LeastMatchings_step_to,
  fnD ("LeastMatchings", some "ways_ahead") "ways_ahead" "LeastMatchings.ways_ahead" s_LeastMatchings_ways_ahead,
  fnD ("LeastMatchings", some "__init__") "__init__" "LeastMatchings.__init__" s_LeastMatchings_init,
  fnD ("beginnings", none) "beginnings" "beginnings" s_beginnings,
  fnD ("FreeMatchings", some "first_least") "first_least" "FreeMatchings.first_least" s_FreeMatchings_first_least,
  fnD ("FreeMatchings", some "__init__") "__init__" "FreeMatchings.__init__" s_FreeMatchings_init,
  fnD ("told_cells", none) "told_cells" "told_cells" s_told_cells,
  fnD ("answer_keyed", none) "answer_keyed" "answer_keyed" s_answer_keyed,
  fnD ("columns_cost", none) "columns_cost" "columns_cost" s_columns_cost,
  fnD ("read_name", none) "read_name" "read_name" s_read_name,
  fnD ("read_cell", none) "read_cell" "read_cell" s_read_cell,
  fnD ("LeastMatchings", some "place_of") "place_of" "LeastMatchings.place_of" s_LeastMatchings_place_of,
  fnD ("LeastMatchings", some "at_place") "at_place" "LeastMatchings.at_place" s_LeastMatchings_at_place,
  fnD ("maybe_pairs", none) "maybe_pairs" "maybe_pairs" s_maybe_pairs,
  fnD ("surely_pairs", none) "surely_pairs" "surely_pairs" s_surely_pairs,
  fnD ("told_side", none) "told_side" "told_side" s_told_side,
  fnD ("answer_cost", none) "answer_cost" "answer_cost" s_answer_cost,
  fnD ("read_names", none) "read_names" "read_names" s_read_names,
  fnD ("read_row", none) "read_row" "read_row" s_read_row,
  fnD ("MatchedTables", some "__init__") "__init__" "MatchedTables.__init__" s_MatchedTables_init,
  fnD ("MatchedTables", some "cost_of_columns") "cost_of_columns" "MatchedTables.cost_of_columns" s_MatchedTables_cost_of_columns,
  fnD ("told_patch", none) "told_patch" "told_patch" s_told_patch,
  fnD ("answer_least", none) "answer_least" "answer_least" s_answer_least,
  fnD ("answer_kth", none) "answer_kth" "answer_kth" s_answer_kth,
  fnD ("answer_surely", none) "answer_surely" "answer_surely" s_answer_surely,
  fnD ("answer_maybe", none) "answer_maybe" "answer_maybe" s_answer_maybe,
  fnD ("answer_free", none) "answer_free" "answer_free" s_answer_free,
  fnD ("answer_rank", none) "answer_rank" "answer_rank" s_answer_rank,
  fnD ("read_table", none) "read_table" "read_table" s_read_table,
  fnD ("answer_patch", none) "answer_patch" "answer_patch" s_answer_patch,
  fnD ("TwoTables", some "hold") "hold" "TwoTables.hold" s_TwoTables_hold,
  fnD ("answer_tables", none) "answer_tables" "answer_tables" s_answer_tables,
  fnD ("answer_cols", none) "answer_cols" "answer_cols" s_answer_cols,
  fnD ("answer_or_refusal", none) "answer_or_refusal" "answer_or_refusal" s_answer_or_refusal,
  fnD ("answers", none) "answers" "answers" s_answers]
def erL : List Str := ["NotTable", "NotColumnPairs", "NotKeys", "NotRowPairs", "NotThere", "TooManyRows", "NoTables"]
def kpL : List (Str × Option Str) := [("TableNumbers", some "__init__"), ("Table", some "__init__"), ("TwoTables", some "__init__"), ("LeastMatchings", some "__init__"), ("FreeMatchings", some "__init__"), ("MatchedTables", some "__init__")]
/-- what is known -/
structure Says (K : PySem.W.Frag) (nc lc : List Nat) : Prop where
  fa : (faL.all fun f => f.ok K) = true
  fn : fnL.map (fun d => He.fnObs K d.at_) = fnL.map He.FnD.val
  er : (erL.all (errB K)) = true
  kp : (kpL.all fun p => PySem.W.keepIn K (.ref (He.fAd K p))) = true
  t_ANSWERERS : tupO K "ANSWERERS" = some (([He.ga K "answer_tables", He.ga K "answer_cols", He.ga K "answer_least", He.ga K "answer_kth", He.ga K "answer_cost", He.ga K "answer_pair", He.ga K "answer_surely", He.ga K "answer_maybe", He.ga K "answer_free", He.ga K "answer_keyed", He.ga K "answer_patch", He.ga K "answer_rank"].map V.ref).map some)
  t_NUMBER_COUNTS : tupO K "NUMBER_COUNTS" = some ((natsV nc).map some)
  t_LIST_COUNTS : tupO K "LIST_COUNTS" = some ((natsV lc).map some)
theorem all_mk {P : Program} {w : World} {K : PySem.W.Frag} {h : Heap} {mg : Str → Option Value} {fa0 : Addr} {nc lc : List Nat} {shape : Int → Option (Nat × Nat)} (X : K.In h) (G : h.Ns mainGlobals mg) (hfa : mg "answers" = some (.ref fa0)) (S : Says K nc lc) (HC : Counts shape nc lc) :
    ∃ fd : FuncData, (∀ (s : Shared) (us : List Value), us.length = (["calls"] : List Str).length → BindsTo s fd ⟨us, []⟩ ((["calls"] : List Str).zip us)) ∧ ∀ base : Heap, K.In base → base.Ns mainGlobals mg → FnOk P w K mg base CX0 10 fa0 fd ["calls"] (sp_answers K shape) := by
  have fa : ∀ (i : Nat) (f : He.Fa), faL[i]? = some f → f.ok K = true := fun i f e => List.all_eq_true.mp S.fa f (List.mem_of_getElem? e)
  have er : ∀ (i : Nat) (x : Str), erL[i]? = some x → errB K x = true := fun i f e => List.all_eq_true.mp S.er f (List.mem_of_getElem? e)
  have kp : ∀ (i : Nat) (p : Str × Option Str), kpL[i]? = some p → PySem.W.keepIn K (.ref (He.fAd K p)) = true := fun i f e => List.all_eq_true.mp S.kp f (List.mem_of_getElem? e)
  have fn : ∀ (i : Nat) (d : He.FnD), fnL[i]? = some d → He.fnObs K d.at_ = d.val := fun i d e => by
    have e2 : (fnL.map fun d => He.fnObs K d.at_)[i]? = (fnL.map He.FnD.val)[i]? := by rw [S.fn]
    rw [List.getElem?_map, List.getElem?_map, e] at e2
    exact Option.some.inj e2

  obtain ⟨fd, FA⟩ := fun_of (K := K) (fn 82 _ rfl) (fa 332 _ rfl) (fa 334 _ rfl)
  have e := hfa.symm.trans (He.glo_ok X G (fa 333 _ rfl))
  cases e
  refine ⟨fd, ?_, fun base _ _ => ?_⟩
  · obtain ⟨oc, od, kV, doc, pm, an, cdv, ct, osl, rfl, lk, hcd⟩ := FA.ex
    exact fun s us hu => match us, hu with | [_], _ => .of_eq rfl

  have T : Tops mg := { n_len := He.free_ok X G (fa 0 _ rfl), n_range := He.free_ok X G (fa 1 _ rfl), n_enumerate := He.free_ok X G (fa 2 _ rfl), n_zip := He.free_ok X G (fa 3 _ rfl), n_max := He.free_ok X G (fa 4 _ rfl), n_sum := He.free_ok X G (fa 5 _ rfl), n_set := He.free_ok X G (fa 6 _ rfl), n_ord := He.free_ok X G (fa 7 _ rfl), n_min := He.free_ok X G (fa 8 _ rfl), n_dict := He.free_ok X G (fa 9 _ rfl), n_sorted := He.free_ok X G (fa 10 _ rfl), i_UNLIKE_NAMES_COST := He.int_ok X G (fa 11 _ rfl), i_LONE_COLUMN_COST := He.int_ok X G (fa 12 _ rfl), i_LONE_ROW_COST := He.int_ok X G (fa 13 _ rfl), i_MOST_FREE_ROWS := He.int_ok X G (fa 14 _ rfl), i_EMPTY := He.int_ok X G (fa 15 _ rfl), i_NUMBER := He.int_ok X G (fa 16 _ rfl), i_WORD := He.int_ok X G (fa 17 _ rfl), i_MOST_COLUMNS := He.int_ok X G (fa 18 _ rfl), i_MOST_ROWS := He.int_ok X G (fa 19 _ rfl), i_MOST_BYTES := He.int_ok X G (fa 20 _ rfl), i_BIGGEST_NUMBER := He.int_ok X G (fa 21 _ rfl), i_FIRST_BYTE := He.int_ok X G (fa 22 _ rfl), i_LAST_BYTE := He.int_ok X G (fa 23 _ rfl) }
  have S_src : SrcC K (He.ga K "TableNumbers") := ⟨He.cls_ok (fa 24 _ rfl), He.noat_ok (fa 25 _ rfl), He.noat_ok (fa 26 _ rfl)⟩
  have S_tab : TabC K (He.ga K "Table") := ⟨He.cls_ok (fa 27 _ rfl), He.noat_ok (fa 28 _ rfl), He.noat_ok (fa 29 _ rfl)⟩
  have S_lm : LmC K (He.ga K "LeastMatchings") := ⟨He.cls_ok (fa 30 _ rfl), He.noat_ok (fa 31 _ rfl), He.noat_ok (fa 32 _ rfl), He.noat_ok (fa 33 _ rfl), He.noat_ok (fa 34 _ rfl), He.noat_ok (fa 35 _ rfl)⟩
  have S_mt : MtC K (He.ga K "MatchedTables") := ⟨He.cls_ok (fa 36 _ rfl), He.noat_ok (fa 37 _ rfl), He.noat_ok (fa 38 _ rfl), He.noat_ok (fa 39 _ rfl), He.noat_ok (fa 40 _ rfl), He.noat_ok (fa 41 _ rfl)⟩
  have S_fm : FmC K (He.ga K "FreeMatchings") := ⟨He.cls_ok (fa 42 _ rfl), He.noat_ok (fa 43 _ rfl), He.noat_ok (fa 44 _ rfl), He.noat_ok (fa 45 _ rfl), He.noat_ok (fa 46 _ rfl)⟩
  have S_tw : TwC K (He.ga K "TwoTables") := ⟨He.cls_ok (fa 47 _ rfl), He.noat_ok (fa 48 _ rfl)⟩
  have x_NotTable : ErrX K mg "NotTable" (He.ga K "NotTable") := errX_of X G (fa 49 _ rfl) (er 0 _ rfl)
  have x_NotColumnPairs : ErrX K mg "NotColumnPairs" (He.ga K "NotColumnPairs") := errX_of X G (fa 50 _ rfl) (er 1 _ rfl)
  have x_NotKeys : ErrX K mg "NotKeys" (He.ga K "NotKeys") := errX_of X G (fa 51 _ rfl) (er 2 _ rfl)
  have x_NotRowPairs : ErrX K mg "NotRowPairs" (He.ga K "NotRowPairs") := errX_of X G (fa 52 _ rfl) (er 3 _ rfl)
  have x_NotThere : ErrX K mg "NotThere" (He.ga K "NotThere") := errX_of X G (fa 53 _ rfl) (er 4 _ rfl)
  have x_TooManyRows : ErrX K mg "TooManyRows" (He.ga K "TooManyRows") := errX_of X G (fa 54 _ rfl) (er 5 _ rfl)
  have x_NoTables : ErrX K mg "NoTables" (He.ga K "NoTables") := errX_of X G (fa 55 _ rfl) (er 6 _ rfl)
  have t_ANSWERERS : TopT K mg "ANSWERERS" (He.ga K "ANSWERERS") ([He.ga K "answer_tables", He.ga K "answer_cols", He.ga K "answer_least", He.ga K "answer_kth", He.ga K "answer_cost", He.ga K "answer_pair", He.ga K "answer_surely", He.ga K "answer_maybe", He.ga K "answer_free", He.ga K "answer_keyed", He.ga K "answer_patch", He.ga K "answer_rank"].map V.ref) := topT_of X G (fa 56 _ rfl) S.t_ANSWERERS
  have t_NUMBER_COUNTS : TopT K mg "NUMBER_COUNTS" (He.ga K "NUMBER_COUNTS") (natsV nc) := topT_of X G (fa 57 _ rfl) S.t_NUMBER_COUNTS
  have t_LIST_COUNTS : TopT K mg "LIST_COUNTS" (He.ga K "LIST_COUNTS") (natsV lc) := topT_of X G (fa 58 _ rfl) S.t_LIST_COUNTS
  have c_is_there := calX_of (P := P) (w := w) (base := base) (ps := ["number", "count"]) X G (fa 60 _ rfl) (fa 61 _ rfl) (fn 0 _ rfl) (fa 59 _ rfl) (fun _ _ _ _ _ _ us hl => match us, hl with | [_, _], _ => rfl) (fun {f fd} F => ok_is_there  F)
  have c_rises := calX_of (P := P) (w := w) (base := base) (ps := ["numbers"]) X G (fa 63 _ rfl) (fa 64 _ rfl) (fn 1 _ rfl) (fa 62 _ rfl) (fun _ _ _ _ _ _ us hl => match us, hl with | [_], _ => rfl) (fun {f fd} F => ok_rises T F)
  have c_paired := calX_of (P := P) (w := w) (base := base) (ps := ["numbers"]) X G (fa 66 _ rfl) (fa 67 _ rfl) (fn 2 _ rfl) (fa 65 _ rfl) (fun _ _ _ _ _ _ us hl => match us, hl with | [_], _ => rfl) (fun {f fd} F => ok_paired T F)
  have c_told_pairs := calX_of (P := P) (w := w) (base := base) (ps := ["pairs"]) X G (fa 69 _ rfl) (fa 70 _ rfl) (fn 3 _ rfl) (fa 68 _ rfl) (fun _ _ _ _ _ _ us hl => match us, hl with | [_], _ => rfl) (fun {f fd} F => ok_told_pairs T F)
  have c_rising_lengths := calX_of (P := P) (w := w) (base := base) (ps := ["numbers"]) X G (fa 72 _ rfl) (fa 73 _ rfl) (fn 4 _ rfl) (fa 71 _ rfl) (fun _ _ _ _ _ _ us hl => match us, hl with | [_], _ => rfl) (fun {f fd} F => ok_rising_lengths T F)
  have c_same_name_pairs := calX_of (P := P) (w := w) (base := base) (ps := ["old_names", "new_names"]) X G (fa 75 _ rfl) (fa 76 _ rfl) (fn 5 _ rfl) (fa 74 _ rfl) (fun _ _ _ _ _ _ us hl => match us, hl with | [_, _], _ => rfl) (fun {f fd} F => ok_same_name_pairs T F)
  have c_lone_numbers := calX_of (P := P) (w := w) (base := base) (ps := ["taken", "count"]) X G (fa 78 _ rfl) (fa 79 _ rfl) (fn 6 _ rfl) (fa 77 _ rfl) (fun _ _ _ _ _ _ us hl => match us, hl with | [_, _], _ => rfl) (fun {f fd} F => ok_lone_numbers T F)
  have c_TableNumbers_is_over := metX_of (P := P) (w := w) (mg := mg) (base := base) (ps := ["self"]) (fa 24 _ rfl) (fa 81 _ rfl) (fn 7 _ rfl) (fa 80 _ rfl) (fun _ _ _ _ _ _ us hl => match us, hl with | [_], _ => rfl) (fun {f fd} F => ok_is_over T S_src F)
  have c_is_small_letter := calX_of (P := P) (w := w) (base := base) (ps := ["byte"]) X G (fa 83 _ rfl) (fa 84 _ rfl) (fn 8 _ rfl) (fa 82 _ rfl) (fun _ _ _ _ _ _ us hl => match us, hl with | [_], _ => rfl) (fun {f fd} F => ok_is_small_letter T F)
  have c_is_digit := calX_of (P := P) (w := w) (base := base) (ps := ["byte"]) X G (fa 86 _ rfl) (fa 87 _ rfl) (fn 9 _ rfl) (fa 85 _ rfl) (fun _ _ _ _ _ _ us hl => match us, hl with | [_], _ => rfl) (fun {f fd} F => ok_is_digit T F)
  have c_TableNumbers_init := makX_of (P := P) (w := w) (base := base) (ps := ["self", "numbers"]) X G (fa 89 _ rfl) (fa 90 _ rfl) (kp 0 _ rfl) (fn 10 _ rfl) (fa 88 _ rfl) (fun _ _ _ _ _ _ us hl => match us, hl with | [_, _], _ => rfl) (fun {f fd} F => ok_src_init S_src F)
  have c_Table_init := makX_of (P := P) (w := w) (base := base) (ps := ["self", "names", "rows"]) X G (fa 92 _ rfl) (fa 93 _ rfl) (kp 1 _ rfl) (fn 11 _ rfl) (fa 91 _ rfl) (fun _ _ _ _ _ _ us hl => match us, hl with | [_, _, _], _ => rfl) (fun {f fd} F => ok_tab_init S_tab F)
  have c_is_empty := calX_of (P := P) (w := w) (base := base) (ps := ["cell"]) X G (fa 95 _ rfl) (fa 96 _ rfl) (fn 12 _ rfl) (fa 94 _ rfl) (fun _ _ _ _ _ _ us hl => match us, hl with | [_], _ => rfl) (fun {f fd} F => ok_is_empty T F)
  have c_unlike_count := calX_of (P := P) (w := w) (base := base) (ps := ["old_row", "new_row", "columns"]) X G (fa 98 _ rfl) (fa 99 _ rfl) (fn 13 _ rfl) (fa 97 _ rfl) (fun _ _ _ _ _ _ us hl => match us, hl with | [_, _, _], _ => rfl) (fun {f fd} F => ok_unlike_count T F)
  have c_LeastMatchings_cost_by_first := metX_of (P := P) (w := w) (mg := mg) (base := base) (ps := ["self", "old", "new", "first_old", "first_new"]) (fa 30 _ rfl) (fa 101 _ rfl) (fn 14 _ rfl) (fa 100 _ rfl) (fun _ _ _ _ _ _ us hl => match us, hl with | [_, _, _, _, _], _ => rfl) (fun {f fd} F => ok_cost_by_first T S_lm F)
  have c_LeastMatchings_least_cost := metX_of (P := P) (w := w) (mg := mg) (base := base) (ps := ["self"]) (fa 30 _ rfl) (fa 103 _ rfl) (fn 15 _ rfl) (fa 102 _ rfl) (fun _ _ _ _ _ _ us hl => match us, hl with | [_], _ => rfl) (fun {f fd} F => ok_least_cost S_lm F)
  have c_LeastMatchings_how_many := metX_of (P := P) (w := w) (mg := mg) (base := base) (ps := ["self"]) (fa 30 _ rfl) (fa 105 _ rfl) (fn 16 _ rfl) (fa 104 _ rfl) (fun _ _ _ _ _ _ us hl => match us, hl with | [_], _ => rfl) (fun {f fd} F => ok_how_many S_lm F)
  have c_LeastMatchings_ways_behind := metX_of (P := P) (w := w) (mg := mg) (base := base) (ps := ["self", "pair"]) (fa 30 _ rfl) (fa 107 _ rfl) (fn 17 _ rfl) (fa 106 _ rfl) (fun _ _ _ _ _ _ us hl => match us, hl with | [_, _], _ => rfl) (fun {f fd} F => ok_ways_behind T S_lm F)
  have c_matching_cost := calX_of (P := P) (w := w) (base := base) (ps := ["pair_costs", "old_count", "new_count", "pairs"]) X G (fa 109 _ rfl) (fa 110 _ rfl) (fn 18 _ rfl) (fa 108 _ rfl) (fun _ _ _ _ _ _ us hl => match us, hl with | [_, _, _, _], _ => rfl) (fun {f fd} F => ok_matching_cost T F)
  have c_TwoTables_init := makX_of (P := P) (w := w) (base := base) (ps := ["self"]) X G (fa 112 _ rfl) (fa 113 _ rfl) (kp 2 _ rfl) (fn 19 _ rfl) (fa 111 _ rfl) (fun _ _ _ _ _ _ us hl => match us, hl with | [_], _ => rfl) (fun {f fd} F => ok_tw_init S_tw F)
  have c_TwoTables_matched := metX_of (P := P) (w := w) (mg := mg) (base := base) (ps := ["self"]) (fa 47 _ rfl) (fa 115 _ rfl) (fn 20 _ rfl) (fa 114 _ rfl) (fun _ _ _ _ _ _ us hl => match us, hl with | [_], _ => rfl) (fun {f fd} F => ok_matched S_tw x_NoTables F)
  have c_FreeMatchings_rows_left := metX_of (P := P) (w := w) (mg := mg) (base := base) (ps := ["self", "taken"]) (fa 42 _ rfl) (fa 117 _ rfl) (fn 21 _ rfl) (fa 116 _ rfl) (fun _ _ _ _ _ _ us hl => match us, hl with | [_, _], _ => rfl) (fun {f fd} F => ok_rows_left T S_fm F)
  have c_FreeMatchings_cost_with := metX_of (P := P) (w := w) (mg := mg) (base := base) (ps := ["self", "old", "new", "taken"]) (fa 42 _ rfl) (fa 119 _ rfl) (fn 22 _ rfl) (fa 118 _ rfl) (fun _ _ _ _ _ _ us hl => match us, hl with | [_, _, _, _], _ => rfl) (fun {f fd} F => ok_cost_with T S_fm F)
  have c_FreeMatchings_least_cost := metX_of (P := P) (w := w) (mg := mg) (base := base) (ps := ["self"]) (fa 42 _ rfl) (fa 121 _ rfl) (fn 23 _ rfl) (fa 120 _ rfl) (fun _ _ _ _ _ _ us hl => match us, hl with | [_], _ => rfl) (fun {f fd} F => ok_free_cost S_fm F)
  have c_row_keys := calX_of (P := P) (w := w) (base := base) (ps := ["rows", "columns"]) X G (fa 123 _ rfl) (fa 124 _ rfl) (fn 24 _ rfl) (fa 122 _ rfl) (fun _ _ _ _ _ _ us hl => match us, hl with | [_, _], _ => rfl) (fun {f fd} F => ok_row_keys T F)
  have c_turned := calX_of (P := P) (w := w) (base := base) (ps := ["pairs"]) X G (fa 126 _ rfl) (fa 127 _ rfl) (fn 25 _ rfl) (fa 125 _ rfl) (fun _ _ _ _ _ _ us hl => match us, hl with | [_], _ => rfl) (fun {f fd} F => ok_turned T F)
  have c_told_names := calX_of (P := P) (w := w) (base := base) (ps := ["names"]) X G (fa 129 _ rfl) (fa 130 _ rfl) (fn 26 _ rfl) (fa 128 _ rfl) (fun _ _ _ _ _ _ us hl => match us, hl with | [_], _ => rfl) (fun {f fd} F => ok_told_names T F)
  have c_told_lone_rows := calX_of (P := P) (w := w) (base := base) (ps := ["side", "lone"]) X G (fa 132 _ rfl) (fa 133 _ rfl) (fn 27 _ rfl) (fa 131 _ rfl) (fun _ _ _ _ _ _ us hl => match us, hl with | [_, _], _ => rfl) (fun {f fd} F => ok_told_lone_rows T S_tab F)
  have c_split_calls := calX_of (P := P) (w := w) (base := base) (ps := ["calls"]) X G (fa 135 _ rfl) (fa 136 _ rfl) (fn 28 _ rfl) (fa 134 _ rfl) (fun _ _ _ _ _ _ us hl => match us, hl with | [_], _ => rfl) (fun {f fd} F => ok_split_calls T t_NUMBER_COUNTS t_LIST_COUNTS HC F)
  have c_are_whole_pairs := calX_of (P := P) (w := w) (base := base) (ps := ["numbers", "old_count", "new_count"]) X G (fa 138 _ rfl) (fa 139 _ rfl) (fn 29 _ rfl) (fa 137 _ rfl) (fun _ _ _ _ _ _ us hl => match us, hl with | [_, _, _], _ => rfl) (fun {f fd} F => ok_are_whole_pairs T c_paired c_is_there F)
  have c_longest_rising := calX_of (P := P) (w := w) (base := base) (ps := ["numbers"]) X G (fa 141 _ rfl) (fa 142 _ rfl) (fn 30 _ rfl) (fa 140 _ rfl) (fun _ _ _ _ _ _ us hl => match us, hl with | [_], _ => rfl) (fun {f fd} F => ok_longest_rising T c_rising_lengths F)
  have c_first_longest_part := calX_of (P := P) (w := w) (base := base) (ps := ["pairs"]) X G (fa 144 _ rfl) (fa 145 _ rfl) (fn 31 _ rfl) (fa 143 _ rfl) (fun _ _ _ _ _ _ us hl => match us, hl with | [_], _ => rfl) (fun {f fd} F => ok_first_longest_part T c_rising_lengths F)
  have c_TableNumbers_take := metX_of (P := P) (w := w) (mg := mg) (base := base) (ps := ["self", "lowest", "highest"]) (fa 24 _ rfl) (fa 147 _ rfl) (fn 32 _ rfl) (fa 146 _ rfl) (fun _ _ _ _ _ _ us hl => match us, hl with | [_, _, _], _ => rfl) (fun {f fd} F => ok_take T S_src c_TableNumbers_is_over x_NotTable F)
  have c_filled_counts := calX_of (P := P) (w := w) (base := base) (ps := ["table", "columns"]) X G (fa 149 _ rfl) (fa 150 _ rfl) (fn 33 _ rfl) (fa 148 _ rfl) (fun _ _ _ _ _ _ us hl => match us, hl with | [_, _], _ => rfl) (fun {f fd} F => ok_filled_counts T S_tab c_is_empty F)
  have c_LeastMatchings_weigh := metX_of (P := P) (w := w) (mg := mg) (base := base) (ps := ["self", "old", "new"]) (fa 30 _ rfl) (fa 152 _ rfl) (fn 34 _ rfl) (fa 151 _ rfl) (fun _ _ _ _ _ _ us hl => match us, hl with | [_, _, _], _ => rfl) (fun {f fd} F => ok_weigh T S_lm c_LeastMatchings_cost_by_first F)
  have c_LeastMatchings_first_pairs := metX_of (P := P) (w := w) (mg := mg) (base := base) (ps := ["self", "old", "new"]) (fa 30 _ rfl) (fa 154 _ rfl) (fn 35 _ rfl) (fa 153 _ rfl) (fun _ _ _ _ _ _ us hl => match us, hl with | [_, _, _], _ => rfl) (fun {f fd} F => ok_first_pairs T S_lm c_LeastMatchings_cost_by_first F)
  have c_MatchedTables_cost_of_rows := metX_of (P := P) (w := w) (mg := mg) (base := base) (ps := ["self", "pairs"]) (fa 36 _ rfl) (fa 156 _ rfl) (fn 36 _ rfl) (fa 155 _ rfl) (fun _ _ _ _ _ _ us hl => match us, hl with | [_, _], _ => rfl) (fun {f fd} F => ok_cost_of_rows (CL := He.ga K "LeastMatchings") T S_mt S_tab c_matching_cost F)
  have c_FreeMatchings_least_from := metX_of (P := P) (w := w) (mg := mg) (base := base) (ps := ["self", "old", "taken"]) (fa 42 _ rfl) (fa 158 _ rfl) (fn 37 _ rfl) (fa 157 _ rfl) (fun _ _ _ _ _ _ us hl => match us, hl with | [_, _, _], _ => rfl) (fun {f fd} F => ok_least_from T S_fm c_FreeMatchings_rows_left c_FreeMatchings_cost_with F)
  have c_FreeMatchings_least_new := metX_of (P := P) (w := w) (mg := mg) (base := base) (ps := ["self", "old", "taken"]) (fa 42 _ rfl) (fa 160 _ rfl) (fn 38 _ rfl) (fa 159 _ rfl) (fun _ _ _ _ _ _ us hl => match us, hl with | [_, _, _], _ => rfl) (fun {f fd} F => ok_least_new T S_fm c_FreeMatchings_rows_left c_FreeMatchings_cost_with F)
  have c_read_keys := calX_of (P := P) (w := w) (base := base) (ps := ["numbers", "columns"]) X G (fa 162 _ rfl) (fa 163 _ rfl) (fn 39 _ rfl) (fa 161 _ rfl) (fun _ _ _ _ _ _ us hl => match us, hl with | [_, _], _ => rfl) (fun {f fd} F => ok_read_keys T c_rises x_NotKeys F)
  have c_pairs_by_keys := calX_of (P := P) (w := w) (base := base) (ps := ["old_rows", "new_rows", "keys"]) X G (fa 165 _ rfl) (fa 166 _ rfl) (fn 40 _ rfl) (fa 164 _ rfl) (fun _ _ _ _ _ _ us hl => match us, hl with | [_, _, _], _ => rfl) (fun {f fd} F => ok_pairs_by_keys T c_row_keys F)
  have c_is_told := calX_of (P := P) (w := w) (base := base) (ps := ["cell", "other_row", "other_column"]) X G (fa 168 _ rfl) (fa 169 _ rfl) (fn 41 _ rfl) (fa 167 _ rfl) (fun _ _ _ _ _ _ us hl => match us, hl with | [_, _, _], _ => rfl) (fun {f fd} F => ok_is_told T c_is_empty F)
  have c_answer_pair := calX_of (P := P) (w := w) (base := base) (ps := ["both", "handed"]) X G (fa 171 _ rfl) (fa 172 _ rfl) (fn 42 _ rfl) (fa 170 _ rfl) (fun _ _ _ _ _ _ us hl => match us, hl with | [_, _], _ => rfl) (fun {f fd} F => ok_answer_pair (CL := He.ga K "LeastMatchings") T S_mt S_tab c_TwoTables_matched c_is_there x_NotThere F)
  have c_read_row_pairs := calX_of (P := P) (w := w) (base := base) (ps := ["numbers", "old_count", "new_count"]) X G (fa 174 _ rfl) (fa 175 _ rfl) (fn 43 _ rfl) (fa 173 _ rfl) (fun _ _ _ _ _ _ us hl => match us, hl with | [_, _, _], _ => rfl) (fun {f fd} F => ok_read_row_pairs T c_paired c_rises c_are_whole_pairs x_NotRowPairs F)
  have c_out_of_order := calX_of (P := P) (w := w) (base := base) (ps := ["numbers"]) X G (fa 177 _ rfl) (fa 178 _ rfl) (fn 44 _ rfl) (fa 176 _ rfl) (fun _ _ _ _ _ _ us hl => match us, hl with | [_], _ => rfl) (fun {f fd} F => ok_out_of_order T c_longest_rising F)
  have c_read_column_pairs := calX_of (P := P) (w := w) (base := base) (ps := ["numbers", "old_count", "new_count"]) X G (fa 180 _ rfl) (fa 181 _ rfl) (fn 45 _ rfl) (fa 179 _ rfl) (fun _ _ _ _ _ _ us hl => match us, hl with | [_, _, _], _ => rfl) (fun {f fd} F => ok_read_column_pairs T c_paired c_rises c_are_whole_pairs x_NotColumnPairs F)
  have c_read_bytes := calX_of (P := P) (w := w) (base := base) (ps := ["source"]) X G (fa 183 _ rfl) (fa 184 _ rfl) (fn 46 _ rfl) (fa 182 _ rfl) (fun _ _ _ _ _ _ us hl => match us, hl with | [_], _ => rfl) (fun {f fd} F => ok_read_bytes T c_TableNumbers_take F)
  have c_all_pair_costs := calX_of (P := P) (w := w) (base := base) (ps := ["old", "new", "columns"]) X G (fa 186 _ rfl) (fa 187 _ rfl) (fn 47 _ rfl) (fa 185 _ rfl) (fun _ _ _ _ _ _ us hl => match us, hl with | [_, _, _], _ => rfl) (fun {f fd} F => ok_all_pair_costs T S_tab c_filled_counts c_lone_numbers c_unlike_count F)
  have c_LeastMatchings_step_to := metX_of (P := P) (w := w) (mg := mg) (base := base) (ps := ["self", "old", "new", "place"]) (fa 30 _ rfl) (fa 189 _ rfl) (fn 48 _ rfl) (fa 188 _ rfl) (fun _ _ _ _ _ _ us hl => match us, hl with | [_, _, _, _], _ => rfl) (fun {f fd} F => ok_step_to T S_lm c_LeastMatchings_first_pairs c_LeastMatchings_ways_behind F)
  have c_LeastMatchings_ways_ahead := metX_of (P := P) (w := w) (mg := mg) (base := base) (ps := ["self", "old", "new", "pair"]) (fa 30 _ rfl) (fa 191 _ rfl) (fn 49 _ rfl) (fa 190 _ rfl) (fun _ _ _ _ _ _ us hl => match us, hl with | [_, _, _, _], _ => rfl) (fun {f fd} F => ok_ways_ahead T S_lm c_LeastMatchings_first_pairs c_LeastMatchings_ways_behind F)
  have c_LeastMatchings_init := makX_of (P := P) (w := w) (base := base) (ps := ["self", "pair_costs", "old_count", "new_count"]) X G (fa 193 _ rfl) (fa 194 _ rfl) (kp 3 _ rfl) (fn 50 _ rfl) (fa 192 _ rfl) (fun _ _ _ _ _ _ us hl => match us, hl with | [_, _, _, _], _ => rfl) (fun {f fd} F => ok_lm_init T S_lm c_LeastMatchings_weigh F)
  have c_beginnings := calX_of (P := P) (w := w) (base := base) (ps := ["least"]) X G (fa 196 _ rfl) (fa 197 _ rfl) (fn 51 _ rfl) (fa 195 _ rfl) (fun _ _ _ _ _ _ us hl => match us, hl with | [_], _ => rfl) (fun {f fd} F => ok_beginnings T S_lm c_LeastMatchings_first_pairs F)
  have c_FreeMatchings_first_least := metX_of (P := P) (w := w) (mg := mg) (base := base) (ps := ["self"]) (fa 42 _ rfl) (fa 199 _ rfl) (fn 52 _ rfl) (fa 198 _ rfl) (fun _ _ _ _ _ _ us hl => match us, hl with | [_], _ => rfl) (fun {f fd} F => ok_first_least T S_fm c_FreeMatchings_least_new F)
  have c_FreeMatchings_init := makX_of (P := P) (w := w) (base := base) (ps := ["self", "pair_costs", "old_count", "new_count"]) X G (fa 201 _ rfl) (fa 202 _ rfl) (kp 4 _ rfl) (fn 53 _ rfl) (fa 200 _ rfl) (fun _ _ _ _ _ _ us hl => match us, hl with | [_, _, _, _], _ => rfl) (fun {f fd} F => ok_fm_init T S_fm c_FreeMatchings_least_from x_TooManyRows F)
  have c_told_cells := calX_of (P := P) (w := w) (base := base) (ps := ["side", "other", "columns", "rows"]) X G (fa 204 _ rfl) (fa 205 _ rfl) (fn 54 _ rfl) (fa 203 _ rfl) (fun _ _ _ _ _ _ us hl => match us, hl with | [_, _, _, _], _ => rfl) (fun {f fd} F => ok_told_cells T S_tab c_is_told F)
  have c_answer_keyed := calX_of (P := P) (w := w) (base := base) (ps := ["both", "handed"]) X G (fa 207 _ rfl) (fa 208 _ rfl) (fn 55 _ rfl) (fa 206 _ rfl) (fun _ _ _ _ _ _ us hl => match us, hl with | [_, _], _ => rfl) (fun {f fd} F => ok_answer_keyed T S_mt S_tab c_TwoTables_matched c_read_keys c_pairs_by_keys c_first_longest_part c_told_pairs c_MatchedTables_cost_of_rows F)
  have c_columns_cost := calX_of (P := P) (w := w) (base := base) (ps := ["old_names", "new_names", "pairs"]) X G (fa 210 _ rfl) (fa 211 _ rfl) (fn 56 _ rfl) (fa 209 _ rfl) (fun _ _ _ _ _ _ us hl => match us, hl with | [_, _, _], _ => rfl) (fun {f fd} F => ok_columns_cost T c_out_of_order F)
  have c_read_name := calX_of (P := P) (w := w) (base := base) (ps := ["source"]) X G (fa 213 _ rfl) (fa 214 _ rfl) (fn 57 _ rfl) (fa 212 _ rfl) (fun _ _ _ _ _ _ us hl => match us, hl with | [_], _ => rfl) (fun {f fd} F => ok_read_name T c_read_bytes c_is_small_letter c_is_digit x_NotTable F)
  have c_read_cell := calX_of (P := P) (w := w) (base := base) (ps := ["source"]) X G (fa 216 _ rfl) (fa 217 _ rfl) (fn 58 _ rfl) (fa 215 _ rfl) (fun _ _ _ _ _ _ us hl => match us, hl with | [_], _ => rfl) (fun {f fd} F => ok_read_cell T c_TableNumbers_take c_read_bytes F)
  have c_LeastMatchings_place_of := metX_of (P := P) (w := w) (mg := mg) (base := base) (ps := ["self", "pairs"]) (fa 30 _ rfl) (fa 219 _ rfl) (fn 59 _ rfl) (fa 218 _ rfl) (fun _ _ _ _ _ _ us hl => match us, hl with | [_, _], _ => rfl) (fun {f fd} F => ok_place_of T S_lm c_LeastMatchings_ways_ahead F)
  have c_LeastMatchings_at_place := metX_of (P := P) (w := w) (mg := mg) (base := base) (ps := ["self", "place"]) (fa 30 _ rfl) (fa 221 _ rfl) (fn 60 _ rfl) (fa 220 _ rfl) (fun _ _ _ _ _ _ us hl => match us, hl with | [_, _], _ => rfl) (fun {f fd} F => ok_at_place T S_lm c_LeastMatchings_step_to F)
  have c_maybe_pairs := calX_of (P := P) (w := w) (base := base) (ps := ["least"]) X G (fa 223 _ rfl) (fa 224 _ rfl) (fn 61 _ rfl) (fa 222 _ rfl) (fun _ _ _ _ _ _ us hl => match us, hl with | [_], _ => rfl) (fun {f fd} F => ok_maybe_pairs T c_beginnings F)
  have c_surely_pairs := calX_of (P := P) (w := w) (base := base) (ps := ["least"]) X G (fa 226 _ rfl) (fa 227 _ rfl) (fn 62 _ rfl) (fa 225 _ rfl) (fun _ _ _ _ _ _ us hl => match us, hl with | [_], _ => rfl) (fun {f fd} F => ok_surely_pairs T c_beginnings c_LeastMatchings_ways_behind c_LeastMatchings_how_many F)
  have c_told_side := calX_of (P := P) (w := w) (base := base) (ps := ["side", "other", "columns", "rows"]) X G (fa 229 _ rfl) (fa 230 _ rfl) (fn 63 _ rfl) (fa 228 _ rfl) (fun _ _ _ _ _ _ us hl => match us, hl with | [_, _, _, _], _ => rfl) (fun {f fd} F => ok_told_side T S_tab c_lone_numbers c_told_names c_told_lone_rows c_told_cells F)
  have c_answer_cost := calX_of (P := P) (w := w) (base := base) (ps := ["both", "handed"]) X G (fa 232 _ rfl) (fa 233 _ rfl) (fn 64 _ rfl) (fa 231 _ rfl) (fun _ _ _ _ _ _ us hl => match us, hl with | [_, _], _ => rfl) (fun {f fd} F => ok_answer_cost T S_mt S_tab c_TwoTables_matched c_read_row_pairs c_MatchedTables_cost_of_rows c_LeastMatchings_least_cost F)
  have c_read_names := calX_of (P := P) (w := w) (base := base) (ps := ["source"]) X G (fa 235 _ rfl) (fa 236 _ rfl) (fn 65 _ rfl) (fa 234 _ rfl) (fun _ _ _ _ _ _ us hl => match us, hl with | [_], _ => rfl) (fun {f fd} F => ok_read_names T c_TableNumbers_take c_read_name x_NotTable F)
  have c_read_row := calX_of (P := P) (w := w) (base := base) (ps := ["source", "column_count"]) X G (fa 238 _ rfl) (fa 239 _ rfl) (fn 66 _ rfl) (fa 237 _ rfl) (fun _ _ _ _ _ _ us hl => match us, hl with | [_, _], _ => rfl) (fun {f fd} F => ok_read_row T c_read_cell F)
  have c_MatchedTables_init := makX_of (P := P) (w := w) (base := base) (ps := ["self", "old", "new", "columns"]) X G (fa 241 _ rfl) (fa 242 _ rfl) (kp 5 _ rfl) (fn 67 _ rfl) (fa 240 _ rfl) (fun _ _ _ _ _ _ us hl => match us, hl with | [_, _, _, _], _ => rfl) (fun {f fd} F => ok_mt_init T S_mt S_tab c_all_pair_costs c_LeastMatchings_init F)
  have c_MatchedTables_cost_of_columns := metX_of (P := P) (w := w) (mg := mg) (base := base) (ps := ["self"]) (fa 36 _ rfl) (fa 244 _ rfl) (fn 68 _ rfl) (fa 243 _ rfl) (fun _ _ _ _ _ _ us hl => match us, hl with | [_], _ => rfl) (fun {f fd} F => ok_cost_of_columns (CL := He.ga K "LeastMatchings") S_mt S_tab c_columns_cost F)
  have c_told_patch := calX_of (P := P) (w := w) (base := base) (ps := ["old", "new", "columns", "rows"]) X G (fa 246 _ rfl) (fa 247 _ rfl) (fn 69 _ rfl) (fa 245 _ rfl) (fun _ _ _ _ _ _ us hl => match us, hl with | [_, _, _, _], _ => rfl) (fun {f fd} F => ok_told_patch T c_told_side c_turned c_told_pairs F)
  have c_answer_least := calX_of (P := P) (w := w) (base := base) (ps := ["both", "handed"]) X G (fa 249 _ rfl) (fa 250 _ rfl) (fn 70 _ rfl) (fa 248 _ rfl) (fun _ _ _ _ _ _ us hl => match us, hl with | [_, _], _ => rfl) (fun {f fd} F => ok_answer_least (CT := He.ga K "Table") S_mt c_TwoTables_matched c_LeastMatchings_least_cost c_LeastMatchings_how_many c_LeastMatchings_at_place c_told_pairs F)
  have c_answer_kth := calX_of (P := P) (w := w) (base := base) (ps := ["both", "handed"]) X G (fa 252 _ rfl) (fa 253 _ rfl) (fn 71 _ rfl) (fa 251 _ rfl) (fun _ _ _ _ _ _ us hl => match us, hl with | [_, _], _ => rfl) (fun {f fd} F => ok_answer_kth (CT := He.ga K "Table") S_mt c_TwoTables_matched c_LeastMatchings_how_many c_LeastMatchings_at_place c_told_pairs x_NotThere F)
  have c_answer_surely := calX_of (P := P) (w := w) (base := base) (ps := ["both", "handed"]) X G (fa 255 _ rfl) (fa 256 _ rfl) (fn 72 _ rfl) (fa 254 _ rfl) (fun _ _ _ _ _ _ us hl => match us, hl with | [_, _], _ => rfl) (fun {f fd} F => ok_answer_surely (CT := He.ga K "Table") S_mt c_TwoTables_matched c_surely_pairs c_told_pairs F)
  have c_answer_maybe := calX_of (P := P) (w := w) (base := base) (ps := ["both", "handed"]) X G (fa 258 _ rfl) (fa 259 _ rfl) (fn 73 _ rfl) (fa 257 _ rfl) (fun _ _ _ _ _ _ us hl => match us, hl with | [_, _], _ => rfl) (fun {f fd} F => ok_answer_maybe (CT := He.ga K "Table") S_mt c_TwoTables_matched c_maybe_pairs c_told_pairs F)
  have c_answer_free := calX_of (P := P) (w := w) (base := base) (ps := ["both", "handed"]) X G (fa 261 _ rfl) (fa 262 _ rfl) (fn 74 _ rfl) (fa 260 _ rfl) (fun _ _ _ _ _ _ us hl => match us, hl with | [_, _], _ => rfl) (fun {f fd} F => ok_answer_free (CL := He.ga K "LeastMatchings") T S_mt S_tab c_TwoTables_matched c_FreeMatchings_init c_FreeMatchings_first_least c_FreeMatchings_least_cost c_out_of_order c_told_pairs F)
  have c_answer_rank := calX_of (P := P) (w := w) (base := base) (ps := ["both", "handed"]) X G (fa 264 _ rfl) (fa 265 _ rfl) (fn 75 _ rfl) (fa 263 _ rfl) (fun _ _ _ _ _ _ us hl => match us, hl with | [_, _], _ => rfl) (fun {f fd} F => ok_answer_rank T S_mt S_tab c_TwoTables_matched c_read_row_pairs c_MatchedTables_cost_of_rows c_LeastMatchings_least_cost c_LeastMatchings_place_of F)
  have c_read_table := calX_of (P := P) (w := w) (base := base) (ps := ["numbers"]) X G (fa 267 _ rfl) (fa 268 _ rfl) (fn 76 _ rfl) (fa 266 _ rfl) (fun _ _ _ _ _ _ us hl => match us, hl with | [_], _ => rfl) (fun {f fd} F => ok_read_table T S_src c_TableNumbers_init c_Table_init c_TableNumbers_take c_TableNumbers_is_over c_read_names c_read_row x_NotTable F)
  have c_answer_patch := calX_of (P := P) (w := w) (base := base) (ps := ["both", "handed"]) X G (fa 270 _ rfl) (fa 271 _ rfl) (fn 77 _ rfl) (fa 269 _ rfl) (fun _ _ _ _ _ _ us hl => match us, hl with | [_, _], _ => rfl) (fun {f fd} F => ok_answer_patch S_mt c_TwoTables_matched c_MatchedTables_cost_of_columns c_LeastMatchings_least_cost c_LeastMatchings_at_place c_told_patch F)
  have c_TwoTables_hold := metX_of (P := P) (w := w) (mg := mg) (base := base) (ps := ["self", "old", "new", "columns"]) (fa 47 _ rfl) (fa 273 _ rfl) (fn 78 _ rfl) (fa 272 _ rfl) (fun _ _ _ _ _ _ us hl => match us, hl with | [_, _, _, _], _ => rfl) (fun {f fd} F => ok_hold S_tw c_MatchedTables_init F)
  have c_answer_tables := calX_of (P := P) (w := w) (base := base) (ps := ["both", "handed"]) X G (fa 275 _ rfl) (fa 276 _ rfl) (fn 79 _ rfl) (fa 274 _ rfl) (fun _ _ _ _ _ _ us hl => match us, hl with | [_, _], _ => rfl) (fun {f fd} F => ok_answer_tables T S_tab c_read_table c_same_name_pairs c_TwoTables_hold F)
  have c_answer_cols := calX_of (P := P) (w := w) (base := base) (ps := ["both", "handed"]) X G (fa 278 _ rfl) (fa 279 _ rfl) (fn 80 _ rfl) (fa 277 _ rfl) (fun _ _ _ _ _ _ us hl => match us, hl with | [_, _], _ => rfl) (fun {f fd} F => ok_answer_cols T S_mt S_tab c_TwoTables_matched c_read_column_pairs c_TwoTables_hold c_MatchedTables_cost_of_columns F)
  have TAB : ∀ f sp, tabA K (He.ga K "Table") (He.ga K "LeastMatchings") (He.ga K "MatchedTables") (He.ga K "TwoTables") (He.ga K "NotTable") (He.ga K "NotColumnPairs") (He.ga K "NotKeys") (He.ga K "NotRowPairs") (He.ga K "NotThere") (He.ga K "TooManyRows") (He.ga K "NoTables") [He.ga K "answer_tables", He.ga K "answer_cols", He.ga K "answer_least", He.ga K "answer_kth", He.ga K "answer_cost", He.ga K "answer_pair", He.ga K "answer_surely", He.ga K "answer_maybe", He.ga K "answer_free", He.ga K "answer_keyed", He.ga K "answer_patch", He.ga K "answer_rank"] f sp → Entry P w K mg base (L2.CX P w) 8 f sp := fun f sp z => by
    obtain ⟨i, e1, e2⟩ := z
    match i, e1, e2 with
    | 0, e1, e2 => cases e1; cases e2; exact entry_of c_answer_tables (by decide) X G (fa 275 _ rfl)
    | 1, e1, e2 => cases e1; cases e2; exact entry_of c_answer_cols (by decide) X G (fa 278 _ rfl)
    | 2, e1, e2 => cases e1; cases e2; exact entry_of c_answer_least (by decide) X G (fa 249 _ rfl)
    | 3, e1, e2 => cases e1; cases e2; exact entry_of c_answer_kth (by decide) X G (fa 252 _ rfl)
    | 4, e1, e2 => cases e1; cases e2; exact entry_of c_answer_cost (by decide) X G (fa 232 _ rfl)
    | 5, e1, e2 => cases e1; cases e2; exact entry_of c_answer_pair (by decide) X G (fa 171 _ rfl)
    | 6, e1, e2 => cases e1; cases e2; exact entry_of c_answer_surely (by decide) X G (fa 255 _ rfl)
    | 7, e1, e2 => cases e1; cases e2; exact entry_of c_answer_maybe (by decide) X G (fa 258 _ rfl)
    | 8, e1, e2 => cases e1; cases e2; exact entry_of c_answer_free (by decide) X G (fa 261 _ rfl)
    | 9, e1, e2 => cases e1; cases e2; exact entry_of c_answer_keyed (by decide) X G (fa 207 _ rfl)
    | 10, e1, e2 => cases e1; cases e2; exact entry_of c_answer_patch (by decide) X G (fa 270 _ rfl)
    | 11, e1, e2 => cases e1; cases e2; exact entry_of c_answer_rank (by decide) X G (fa 264 _ rfl)
    | i + 12, e1, _ => cases e1
  have M : ∀ (i j : Nat) p q, (errsA (He.ga K "NotTable") (He.ga K "NotColumnPairs") (He.ga K "NotKeys") (He.ga K "NotRowPairs") (He.ga K "NotThere") (He.ga K "TooManyRows") (He.ga K "NoTables"))[i]? = some p → (errsA (He.ga K "NotTable") (He.ga K "NotColumnPairs") (He.ga K "NotKeys") (He.ga K "NotRowPairs") (He.ga K "NotThere") (He.ga K "TooManyRows") (He.ga K "NoTables"))[j]? = some q → PySem.W.exmOne K (.ref p.1) (.ref q.1) = some (decide (j = i)) := fun i j p q e1 e2 => by
    match i, j, e1, e2 with
    | 0, 0, e1, e2 => cases e1; cases e2; exact He.exm_ok (fa 280 _ rfl)
    | 0, 1, e1, e2 => cases e1; cases e2; exact He.exm_ok (fa 281 _ rfl)
    | 0, 2, e1, e2 => cases e1; cases e2; exact He.exm_ok (fa 282 _ rfl)
    | 0, 3, e1, e2 => cases e1; cases e2; exact He.exm_ok (fa 283 _ rfl)
    | 0, 4, e1, e2 => cases e1; cases e2; exact He.exm_ok (fa 284 _ rfl)
    | 0, 5, e1, e2 => cases e1; cases e2; exact He.exm_ok (fa 285 _ rfl)
    | 0, 6, e1, e2 => cases e1; cases e2; exact He.exm_ok (fa 286 _ rfl)
    | 1, 0, e1, e2 => cases e1; cases e2; exact He.exm_ok (fa 287 _ rfl)
    | 1, 1, e1, e2 => cases e1; cases e2; exact He.exm_ok (fa 288 _ rfl)
    | 1, 2, e1, e2 => cases e1; cases e2; exact He.exm_ok (fa 289 _ rfl)
    | 1, 3, e1, e2 => cases e1; cases e2; exact He.exm_ok (fa 290 _ rfl)
    | 1, 4, e1, e2 => cases e1; cases e2; exact He.exm_ok (fa 291 _ rfl)
    | 1, 5, e1, e2 => cases e1; cases e2; exact He.exm_ok (fa 292 _ rfl)
    | 1, 6, e1, e2 => cases e1; cases e2; exact He.exm_ok (fa 293 _ rfl)
    | 2, 0, e1, e2 => cases e1; cases e2; exact He.exm_ok (fa 294 _ rfl)
    | 2, 1, e1, e2 => cases e1; cases e2; exact He.exm_ok (fa 295 _ rfl)
    | 2, 2, e1, e2 => cases e1; cases e2; exact He.exm_ok (fa 296 _ rfl)
    | 2, 3, e1, e2 => cases e1; cases e2; exact He.exm_ok (fa 297 _ rfl)
    | 2, 4, e1, e2 => cases e1; cases e2; exact He.exm_ok (fa 298 _ rfl)
    | 2, 5, e1, e2 => cases e1; cases e2; exact He.exm_ok (fa 299 _ rfl)
    | 2, 6, e1, e2 => cases e1; cases e2; exact He.exm_ok (fa 300 _ rfl)
    | 3, 0, e1, e2 => cases e1; cases e2; exact He.exm_ok (fa 301 _ rfl)
    | 3, 1, e1, e2 => cases e1; cases e2; exact He.exm_ok (fa 302 _ rfl)
    | 3, 2, e1, e2 => cases e1; cases e2; exact He.exm_ok (fa 303 _ rfl)
    | 3, 3, e1, e2 => cases e1; cases e2; exact He.exm_ok (fa 304 _ rfl)
    | 3, 4, e1, e2 => cases e1; cases e2; exact He.exm_ok (fa 305 _ rfl)
    | 3, 5, e1, e2 => cases e1; cases e2; exact He.exm_ok (fa 306 _ rfl)
    | 3, 6, e1, e2 => cases e1; cases e2; exact He.exm_ok (fa 307 _ rfl)
    | 4, 0, e1, e2 => cases e1; cases e2; exact He.exm_ok (fa 308 _ rfl)
    | 4, 1, e1, e2 => cases e1; cases e2; exact He.exm_ok (fa 309 _ rfl)
    | 4, 2, e1, e2 => cases e1; cases e2; exact He.exm_ok (fa 310 _ rfl)
    | 4, 3, e1, e2 => cases e1; cases e2; exact He.exm_ok (fa 311 _ rfl)
    | 4, 4, e1, e2 => cases e1; cases e2; exact He.exm_ok (fa 312 _ rfl)
    | 4, 5, e1, e2 => cases e1; cases e2; exact He.exm_ok (fa 313 _ rfl)
    | 4, 6, e1, e2 => cases e1; cases e2; exact He.exm_ok (fa 314 _ rfl)
    | 5, 0, e1, e2 => cases e1; cases e2; exact He.exm_ok (fa 315 _ rfl)
    | 5, 1, e1, e2 => cases e1; cases e2; exact He.exm_ok (fa 316 _ rfl)
    | 5, 2, e1, e2 => cases e1; cases e2; exact He.exm_ok (fa 317 _ rfl)
    | 5, 3, e1, e2 => cases e1; cases e2; exact He.exm_ok (fa 318 _ rfl)
    | 5, 4, e1, e2 => cases e1; cases e2; exact He.exm_ok (fa 319 _ rfl)
    | 5, 5, e1, e2 => cases e1; cases e2; exact He.exm_ok (fa 320 _ rfl)
    | 5, 6, e1, e2 => cases e1; cases e2; exact He.exm_ok (fa 321 _ rfl)
    | 6, 0, e1, e2 => cases e1; cases e2; exact He.exm_ok (fa 322 _ rfl)
    | 6, 1, e1, e2 => cases e1; cases e2; exact He.exm_ok (fa 323 _ rfl)
    | 6, 2, e1, e2 => cases e1; cases e2; exact He.exm_ok (fa 324 _ rfl)
    | 6, 3, e1, e2 => cases e1; cases e2; exact He.exm_ok (fa 325 _ rfl)
    | 6, 4, e1, e2 => cases e1; cases e2; exact He.exm_ok (fa 326 _ rfl)
    | 6, 5, e1, e2 => cases e1; cases e2; exact He.exm_ok (fa 327 _ rfl)
    | 6, 6, e1, e2 => cases e1; cases e2; exact He.exm_ok (fa 328 _ rfl)
    | i + 7, _, e1, _ => cases e1
    | 0, j + 7, _, e2 => cases e2
    | 1, j + 7, _, e2 => cases e2
    | 2, j + 7, _, e2 => cases e2
    | 3, j + 7, _, e2 => cases e2
    | 4, j + 7, _, e2 => cases e2
    | 5, j + 7, _, e2 => cases e2
    | 6, j + 7, _, e2 => cases e2
  have c_answer_or_refusal := calX_of (P := P) (w := w) (base := base) (ps := ["both", "call", "handed"]) X G (fa 330 _ rfl) (fa 331 _ rfl) (fn 81 _ rfl) (fa 329 _ rfl) (fun _ _ _ _ _ _ us hl => match us, hl with | [_, _, _], _ => rfl) (fun {f fd} F => ok_aor T t_ANSWERERS rfl TAB x_NotTable x_NotColumnPairs x_NotKeys x_NotRowPairs x_NotThere x_TooManyRows x_NoTables M F)
  exact ok_answers T c_TwoTables_init c_split_calls c_answer_or_refusal FA
end MR

open PySem PySem.W PyProof.Rows
set_option maxRecDepth 100000 in
set_option maxHeartbeats 8000000 in
theorem PySem.Challenge.cw_matchedrows_s01_answers_holds : PySem.Challenge.rw_matchedrows_s01_answers.Holds := by
  w_on; k_headS; (case hw => exact ⟨[.list [.int 2]], by decide +kernel, by decide +kernel⟩)
  k_fillS
  refine L2.walk_specK (r := PySem.Challenge.rw_matchedrows_s01_answers) (k := 10) (CX := L2.CX0) (ps := ["calls"]) (sp := fun K => MR.sp_answers K PyVatdfb.shape) (by decide +kernel) rfl rfl ⟨rfl, by decide, by decide⟩ (fun w h Y => PySem.W.kIn_of Y) ?F ?S (fun _ _ _ _ z => z)
  case F =>
    intro w mg fa h Y KX G hmg
    exact MR.all_mk (nc := [0, 0, 0, 1, 0, 2, 0, 0, 0, 0, 0, 0]) (lc := [2, 1, 0, 0, 1, 0, 0, 0, 0, 1, 0, 1]) KX G hmg ⟨by kernel_rfl, by kernel_rfl, by kernel_rfl, by kernel_rfl, by kernel_rfl, by kernel_rfl, by kernel_rfl⟩ MR.shape_counts
  case S =>
    intro K H xs a hO hwi hask hx
    cases hx with
    | cons h1 h2 =>
      cases h2
      cases h1 with
      | lst hs ha =>
        have e := L2.ints_dw a.1 _ ha
        subst e
        have q : ((Codec.inLen 0 17000 a.1 && a.1.all (Codec.inInt (-1000000000000000000) 1000000000000000000)) && true) = true := hwi
        rw [Bool.and_eq_true, Bool.and_eq_true] at q
        have hl := (Codec.inNat_iff.mp q.1.1).2
        have hask : PyVatdfb.answers_asked a.1 = true := hask
        obtain ⟨raw, cs, e1, e2, e3, e4, e5⟩ := MR.asked_means a.1 hask
        refine ⟨_, a.1, _, raw, cs, rfl, hs, by omega, e1, e2, e3, e5, fun H' p hp => ?_⟩
        have e6 : Codec.app PySem.Challenge.rw_matchedrows_s01_answers.args PySem.Challenge.rw_matchedrows_s01_answers.f a = PyFlat.told (MR.playC Vatdfb.start cs) := e4
        rw [e6]
        exact .lst (L2.SqL.of hp) (L2.dw_ints _)
#print axioms PySem.Challenge.cw_matchedrows_s01_answers_holds

