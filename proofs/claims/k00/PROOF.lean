import PyProof.Rows.All
import Wide.All
import OpenK.AllK
import Wide.FinOn
import PyProof.EqAt
import PyProof.EqKinds
import PyProof.TupleCall
import HandS.Base
import HandS.Call
import HandS.Exc
import HandS.TryMany
import HandS.ExcOwn
import PyProof.Draws
import KE.GoesMore
import KE.GoesEnum
import HandS.List
import HandS.Dict
import HandS.Iter
import PyProof.NeKinds
import HandS.Text
import HandS.ForMost
import HandS.TryOnly
import HandS.WordsExc
import HandS.IsInst
import HandS.Walk
import HandS.TupAny
import HandS.ExcInit
import HandS.ExcField
import HandS.Evl
import PySem.Challenge.RW_buildroom_k00_trees_refused
import PyProof.StrBlock2
set_option Elab.async false
set_option linter.all false
set_option maxRecDepth 100000
set_option maxHeartbeats 8000000
namespace Bk
open PySem PySem.Spec PyProof.Rows L2

/-! ## try with several clauses, some of them «as n» -/
abbrev Cl := Value × Option Nat × (Addr → Value → Option Addr → TS)
def clEnds (n : Option Nat) (D : Ends) : Ends := match n with
  | none => D
  | some i => { nx := fun τ G => D.nx (τ.set i none) G, rt := D.rt, bk := fun τ G => D.bk (τ.set i none) G, ct := fun τ G => D.ct (τ.set i none) G }
def clSlots (n : Option Nat) (τ : L2.St) (a : Addr) : L2.St := match n with
  | none => τ
  | some i => τ.set i (some (.ref a))
def wMix (K : PySem.W.Frag) (Wo : WX) (D : Ends) : List Cl → WX
  | [] => Wo
  | (c, n, ts) :: r => fun cls d τ G => ∃ b, PySem.W.exmOne K cls c = some b ∧
      (b = true → ∀ a, G a = none → ts a cls d (clEnds n D) (clSlots n τ a) G) ∧ (b = false → wMix K Wo D r cls d τ G)
inductive HMix (X : Cx) : List ExceptHandler → List Cl → Prop
  | nil : HMix X [] []
  | bare {x : Str} {c : Value} {ts : Addr → Value → Option Addr → TS} {b0 : Stmt} {bs : List Stmt} {q1 q2 : Pos} {hs : List ExceptHandler} {l : List Cl} (hc : Names X x c)
      (su : ∀ (a : Addr) (oe : Obj) (cls : Value) (d : Option Addr) (pn : List (Addr × Obj)), Zc cls d oe → (∃ vs, oe.data = .fields vs) → PSs (X.suite a ((a, oe) :: pn)) (b0 :: bs) (ts a cls d)) (r : HMix X hs l) :
      HMix X (.ExceptHandler (some (.Name x q1)) none (b0 :: bs) q2 :: hs) ((c, none, ts) :: l)
  | named {x n : Str} {i : Nat} {c : Value} {ts : Addr → Value → Option Addr → TS} {b0 : Stmt} {bs : List Stmt} {q1 q2 : Pos} {hs : List ExceptHandler} {l : List Cl} (hc : Names X x c)
      (hi : X.N[i]? = some n) (hl : X.env.kindOf n = some .local)
      (su : ∀ (a : Addr) (oe : Obj) (cls : Value) (d : Option Addr) (pn : List (Addr × Obj)), Zc cls d oe → (∃ vs, oe.data = .fields vs) → PSs (X.suite a ((a, oe) :: pn)) (b0 :: bs) (ts a cls d)) (r : HMix X hs l) :
      HMix X (.ExceptHandler (some (.Name x q1)) (some n) (b0 :: bs) q2 :: hs) ((c, some i, ts) :: l)
section
variable {X : Cx} {body : List Stmt} {h0 : ExceptHandler} {hs : List ExceptHandler} {l : List Cl} {pos : Pos} {tb : WX → TS} {Wo : WX}
theorem ps_try_mix (st : X.stack = X.env :: X.outer) (fr : X.env.frame = some X.env.locals) (nd : X.N.Nodup) (tk : Takes X Wo)
    (hb : ∀ (W : WX) (pn : List (Addr × Obj)) (xe : Value → Shared → Prop), Takes (X.tr pn xe) W → PassesOwn (model X.prog X.w) X.A X.env xe → PSs (X.tr pn xe) body (tb W))
    (hh : HMix X (h0 :: hs) l) : PS X (.Try body (h0 :: hs) [] [] pos) (fun D τ G => tb (wMix X.K Wo D l) D τ G) := by
  refine ⟨fun pins s τ G D I h => ?_⟩
  have ok := I.ok
  have fram : X.A.frames = some (X.env :: X.outer) := by rw [ok.frames, st]
  refine wpAny_Try_except ?_
  refine wpAny_mono ((hb (wMix X.K Wo D l) (X.pn ++ pins) (fun e s1 => wpAny (model X.prog X.w) X.A (noteFrame e X.env) (fun _ s2 =>
    wpAny (model X.prog X.w) X.A (setFlight e none) (fun _ s3 => wpAny (model X.prog X.w) X.A (handleBy e X.env (h0 :: hs)) (SP X pins D) X.xe s3) X.xe s2) X.xe s1)
    (fun u s' xx => ?caught) PassesOwn.looking).run [] s τ G D (I.toTry _) h) (fun f s1 sp => ?through) (fun e s1 z => z)
  case through =>
    cases f with
    | next =>
      obtain ⟨τ', G', J, q⟩ := sp
      exact wpAny_execs_nil ⟨τ', G', J.ofTry ok, q⟩
    | brk => obtain ⟨τ', G', J, q⟩ := sp; exact ⟨τ', G', J.ofTry ok, q⟩
    | cont => obtain ⟨τ', G', J, q⟩ := sp; exact ⟨τ', G', J.ofTry ok, q⟩
    | ret u => obtain ⟨v, τ', G', J, r, q⟩ := sp; exact ⟨v, τ', G', J.ofTry ok, r, q⟩
  case caught =>
    obtain ⟨a, B, sI, pins1, τ1, G1, cls, d, rfl, J0, nb, up, sky, na, os, ag, w⟩ := xx
    have J : Inv X pins τ1 G1 sI := J0.ofTry ok
    have sky1 : Sky B (X.env :: X.outer) a (Zc cls d) X.env.locals s'.heap := by rw [← st]; exact sky
    show wpAny (model X.prog X.w) X.A (noteFrame (.ref a) X.env) _ _ _
    refine Sky.land Zc.steady fram fr sky1 fun g3 fl3 up3 => ?_
    have J3 : Inv X pins τ1 G1 { s' with heap := g3 } := J.landed nb fl3.1 (up.trans up3) os ag
    obtain ⟨o3, v3, e3, z3, d3⟩ := fl3.there
    have nofr : a ∉ frs (X.env :: X.outer) := fun hm => by
      obtain ⟨_, o', e', hn⟩ := fl3.2.2.1.mem hm
      rw [e3] at e'
      cases e'
      exact hn _ d3
    have nL : a ≠ X.env.locals := fun z => nofr (List.mem_filterMap.mpr ⟨X.env, List.mem_cons_self, by rw [fr, z]⟩)
    have nF : a ∉ X.fs := fun hm => by
      obtain ⟨e, he, q⟩ := List.mem_filterMap.mp hm
      exact nofr (List.mem_filterMap.mpr ⟨e, List.mem_cons_of_mem _ he, q⟩)
    have S3 := J3.suite e3 d3 na nL nF
    have typ : PySem.W.Looks (model X.prog X.w) g3 (typeOf (.ref a)) cls := fun A Q E s k q => wpAny_typeOf_ref (k _ _ e3) (by rw [z3.1]; exact q)
    have named : ∀ {x : Str} {c : Value} {np : Pos} {Q E : Value → Shared → Prop}, Names X x c → Q c { s' with heap := g3 } →
        wpAny (model X.prog X.w) (X.A.mark (some (.ref a))) (eval (.Name x np) X.env) Q E { s' with heap := g3 } := fun {x c np Q E} hc q => by
      obtain ⟨hg, hdbg, hm | ⟨hm, hv, hnn⟩⟩ := hc
      · exact ld_glob (X := X.suite a ((a, o3) :: (X.pn ++ pins))) S3 hg hm q hdbg
      · exact ld_blt (X := X.suite a ((a, o3) :: (X.pn ++ pins))) S3 hg hm hv q hnn hdbg
    have go : ∀ {hs1 : List ExceptHandler} {l1 : List Cl}, HMix X hs1 l1 → wMix X.K Wo D l1 cls d τ1 G1 →
        wpAny (model X.prog X.w) X.A (handleBy (.ref a) X.env hs1) (SP X pins D) X.xe { s' with heap := g3 } := by
      intro hs1 l1 hk
      induction hk with
      | nil =>
        intro w
        refine wpAny_handleBy_nil ?_
        obtain ⟨k1, k2, k3, oe, vs, T, oT, ts', he, hz, hd, h1, hr⟩ := id fl3
        unfold PySem.passOn
        refine wpAny_bind (wpAny_field he hd h1 ?_)
        rw [if_neg (show ¬ ((Value.ref T == Value.none) = true) from by simp)]
        have fin : wpAny (model X.prog X.w) X.A (setFlight (.ref a) X.env.frame) (fun _ s4 => wpAny (model X.prog X.w) X.A (throw (.ref a) : Sem Flow) (SP X pins D) X.xe s4) X.xe { s' with heap := g3 } := by
          rw [fr]
          refine HandSPX.setFlight_upZ fl3 fun g4 hh4 up4 => wpAny_throw (tk _ _ ?_)
          exact ⟨a, B, sI, pins, τ1, G1, cls, d, rfl, J, nb, (up.trans up3).trans up4, .inr (.inr (by rw [st]; exact hh4)), na, os, ag, w⟩
        first
          | exact wpAny_bind (wpAny_pure (wpAny_bind fin))
          | exact wpAny_bind fin
      | @bare x c ts b0 bs q1 q2 hs2 l2 hc su r ih =>
        rintro ⟨b, hb1, yes, no⟩
        have LM := PySem.W.exm_one (M := model X.prog X.w) (J3.kIn) typ hb1
        refine wpAny_handleBy_cons (codeAny_handlers_test ?_) (by intro q; cases q)
        refine named hc (LM.here ?_)
        cases b with
        | false =>
          show wpAny _ X.A (handleBy (.ref a) X.env hs2) _ _ _
          exact ih (no rfl)
        | true =>
          refine codeAny_handlers_suite ?_
          refine HandSPX.lands_againZ fl3 fun g4 fl4 up4 => ?_
          have J4 : Inv X pins τ1 G1 { s' with heap := g4 } := J.landed nb fl4.1 ((up.trans up3).trans up4) os ag
          obtain ⟨o4, v4, e4, z4, d4⟩ := fl4.there
          have S4 := J4.suite e4 d4 na nL nF
          refine wpAny_mono ((su a o4 cls d (X.pn ++ pins) z4 ⟨_, d4⟩).run [] _ _ G1 _ S4 (yes rfl a na)) (fun f s6 sp => ?_) (fun _ _ z => False.elim z)
          cases f with
          | next => obtain ⟨t6, G6, S6, q6⟩ := sp; exact ⟨_, _, S6.unsuite ok, q6⟩
          | brk => obtain ⟨t6, G6, S6, q6⟩ := sp; exact ⟨_, _, S6.unsuite ok, q6⟩
          | cont => obtain ⟨t6, G6, S6, q6⟩ := sp; exact ⟨_, _, S6.unsuite ok, q6⟩
          | ret u => obtain ⟨v6, t6, G6, S6, r6, q6⟩ := sp; exact ⟨_, _, _, S6.unsuite ok, r6, q6⟩
      | @named x n i c ts b0 bs q1 q2 hs2 l2 hc hi hl su r ih =>
        rintro ⟨b, hb1, yes, no⟩
        have LM := PySem.W.exm_one (M := model X.prog X.w) (J3.kIn) typ hb1
        refine wpAny_handleBy_cons (codeAny_handlers_test ?_) (by intro q; cases q)
        refine named hc (LM.here ?_)
        cases b with
        | false =>
          show wpAny _ X.A (handleBy (.ref a) X.env hs2) _ _ _
          exact ih (no rfl)
        | true =>
          refine codeAny_handlers_suite_as ?_
          refine HandSPX.lands_againZ fl3 fun g4 fl4 up4 => ?_
          have J4 : Inv X pins τ1 G1 { s' with heap := g4 } := J.landed nb fl4.1 ((up.trans up3).trans up4) os ag
          obtain ⟨o4, v4, e4, z4, d4⟩ := fl4.there
          have S4 := J4.suite e4 d4 na nL nF
          refine store_ok (X := X.suite a ((a, o4) :: (X.pn ++ pins))) (v := .ref a) S4 nd hi (.inl hl) rfl (fun s5 S5 => ?_) (.inr hl)
          refine wpAny_mono ((su a o4 cls d (X.pn ++ pins) z4 ⟨_, d4⟩).run [] s5 _ G1 _ S5 (yes rfl a na)) (fun f s6 sp => ?_) (fun _ _ z => False.elim z)
          have fin : ∀ {t6 : L2.St} {G6 : Hp} {Q : Shared → Prop}, Inv (X.suite a ((a, o4) :: (X.pn ++ pins))) [] t6 G6 s6 → (∀ s7, Inv X pins (t6.set i none) G6 s7 → Q s7) →
              wpAny (model X.prog X.w) X.A (do bindName X.env n .none; unbindBehindTheSuite X.env n q2) (fun _ s7 => Q s7) X.xe s6 := fun {t6 G6 Q} S6 hq => gone_ok (S6.unsuite ok) nd hi hl hq
          cases f with
          | next => obtain ⟨t6, G6, S6, q6⟩ := sp; exact fin S6 fun s7 J7 => ⟨_, _, J7, q6⟩
          | brk => obtain ⟨t6, G6, S6, q6⟩ := sp; exact fin S6 fun s7 J7 => ⟨_, _, J7, q6⟩
          | cont => obtain ⟨t6, G6, S6, q6⟩ := sp; exact fin S6 fun s7 J7 => ⟨_, _, J7, q6⟩
          | ret u => obtain ⟨v6, t6, G6, S6, r6, q6⟩ := sp; exact fin S6 fun s7 J7 => ⟨_, _, _, J7, r6, q6⟩
    exact go hh w
end

/-! ## f(e, ..) where f is any expression that gives a def -/
structure CanCall (X : Cx) (CX : CXT) (k : Nat) (f : Addr) (sp : Sp) : Prop where
  ex : ∃ (fd : FuncData) (ps : List Str), FnOk X.prog X.w X.K X.mg X.base CX k f fd ps sp ∧ PySem.W.keepIn X.K (.ref f) = true ∧ Binds X.K fd ps []
/-- the promise goes with the address: S f sp -/
def tCallE (S : Addr → Sp → Prop) (E : L2.St → XK) (tf : TE) (t : TA) : TE := fun σ H Q => tf σ H fun y H1 => ∃ f sp, y = .ref f ∧ S f sp ∧ t σ H1 fun vs H2 => sp vs H2 Q (E σ)
section
variable {X : Cx} {CX : CXT} {k : Nat} {S : Addr → Sp → Prop} {E : L2.St → XK} {fe e : Expr} {es : List Expr} {tf : TE} {t : TA} {pos : Pos}
theorem pe_callE (hf : PE X fe tf) (A : ∀ f sp, S f sp → CanCall X CX k f sp) (hr : Room k X.A) (hx : ∀ σ, PassesAt CX X σ (E σ)) (ha : PA X (e :: es) t)
    (ht : eval (.Call fe (e :: es) [] pos) X.env = (do callWith pos (← eval fe X.env) [] (backTo pos (starEach (e :: es) X.env)) (backToKw pos (keywordEach [] X.env))) := by rfl)
    (he : starEach (e :: es) X.env = (false, eval e X.env) :: starEach es X.env := by rfl) (hpl : (backTo pos (starEach es X.env)).any (·.1) = false := by rfl) :
    PE X (.Call fe (e :: es) [] pos) (tCallE S E tf t) := by
  refine ⟨fun pins s σ H Q I h => ?_⟩
  rw [ht]
  refine wpAny_bind (thn (hf.run pins s σ H _ I h) fun u s1 q1 => ?_)
  obtain ⟨y, H1, I1, ry, f, sp, ey, hs, q⟩ := q1
  subst ey
  cases ry
  obtain ⟨fd, ps, F, hk, hb⟩ := (A f sp hs).ex
  refine PySem.W.callWith_K (h₀ := X.base) I.ok.mod.kin hk (thn (ha.run pos pins s1 σ H1 _ I1 q) fun us s2 q2 => ?_) he hpl
  obtain ⟨vs, H2, I2, r, q3⟩ := q2
  exact ⟨I2.kIn, run_fnS F hr hb (hx σ) I2 r q3⟩
end
end Bk
namespace Bk
open PySem PySem.Spec PyProof.Rows L2

/-! ## for i, x in enumerate(a tuple) -/
set_option maxHeartbeats 4000000 in
theorem enum_new1 {v : Value} {o : Obj} {G : Heap → Prop} (B : Begins v o G) :
    Meets (Builtin.«enumerate.__new__» ⟨[.type "enumerate", v], []⟩) (fun _ R s => G s.heap ∧
      R (.ok (.ret (.ref (s.heap.push o).objs.size))) { s with heap := (s.heap.push o).push { cls := .type "enumerate", data := .fields #[.none, .bool false, .ref s.heap.objs.size, rawInt 0, .none, .none] } }) :=
  .of_wp fun prog w A R s h => by
    obtain ⟨hp, g, d, tk, os⟩ := s
    obtain ⟨h1, h⟩ := h
    have hsub := sub_enumerate
    have it0 : ∀ {A' : Around} {E : Value → Shared → Prop} {Q : Value → Shared → Prop}, Q (.ref hp.objs.size) ⟨hp.push o, g, d, tk, os⟩ → wpAny (model prog w) A' (pyIter v) Q E ⟨hp, g, d, tk, os⟩ :=
      fun q => B.iter prog w _ _ ⟨hp, g, d, tk, os⟩ _ h1 q
    wp_walk using it0
    refine wpAny_stack_any fun st => wpAny_pure ?_
    split
    · rename_i c _ _ _ _ _
      cases (c == Value.type "enumerate") <;> (wp_walk using it0; exact ⟨_, rfl, h⟩)
    · wp_walk using it0
      exact ⟨_, rfl, h⟩
section
variable {prog : Program} {w : World} {A : Around} {E : Value → Shared → Prop} {s : Shared}
theorem enum_call1 {v : Value} {o : Obj} {G : Heap → Prop} {Q : Value → Shared → Prop} (B : Begins v o G) (h1 : G s.heap)
    (h : ∀ g, IsEnum g (s.heap.objs.size + 1) s.heap.objs.size 0 .none → g.get? s.heap.objs.size = some o → g.objs.size = s.heap.objs.size + 2 →
      (∀ b o, s.heap.get? b = some o → g.get? b = some o) → Q (.ref (s.heap.objs.size + 1)) { s with heap := g }) :
    wpAny (model prog w) A (call (.type "enumerate") [v]) Q E s := by
  refine callType_new F.called_enumerate (by decide) (F.typeCall_enumerate_1 _) (F.newCall_enumerate_1 _) (fun obj => F.args_object_init_2 obj _) F.entry_enumerate_new (enum_new1 B) ⟨h1, ?_⟩
  have z : (s.heap.push o).objs.size = s.heap.objs.size + 1 := Heap.size_push ..
  show _ ∧ _
  rw [z]
  have e0 := Heap.get?_push_size (s.heap.push o) (o := { cls := .type "enumerate", data := .fields #[.none, .bool false, .ref s.heap.objs.size, rawInt 0, .none, .none] }) rfl
  rw [z] at e0
  exact ⟨⟨_, e0, rfl⟩, h _ e0 (Heap.get?_push_of_some _ (Heap.get?_push_size _ B.free)) (by rw [Heap.size_push, z]) fun b o x => Heap.get?_push_of_some _ (Heap.get?_push_of_some _ x)⟩
end
/-- the tuple at a, each item in a new pair -/
def ItEt (K : PySem.W.Frag) (a : Addr) : It :=
  ⟨fun i G => ∃ (xs : List V) (x : V), SqT K G a xs ∧ xs[i]? = some x,
   fun i G v G' => ∃ T x, v = .ref T ∧ G T = none ∧ G' = upd G T (.tup [.int (i : Nat), x]) ∧ ∀ xs, SqT K G a xs → xs[i]? = some x,
   fun i G => ∃ xs : List V, SqT K G a xs ∧ xs.length ≤ i⟩
theorem turn_enumT {P : Program} {w : World} {K : PySem.W.Frag} {elts : List Expr} {kk : Nat} {tpos : Pos} (a e it : Addr) (hai : a ≠ it) (hea : e ≠ a) :
    Turn P w K (.Tuple elts kk tpos) (ItEt K a) [e, it] e (fun i g => (∃ old, IsEnum g e it ((i : Nat) : Int) old) ∧ g.IsTupleIter it a i ∧ e ≠ it) where
  mem := by simp
  obj := fun i g st b hb => by
    obtain ⟨⟨old, he⟩, ⟨o, ho, hc, hd⟩, _⟩ := st
    have two : b = e ∨ b = it := by simpa using hb
    rcases two with z | z
    · rw [z]; exact ⟨_, he, fun v q => nomatch q⟩
    · rw [z]; exact ⟨o, ho, fun v q => by rw [hd] at q; cases q⟩
  keep := fun i g g' st k => let ⟨⟨old, he⟩, hi, hne⟩ := st; ⟨⟨old, k e (by simp) _ he⟩, hi.at fun o q => k it (by simp) o q, hne⟩
  item := by
    intro X eP ew eK hc i pins s τ G E I hf st hg
    subst eP ew eK
    obtain ⟨⟨old, he⟩, hit, hne⟩ := st
    obtain ⟨xs, x, hq, hx⟩ := hg
    obtain ⟨its, rv, p, hz⟩ := I.tuple hq
    obtain ⟨u, hu, ru⟩ := rv.get hx
    have hel : e < s.heap.objs.size := Heap.lt_size he
    have hil : it < s.heap.objs.size := by obtain ⟨_, q, _⟩ := hit; exact Heap.lt_size q
    have lt : i < its.toArray.size := by
      have l1 := (List.getElem?_eq_some_iff.mp hu).1
      simpa using l1
    have tup : s.heap.IsTuple a its.toArray := p
    refine wpAny_pyNext_enum_itemD (Draws.tuple (show X.A.in1.handled = none from I.ok.hd hc) it a hai its.toArray) he ⟨hit, tup⟩ lt hne (by simp [hne, hea]) fun y g' tk hy ho hst hT hsz hk => ?_
    obtain rfl : u = y := by
      have h1 : its.toArray[i]? = some u := by simpa using hu
      exact Option.some.inj (h1.symm.trans hy)
    refine ⟨_, rfl, wpAny_letOwnedTupleGo_enum (s := { s with heap := g', toks := tk + 1 }) ho fun g2 he2 sb => ?_⟩
    have hT2 : g2.get? s.heap.objs.size = some { cls := .type "tuple", data := .seq #[.int i tk, u] } := (sb.2 _ (Nat.ne_of_gt hel)).trans hT
    have new : ObjOk X.prog X.w (upd G s.heap.objs.size (.tup [.int (i : Nat), x])) g2 s.heap.objs.size (.tup [.int (i : Nat), x]) :=
      ⟨by show 2 ≤ sizeLine; decide, [.int i tk, u], .cons ⟨_, rfl⟩ (.cons ru .nil), ⟨_, hT2, rfl, _, rfl⟩⟩
    have I1 : Inv X pins τ (upd G s.heap.objs.size (.tup [.int (i : Nat), x])) { s with heap := g2, toks := tk + 1 } :=
      I.turnedNew (ch := [e, it]) (fun b ob hb q => (sb.2 b (fun z => hb (by simp [z]))).trans (hk b ob (fun z => hb (by simp [z])) (fun z => hb (by simp [z])) q)) hf (Nat.le_refl _) new
    refine ⟨.ref s.heap.objs.size, _, I1, rfl, ⟨_, x, rfl, I.hok.fresh (Nat.le_refl _), rfl, fun ys hy => by rw [I.tuple_inj hy hq]; exact hx⟩, ⟨⟨u, ?_⟩, hst.1.at fun o q => (sb.2 it (Ne.symm hne)).trans q, hne⟩, fun b hb => ?_⟩
    · have e1 : ((i + 1 : Nat) : Int) = (i : Int) + 1 := by omega
      rw [e1]
      exact he2
    · have two : b = e ∨ b = it := by simpa using hb
      have lt2 : b < s.heap.objs.size := by
        rcases two with z | z
        · rw [z]; exact hel
        · rw [z]; exact hil
      rw [upd_ne (Nat.ne_of_lt lt2)]
      exact (hf b hb).1
  done := by
    intro X eP ew eK hc i pins s τ G E I hf st hg
    subst eP ew eK
    obtain ⟨⟨old, he⟩, hit, hne⟩ := st
    obtain ⟨xs, hq, hx⟩ := hg
    obtain ⟨its, rv, p, hz⟩ := I.tuple hq
    obtain ⟨f0, f1, f2, f3, f4, f5⟩ := hf it (by simp)
    have tup : s.heap.IsTuple a its.toArray := p
    have hl := rv.length
    have hT : s.TypeIs (.ref e) "enumerate" := ⟨_, he, rfl⟩
    unfold pyNext
    refine wpAny_bind (wpAny_attempt (wpAny_callSpecial?_slot (name := Str.ofString "__next__") hT F.slot_enumerate_next (wpAny_call_entry F.slot_enumerate_next hT F.entry_enumerate_next ?_ (F.args_enumerate_next_1 _))))
    show wpAny _ _ (field (.ref e) 2 >>= _) _ _ _
    refine wpAny_bind (wpAny_field he rfl (x := .ref it) rfl ?_)
    refine wpAny_bind (wpAny_nextOf_tuple_end (show X.A.in1.handled = none from I.ok.hd hc) hit tup (by simp; omega) fun g' x' eb hx' => ?_)
    obtain ⟨o, ho, hc'⟩ := hx'
    refine wpAny_bind (wpAny_isInstance (T := "StopIteration") (b := true) ⟨o, ho, hc'⟩ isSubtype_stop ?_)
    exact wpAny_pure ⟨rfl, I.turned (t' := s.toks) (fun b o hb q => eb b o hb q) f0 f1 f3 f4 f5⟩
  self := fun A i s Q E st h => let ⟨⟨_, he⟩, _⟩ := st; wpAny_pyIter_enum he h
def iEnumT (K : PySem.W.Frag) (ta : TA) : TI := fun τ G R => ta τ G fun vs G1 => ∃ a xs, vs = [.ref a] ∧ SqT K G1 a xs ∧ R (ItEt K a) G1
theorem pi_enumT {X : Cx} {e : Expr} {ta : TA} {p pos tpos : Pos} {elts : List Expr} {kk : Nat} (hg : Gl X "enumerate") (hm : X.mg "enumerate" = none) (ha : PA X [e] ta) (hs : starEach [e] X.env = [(false, eval e X.env)] := by rfl) :
    PI X (.Tuple elts kk tpos) (.Call (.Name "enumerate" p) [e] [] pos) (iEnumT X.K ta) := by
  refine ⟨fun pins s τ G R I h => ?_⟩
  refine Call_ (ld_blt I hg hm boot_enumerate (PyProof.Rows.callWith_type1 (thn (ha.run pos pins s τ G _ I h) fun us s1 q0 => ?_) hs rfl))
  obtain ⟨vs, G1, I1, r1, a, xs, ex, hq, q⟩ := q0
  subst ex
  cases r1 with
  | cons r rr =>
    cases rr
    cases r
    obtain ⟨its, rv, p', hz⟩ := I1.tuple hq
    have tup : s1.heap.IsTuple a its.toArray := p'
    have hlt : a < s1.heap.objs.size := by obtain ⟨o, eo, _⟩ := tup; exact Heap.lt_size eo
    refine enum_call1 (begins_tuple a its.toArray) tup fun g he hit hsz hk => wpAny_pyIter_enum he ?_
    have I2 : Inv X pins τ G1 { s1 with heap := g } := I1.kept (t' := s1.toks) hk
    refine ⟨s1.heap.objs.size + 1, [s1.heap.objs.size + 1, s1.heap.objs.size], _, _, G1, rfl, I2, turn_enumT a (s1.heap.objs.size + 1) s1.heap.objs.size (Nat.ne_of_lt hlt) (Nat.ne_of_gt (Nat.lt_succ_of_lt hlt)),
      ⟨⟨.none, he⟩, ⟨_, hit, rfl, rfl⟩, Nat.succ_ne_self _⟩, fun b hb => ?_, q⟩
    have two : b = s1.heap.objs.size + 1 ∨ b = s1.heap.objs.size := by simpa using hb
    have hle : s1.heap.objs.size ≤ b := by
      rcases two with z | z
      · rw [z]; exact Nat.le_add_right _ _
      · rw [z]; exact Nat.le_refl _
    exact I1.fpOk hle (I1.hok.fresh hle)
/-- over a tuple that the body leaves as it is -/
theorem for_enumT {K : PySem.W.Frag} {a : Addr} {xs : List V} {g : TG} {tb : TS} {D : Ends} {τ : L2.St} {G : Hp} (Pv : Nat → L2.St → Hp → Prop) (h0 : Pv 0 τ G) (hl : ∀ i τ G, i ≤ xs.length → Pv i τ G → SqT K G a xs)
    (step : ∀ i x τ G T, xs[i]? = some x → Pv i τ G → G T = none → g (.ref T) τ (upd G T (.tup [.int (i : Nat), x])) fun τ2 G2 => tb { D with nx := Pv (i + 1), ct := Pv (i + 1), bk := D.nx } τ2 G2)
    (last : ∀ τ G, Pv xs.length τ G → D.nx τ G) :
    ∃ W : Nat → Nat → L2.St → Hp → Prop, (∃ m, W 0 m τ G) ∧ ∀ i m τ G, W i m τ G → ((ItEt K a).stop i G ∧ D.nx τ G) ∨ ((ItEt K a).go i G ∧ ∃ N : L2.St → Hp → Prop,
      (∀ τ' G', N τ' G' → ∃ m', m' < m ∧ W (i + 1) m' τ' G') ∧ ∀ x G', (ItEt K a).yld i G x G' → g x τ G' fun τ2 G2 => tb { D with nx := N, ct := N, bk := D.nx } τ2 G2) := by
  refine ⟨fun i m τ G => m = xs.length - i ∧ i ≤ xs.length ∧ Pv i τ G, ⟨xs.length, by simp, Nat.zero_le _, h0⟩, ?_⟩
  rintro i m τ G ⟨rfl, hi, p⟩
  have q := hl i τ G hi p
  by_cases c : i < xs.length
  · refine .inr ⟨⟨xs, xs[i], q, by simp [c]⟩, Pv (i + 1), fun τ' G' p' => ⟨xs.length - (i + 1), by omega, rfl, c, p'⟩, fun x G' y => ?_⟩
    obtain ⟨T, z, rfl, hT, rfl, hz⟩ := y
    exact step i z τ G T (hz xs q) p hT
  · have e : i = xs.length := by omega
    subst e
    exact .inl ⟨⟨xs, q, Nat.le_refl _⟩, last τ G p⟩

/-! ## a dict against a text -/
theorem deq_str (l : Addr) (o : Obj) (b : Str) (u : Tok) (es : Array DictEntry) (n : Nat) (hd : o.data = .dict es n) (hc : o.cls = .type "dict") :
    Meets (Builtin.«dict.__eq__» ⟨[.ref l, .str b u], []⟩) (fun _ R s => s.heap.get? l = some o ∧ R (.ok (.ret .notImplemented)) s) :=
  .of_wp fun prog w A R s h => by
    obtain ⟨hp, g, d, tk, os⟩ := s
    obtain ⟨hl, h⟩ := h
    obtain ⟨c, dd, dt, sl⟩ := o
    dsimp only at hd hc
    subst hd hc
    have f1 := F.sub_str_dict
    wp_walk using PySem.AutoSeq1.wpAny_loadPart' hl
    exact ⟨_, rfl, h⟩
end Bk
namespace Bk
open PySem PySem.Spec PyProof.Rows L2
theorem dne_str (l : Addr) (o : Obj) (b : Str) (u : Tok) (es : Array DictEntry) (n : Nat) (hd : o.data = .dict es n) (hc : o.cls = .type "dict") :
    Meets (Builtin.«dict.__ne__» ⟨[.ref l, .str b u], []⟩) (fun _ R s => s.heap.get? l = some o ∧ R (.ok (.ret .notImplemented)) s) :=
  .of_wp fun prog w A R s h => by
    obtain ⟨hp, g, d, tk, os⟩ := s
    obtain ⟨hl, h⟩ := h
    obtain ⟨c, dd, dt, sl⟩ := o
    dsimp only at hd hc
    subst hd hc
    have f1 := F.sub_str_dict
    wp_walk using PySem.AutoSeq1.wpAny_loadPart' hl
    exact ⟨_, rfl, h⟩
theorem sne_dict (b : Str) (u : Tok) (l : Addr) (o : Obj) (es : Array DictEntry) (n : Nat) (hd : o.data = .dict es n) :
    Meets (Builtin.«str.__ne__» ⟨[.str b u, .ref l], []⟩) (fun _ R s => s.heap.get? l = some o ∧ R (.ok (.ret .notImplemented)) s) :=
  .of_wp fun prog w A R s h => by
    obtain ⟨hp, g, d, tk, os⟩ := s
    obtain ⟨hl, h⟩ := h
    obtain ⟨c, dd, dt, sl⟩ := o
    dsimp only at hd
    subst hd
    wp_walk using PySem.AutoSeq1.wpAny_loadPart' hl, wpAny_load hl
    exact ⟨_, rfl, h⟩
theorem seq_dict (b : Str) (u : Tok) (l : Addr) (o : Obj) (es : Array DictEntry) (n : Nat) (hd : o.data = .dict es n) :
    Meets (Builtin.«str.__eq__» ⟨[.str b u, .ref l], []⟩) (fun _ R s => s.heap.get? l = some o ∧ R (.ok (.ret .notImplemented)) s) :=
  .of_wp fun prog w A R s h => by
    obtain ⟨hp, g, d, tk, os⟩ := s
    obtain ⟨hl, h⟩ := h
    obtain ⟨c, dd, dt, sl⟩ := o
    dsimp only at hd
    subst hd
    wp_walk using PySem.AutoSeq1.wpAny_loadPart' hl, wpAny_load hl
    exact ⟨_, rfl, h⟩
section
variable {X : Cx}
/-- a tracked dict against a text -/
def rDS (c : Bool) : R2 := fun x y G Q => ∃ a kvs z, x = .ref a ∧ y = .str z ∧ G a = some (.dK kvs) ∧ Q (.bl c) G
theorem dict_obj {pins : List (Addr × Obj)} {τ : L2.St} {G : Hp} {s : Shared} {a : Addr} {kvs : List (Key × V)} (I : Inv X pins τ G s) (h : G a = some (.dK kvs)) :
    ∃ o es n, s.heap.get? a = some o ∧ o.data = .dict es n ∧ o.cls = .type "dict" := by
  obtain ⟨_, _, vs, _, o, es, ep, h1, h2, r⟩ := (show ObjOk X.prog X.w G s.heap a (.dK kvs) from I.hok a _ h)
  exact ⟨o, es, ep, h1, r.1, h2.1⟩
theorem op_ne_ds (hu : X.A.units < cLine) : OpR X (compareOp .NotEq) (rDS true) := by
  intro pins s τ G x y v u Q I rx ry h
  obtain ⟨a, kvs, z, rfl, rfl, ha, q⟩ := h
  cases rx
  obtain ⟨t, rfl⟩ := ry
  obtain ⟨o, es, n, ho, hd, hc⟩ := dict_obj I ha
  show wpAny _ _ (richCompare .NotEq _ _) _ _ s
  exact SeqAt.rc_ne_decline_or (k := false) ⟨o, ho, hc⟩ (typeIs_str s z t) (by decide) F.sub_str_dict F.slot_dict_ne F.slot_str_ne_refl
    (fun _ hq => call_meets F.slot_dict_ne ⟨o, ho, hc⟩ F.entry_dict_ne (F.args_dict_ne_2 _ _) (dne_str a o z t es n hd hc) ⟨ho, hq⟩)
    (fun _ hq => call_meets F.slot_str_ne_refl (typeIs_str s z t) F.entry_str_ne (F.args_str_ne_2 _ _) (sne_dict z t a o es n hd) ⟨ho, hq⟩)
    (fun _ hq => wpAny_of_eq (rfl : isSame (.ref a) (.str z t) = pure false) hq) (.inr hu) ⟨.bl true, G, I, rfl, q⟩
theorem op_eq_ds (hu : X.A.units < cLine) : OpR X (compareOp .Eq) (rDS false) := by
  intro pins s τ G x y v u Q I rx ry h
  obtain ⟨a, kvs, z, rfl, rfl, ha, q⟩ := h
  cases rx
  obtain ⟨t, rfl⟩ := ry
  obtain ⟨o, es, n, ho, hd, hc⟩ := dict_obj I ha
  show wpAny _ _ (richCompare .Eq _ _) _ _ s
  exact SeqAt.rc_eq_decline_or (k := false) ⟨o, ho, hc⟩ (typeIs_str s z t) (by decide) F.sub_str_dict F.slot_dict_eq F.slot_str_eq_refl
    (fun _ hq => call_meets F.slot_dict_eq ⟨o, ho, hc⟩ F.entry_dict_eq (F.args_dict_eq_2 _ _) (deq_str a o z t es n hd hc) ⟨ho, hq⟩)
    (fun _ hq => call_meets F.slot_str_eq_refl (typeIs_str s z t) F.entry_str_eq (F.args_str_eq_2 _ _) (seq_dict z t a o es n hd) ⟨ho, hq⟩)
    (fun _ hq => wpAny_of_eq (rfl : isSame (.ref a) (.str z t) = pure false) hq) (.inr hu) ⟨.bl false, G, I, rfl, q⟩
/-- of two rules for one operator either -/
theorem op_or {f : Value → Value → Sem Value} {r r' : R2} (h : OpR X f r) (h' : OpR X f r') : OpR X f (fun x y G Q => r x y G Q ∨ r' x y G Q) := by
  intro pins s τ G x y v u Q I rx ry q
  rcases q with q | q
  · exact h pins s τ G x y v u Q I rx ry q
  · exact h' pins s τ G x y v u Q I rx ry q
end
end Bk
/-! the mirror of buildroom.paths: what its checks say, over texts -/
namespace Bm
open PySem L2 TL
/-- [a, b, ..] below [c, ..] for single signs -/
theorem lt_one (a b : Nat) : decide (([a] : List Nat) < [b]) = decide (a < b) := by
  rw [Bool.eq_iff_iff, decide_eq_true_eq, decide_eq_true_eq]
  constructor
  · intro h
    cases h with
    | rel h => exact h
    | cons h => cases h
  · intro h
    exact List.Lex.rel h
def sgnN (c : Nat) : Bool := (decide (97 ≤ c) && decide (c ≤ 122)) || (decide (48 ≤ c) && decide (c ≤ 57))
def sgnT (c : Nat) : Bool := (decide (32 ≤ c) && decide (c ≤ 126)) || decide (c = 10)
def nameB (x : Str) : Bool := decide (1 ≤ x.length) && decide (x.length ≤ 6) && x.cps.toList.all sgnN
def partsOf (x : Str) : List Str := Txt.split x (Str.ofString "/")
def pathB (x : Str) : Bool := decide ((partsOf x).length ≤ 3) && (partsOf x).all nameB
def textB (x : Str) : Bool := decide (x.length ≤ 200) && x.cps.toList.all sgnT
def within (p f : Str) : Bool := decide (f = Str.ofString "") || Txt.startswith p (f ++ Str.ofString "/")
def isPathV : V → Bool
  | .str x => pathB x
  | _ => false
def isTextV : V → Bool
  | .str x => textB x
  | _ => false
def isFolderV : V → Bool
  | .str x => pathB x || decide (x = Str.ofString "")
  | _ => false
theorem spl_len {S : List Nat} : ∀ (l : List Nat) (k : Nat) (acc p : List Nat), p ∈ spl S k acc l → p.length ≤ acc.length + l.length
  | [], k, acc, p, h => by
    rw [spl_nil] at h
    have e : p = acc := by simpa using h
    subst e
    simp
  | c :: r, 0, acc, p, h => by
    by_cases q : pre S (c :: r) = true
    · rw [spl_hit q] at h
      rcases List.mem_cons.mp h with rfl | h
      · simp
      · have ih := spl_len r _ _ p h
        simp at ih ⊢
        omega
    · rw [spl_miss (by simpa using q)] at h
      have ih := spl_len r _ _ p h
      simp at ih ⊢
      omega
  | c :: r, k + 1, acc, p, h => by
    have h' : p ∈ spl S k acc r := h
    have ih := spl_len r _ _ p h'
    simp at ih ⊢
    omega
theorem str_len (x : Str) : (tl x).length = x.length := by simp [tl, Str.length]
theorem part_len {x p : Str} (h : p ∈ partsOf x) : p.length ≤ x.length := by
  have e := split_spl x (Str.ofString "/") (by decide) (kind_ok (by decide +kernel))
  have h1 : tl p ∈ (Txt.split x (Str.ofString "/")).map tl := List.mem_map.mpr ⟨p, h, rfl⟩
  rw [e] at h1
  have h2 := spl_len _ _ _ _ h1
  rw [str_len, str_len] at h2
  simpa using h2
example : pathB (Str.ofString "e/f/g") = true := by decide +kernel
example : pathB (Str.ofString "a/b/c/d") = false := by decide +kernel
end Bm
/-! more of what readings evaluate to -/
namespace Be
open PySem PySem.Spec PyProof.Rows L2 Bk Bm Evl
section
variable {K : PySem.W.Frag} {σ : L2.St} {H H' : Hp} {ta tb tc te tx : TE} {t u : TT} {x y z v : V} {r r' : R2}
theorem ev_chain {b1 b2 : Bool} (ha : Ev ta σ H x) (hb : Ev tb σ H y) (hr : RV r x y H (.bl b1)) (hc : b1 = true → Ev tc σ H z) (hr' : b1 = true → RV r' y z H (.bl b2)) : Ev (tChain r r' ta tb tc) σ H (.bl (b1 && b2)) := fun H1 e Q q =>
  ha H1 e _ fun H2 e2 => hb H2 (e.trans e2) _ fun H3 e3 => hr H3 ((e.trans e2).trans e3) _ fun H4 e4 => ⟨b1, rfl, by
    have e14 := (e2.trans e3).trans e4
    cases b1 with
    | false =>
      rw [if_neg (by decide)]
      exact q H4 e14
    | true =>
      rw [if_pos rfl]
      exact hc rfl H4 (e.trans e14) _ fun H5 e5 => hr' rfl H5 ((e.trans e14).trans e5) Q fun H6 e6 => q H6 ((e14.trans e5).trans e6)⟩
theorem ev_isL {xs ys : List V} (h : EvL te σ H xs) (e : xs = ys) : EvL te σ H ys := by
  rw [← e]
  exact h
theorem ev_and {a b : Bool} (h1 : Ev ta σ H (.bl a)) (h2 : a = true → Ev tb σ H (.bl b)) : Ev (tAndV ta tb) σ H (.bl (a && b)) := ev_andV h1 h2
/-- a comprehension over a text, no test -/
theorem el_lcS {j : Nat} {w : Str} {tl : TE} (f : Nat → V) (h : Ev tl σ H (.str w)) (hz : w.length ≤ 40000)
    (he : ∀ (c : Nat) H1, Ex H H1 → c ∈ w.cps.toList → Ev te (σ.set j (some (.str ⟨#[c]⟩))) H1 (f c)) : EvL (tLc (iStr tl) (gName j) tYes te [j]) σ H (w.cps.toList.map f) := fun H0 e Q q => h H0 e _ fun H1 e1 => ⟨w, rfl, fun D hD =>
  lc_it (walk_str (z := w)) (fun i G => Ex H1 G ∧ G D = some (.lst ((w.cps.toList.take i).map f))) ⟨Ex.new hD, upd_same⟩ (fun _ _ _ _ => trivial) (by
    rintro i v G G' hi ⟨s1, hd⟩ ⟨rfl, c, hc, rfl⟩
    have hl : w.cps.toList[i]? = some c := by simpa using hc
    have ee : (wipe σ [j]).set j (some (V.str ⟨#[c]⟩)) = σ.set j (some (V.str ⟨#[c]⟩)) := by
      show (σ.set j none).set j (some (V.str ⟨#[c]⟩)) = _
      rw [List.set_set]
    show wipe ((wipe σ [j]).set j (some (V.str ⟨#[c]⟩))) [j] = wipe σ [j] ∧ _
    rw [ee]
    refine ⟨by show (σ.set j _).set j none = σ.set j none; rw [List.set_set], ?_⟩
    unfold tYes
    dsimp only
    rw [if_pos rfl]
    refine he c G' ((e.trans e1).trans s1) (List.mem_of_getElem? hl) G' (Ex.refl _) _ fun G2 e2 => ⟨_, e2 D _ hd, sz_lt ?_, (s1.trans e2).mut hD, ?_⟩
    · rw [List.length_map]
      have h1 := List.length_take_le i w.cps.toList
      have h2 : w.cps.toList.length = w.length := by simp [Str.length]
      have h3 := List.length_take_le' i w.cps.toList
      omega
    · rw [upd_same, List.take_succ, hl]
      simp) (by
    rintro G ⟨s1, hd⟩
    refine q D G (fresh_back e1 hD) (e1.trans s1) ?_
    rw [hd]
    have h2 : w.cps.toList.length = w.cps.size := by simp
    rw [List.take_of_length_le (Nat.le_of_eq h2)])⟩
/-- over a list, no test -/
theorem el_lcN {j : Nat} {xs : List V} {tl : TE} (f : V → V) (h : EvL tl σ H xs) (hz : xs.length ≤ 40000)
    (he : ∀ (x : V) H1, Ex H H1 → x ∈ xs → Ev te (σ.set j (some x)) H1 (f x)) : EvL (tLc (iList K tl) (gName j) tYes te [j]) σ H (xs.map f) := fun H0 e Q q => h H0 e _ fun a H1 ha e1 hx => ⟨a, rfl, ⟨xs, sq_of hx⟩, fun D hD =>
  lc_it (walk_list (K := K) (a := a) (xs := xs)) (fun i G => Ex H1 G ∧ G D = some (.lst ((xs.take i).map f))) ⟨Ex.new hD, upd_same⟩ (fun i G _ p => sq_of (p.1 a _ hx)) (by
    rintro i v G G' hi ⟨s1, hd⟩ ⟨rfl, hl⟩
    have ee : (wipe σ [j]).set j (some v) = σ.set j (some v) := by
      show (σ.set j none).set j (some v) = _
      rw [List.set_set]
    show wipe ((wipe σ [j]).set j (some v)) [j] = wipe σ [j] ∧ _
    rw [ee]
    refine ⟨by show (σ.set j _).set j none = σ.set j none; rw [List.set_set], ?_⟩
    unfold tYes
    dsimp only
    rw [if_pos rfl]
    refine he v G' ((e.trans e1).trans s1) (List.mem_of_getElem? hl) G' (Ex.refl _) _ fun G2 e2 => ⟨_, e2 D _ hd, sz_lt ?_, (s1.trans e2).mut hD, ?_⟩
    · rw [List.length_map]
      have h3 := List.length_take_le' i xs
      omega
    · rw [upd_same, List.take_succ, hl]
      simp) (by
    rintro G ⟨s1, hd⟩
    refine q D G (fresh_back e1 hD) (e1.trans s1) ?_
    rw [hd, List.take_of_length_le (Nat.le_refl _)])⟩
/-- over a tuple, no test -/
theorem el_lcT {j : Nat} {a : Addr} {xs : List V} {tl : TE} (f : V → V) (h : Ev tl σ H (.ref a)) (hx : SqT K H a xs) (hz : xs.length ≤ 40000)
    (he : ∀ (x : V) H1, Ex H H1 → x ∈ xs → Ev te (σ.set j (some x)) H1 (f x)) : EvL (tLc (iTup K tl) (gName j) tYes te [j]) σ H (xs.map f) := fun H0 e Q q => h H0 e _ fun H1 e1 => ⟨a, rfl, ⟨xs, ex_t (e.trans e1) hx⟩, fun D hD =>
  lc_it (walk_tup (K := K) (a := a) (xs := xs)) (fun i G => Ex H1 G ∧ G D = some (.lst ((xs.take i).map f))) ⟨Ex.new hD, upd_same⟩ (fun i G _ p => ex_t ((e.trans e1).trans p.1) hx) (by
    rintro i v G G' hi ⟨s1, hd⟩ ⟨rfl, hl⟩
    have ee : (wipe σ [j]).set j (some v) = σ.set j (some v) := by
      show (σ.set j none).set j (some v) = _
      rw [List.set_set]
    show wipe ((wipe σ [j]).set j (some v)) [j] = wipe σ [j] ∧ _
    rw [ee]
    refine ⟨by show (σ.set j _).set j none = σ.set j none; rw [List.set_set], ?_⟩
    unfold tYes
    dsimp only
    rw [if_pos rfl]
    refine he v G' ((e.trans e1).trans s1) (List.mem_of_getElem? hl) G' (Ex.refl _) _ fun G2 e2 => ⟨_, e2 D _ hd, sz_lt ?_, (s1.trans e2).mut hD, ?_⟩
    · rw [List.length_map]
      have h3 := List.length_take_le' i xs
      omega
    · rw [upd_same, List.take_succ, hl]
      simp) (by
    rintro G ⟨s1, hd⟩
    refine q D G (fresh_back e1 hD) (e1.trans s1) ?_
    rw [hd, List.take_of_length_le (Nat.le_refl _)])⟩
theorem ev_all {bs : List Bool} (h : EvL te σ H (bs.map V.bl)) : Ev (tCB (rAll K) (tCons te tNil)) σ H (.bl (bs.all id)) := fun H1 e Q q =>
  h H1 e _ fun p H2 _ e2 h2 => ⟨p, bs, rfl, sq_of h2, q H2 e2⟩
theorem ev_any {bs : List Bool} (h : EvL te σ H (bs.map V.bl)) : Ev (tCB (rAny K) (tCons te tNil)) σ H (.bl (bs.any id)) := fun H1 e Q q =>
  h H1 e _ fun p H2 _ e2 h2 => ⟨p, bs, rfl, sq_of h2, q H2 e2⟩
theorem ev_lenS {w : Str} (h : Ev te σ H (.str w)) (hl : w.length ≤ 100000) : Ev (tCB (fun xs H Q => ∃ z, xs = [V.str z] ∧ z.length ≤ sizeLine ∧ Q (.int z.length) H) (tCons te tNil)) σ H (.int (w.length : Int)) := fun H1 e Q q =>
  h H1 e _ fun H2 e2 => ⟨w, rfl, sz_of hl, q H2 e2⟩
/-- what isinstance asks of any value of these programs -/
inductive Kd (K : PySem.W.Frag) (H : Hp) : V → String → Prop
  | mk {v : V} {n : String} (h : TyX K H v (.type n)) (k : n ∈ (["NoneType", "bool", "int", "str", "list", "tuple", "dict"] : List String)) : Kd K H v n
theorem kd_str (x : Str) : Kd K H (.str x) "str" := ⟨.base (.str x), by decide⟩
theorem kd_non : Kd K H .non "NoneType" := ⟨.base .non, by decide⟩
theorem kd_int (i : Int) : Kd K H (.int i) "int" := ⟨.base (.int i), by decide⟩
theorem kd_bl (b : Bool) : Kd K H (.bl b) "bool" := ⟨.base (.bl b), by decide⟩
theorem kd_lst {a : Addr} {xs : List V} (h : H a = some (.lst xs)) : Kd K H (.ref a) "list" := ⟨.base (.lst h), by decide⟩
theorem kd_tup {a : Addr} {xs : List V} (h : H a = some (.tup xs)) : Kd K H (.ref a) "tuple" := ⟨.base (.tup h), by decide⟩
theorem kd_dK {a : Addr} {kvs : List (Key × V)} (h : H a = some (.dK kvs)) : Kd K H (.ref a) "dict" := ⟨.base (.dK h), by decide⟩
theorem tyOf_mono {v : V} {T : Value} (e : Ex H H') (h : TyOf K H v T) : TyOf K H' v T := by
  cases h with
  | non => exact .non
  | bl b => exact .bl b
  | int i => exact .int i
  | str x => exact .str x
  | flt x => exact .flt x
  | lst h => exact .lst (e _ _ h)
  | frz h => exact .frz (e _ _ h)
  | tup h => exact .tup (e _ _ h)
  | dK h => exact .dK (e _ _ h)
  | dT h => exact .dT (e _ _ h)
  | ins h a b c d f => exact .ins (e _ _ h) a b c d f
theorem tyX_mono {v : V} {T : Value} (e : Ex H H') (h : TyX K H v T) : TyX K H' v T := by
  cases h with
  | base h => exact .base (tyOf_mono e h)
  | byt b => exact .byt b
  | set h => exact .set (e _ _ h)
  | kList h c => exact .kList h c
  | kTuple h c => exact .kTuple h c
  | kDict h c => exact .kDict h c
  | fTuple h => exact .fTuple (e _ _ h)
  | fDict h => exact .fDict (e _ _ h)
theorem Kd.mono {n : String} (e : Ex H H') (h : Kd K H v n) : Kd K H' v n := by
  obtain ⟨h, k⟩ := h
  exact ⟨tyX_mono e h, k⟩
theorem kd_kit {n m : String} (h : Kd K H v n) (hm : m = "str" ∨ m = "tuple") : PySem.W.kitOne K (.type n) (.type m) = some (decide (n = m)) := by
  obtain ⟨_, k⟩ := h
  simp only [List.mem_cons, List.not_mem_nil, or_false] at k
  rcases hm with rfl | rfl <;> rcases k with rfl | rfl | rfl | rfl | rfl | rfl | rfl <;> exact kit_ty (by decide +kernel)
theorem ev_isi {n m : String} (h : Ev te σ H v) (hc : Ev tx σ H (.ty m)) (k : Kd K H v n) (hm : m = "str" ∨ m = "tuple") : Ev (tCB (rIsi K) (tCons te (tCons tx tNil))) σ H (.bl (decide (n = m))) := fun H1 e Q q =>
  h H1 e _ fun H2 e2 => hc H2 (e.trans e2) _ fun H3 e3 => by
    obtain ⟨ty, kk⟩ := id (k.mono ((e.trans e2).trans e3))
    exact ⟨v, .ty m, .type n, .type m, _, rfl, .ty m, ty, kd_kit k hm, q H3 (e2.trans e3)⟩
/-- s.split(sep) -/
theorem el_split {w s : Str} (h : Ev te σ H (.str w)) (hs : Ev tx σ H (.str s)) (h0 : (s.length == 0) = false) (hl : w.length ≤ 100000) :
    EvL (tM1 (fun x xs H Q => ∃ a b, x = .str a ∧ xs = [.str b] ∧ (b.length == 0) = false ∧ a.length + 2 ≤ sizeLine ∧ rNewStrs (Txt.split a b) H Q) te tx) σ H ((Txt.split w s).map V.str) := fun H1 e Q q =>
  h H1 e _ fun H2 e2 => ⟨⟨w, rfl⟩, hs H2 (e.trans e2) _ fun H3 e3 => ⟨w, s, rfl, rfl, h0, Nat.le_trans (Nat.add_le_add_right hl 2) (by rw [sizeLine_eq]; decide), fun p hp => q p _ (fresh_back (e2.trans e3) hp) ((e2.trans e3).trans (Ex.new hp)) upd_same⟩⟩
/-- over a list that stands, no test -/
theorem el_lcA {j : Nat} {a : Addr} {xs : List V} {tl : TE} (f : V → V) (h : Ev tl σ H (.ref a)) (hx : SqL K H a xs) (hz : xs.length ≤ 40000)
    (he : ∀ (x : V) H1, Ex H H1 → x ∈ xs → Ev te (σ.set j (some x)) H1 (f x)) : EvL (tLc (iList K tl) (gName j) tYes te [j]) σ H (xs.map f) := fun H0 e Q q => h H0 e _ fun H1 e1 => ⟨a, rfl, ⟨xs, ex_l (e.trans e1) hx⟩, fun D hD =>
  lc_it (walk_list (K := K) (a := a) (xs := xs)) (fun i G => Ex H1 G ∧ G D = some (.lst ((xs.take i).map f))) ⟨Ex.new hD, upd_same⟩ (fun i G _ p => ex_l ((e.trans e1).trans p.1) hx) (by
    rintro i v G G' hi ⟨s1, hd⟩ ⟨rfl, hl⟩
    have ee : (wipe σ [j]).set j (some v) = σ.set j (some v) := by
      show (σ.set j none).set j (some v) = _
      rw [List.set_set]
    show wipe ((wipe σ [j]).set j (some v)) [j] = wipe σ [j] ∧ _
    rw [ee]
    refine ⟨by show (σ.set j _).set j none = σ.set j none; rw [List.set_set], ?_⟩
    unfold tYes
    dsimp only
    rw [if_pos rfl]
    refine he v G' ((e.trans e1).trans s1) (List.mem_of_getElem? hl) G' (Ex.refl _) _ fun G2 e2 => ⟨_, e2 D _ hd, sz_lt ?_, (s1.trans e2).mut hD, ?_⟩
    · rw [List.length_map]
      have h3 := List.length_take_le' i xs
      omega
    · rw [upd_same, List.take_succ, hl]
      simp) (by
    rintro G ⟨s1, hd⟩
    refine q D G (fresh_back e1 hD) (e1.trans s1) ?_
    rw [hd, List.take_of_length_le (Nat.le_refl _)])⟩
theorem kd_strV {x : Str} {n : String} (h : Kd K H (.str x) n) : n = "str" := by
  obtain ⟨h, _⟩ := h
  cases h with
  | base h => cases h; rfl
theorem kd_isStr {v : V} (h : Kd K H v "str") : ∃ x, v = .str x := by
  obtain ⟨h, _⟩ := h
  generalize e : Value.type "str" = T at h
  cases h with
  | base h =>
    cases h with
    | str x => exact ⟨x, rfl⟩
    | ins => cases e
    | _ => simp at e
  | _ => simp at e
theorem kd_isTup {v : V} (h : Kd K H v "tuple") : ∃ a, v = .ref a := by
  obtain ⟨h, _⟩ := h
  generalize e : Value.type "tuple" = T at h
  cases h with
  | base h =>
    cases h with
    | tup h => exact ⟨_, rfl⟩
    | ins => cases e
    | _ => simp at e
  | kTuple h c => exact ⟨_, rfl⟩
  | fTuple h => exact ⟨_, rfl⟩
  | _ => simp at e
/-- a def as its callers see it -/
structure Cal (P : Program) (w : World) (K : PySem.W.Frag) (mg : Str → Option Value) (base : Heap) (CX : CXT) (k : Nat) (x : Str) (ps : List Str) (sp : Sp) where
  f : Addr
  fd : FuncData
  F : FnOk P w K mg base CX k f fd ps sp
  g : mg x = some (.ref f)
  kp : PySem.W.keepIn K (.ref f) = true
  b : Binds K fd ps []
end
end Be
namespace Bp
open PySem PySem.Spec PyProof.Rows L2 Bk Bm Evl Be
def top (i : Nat) : Stmt := PySem.Challenge.pw_buildroom_k00_trees_refused.main.body.getD i (.Pass ⟨0, 0, 0, 0⟩)
abbrev sLies : Stmt := top 21
abbrev sIsName : Stmt := top 23
abbrev sIsPath : Stmt := top 24
abbrev sIsFolder : Stmt := top 25
abbrev sIsText : Stmt := top 26
abbrev sHas : Stmt := top 27
abbrev sIsFile : Stmt := top 28
abbrev sFollow : Stmt := top 29
/-- the built-ins and the module's constants -/
structure Gv (mg : Str → Option Value) : Prop where
  len : mg "len" = none
  all : mg "all" = none
  any : mg "any" = none
  isi : mg "isinstance" = none
  str : mg "str" = none
  tup : mg "tuple" = none
  lst : mg "list" = none
  int : mg "int" = none
  rng : mg "range" = none
  enu : mg "enumerate" = none
  mn : ∃ t, mg "MOST_NAMES" = some (.int 3 t)
  ln : ∃ t, mg "LONGEST_NAME" = some (.int 6 t)
  lt : ∃ t, mg "LONGEST_TEXT" = some (.int 200 t)
  mf : ∃ t, mg "MOST_FILES" = some (.int 20 t)
section
variable {σ : L2.St} {H : Hp}
theorem rv_leS {a b : Str} {k : Bool} (e : (!decide (b.cps.toList < a.cps.toList)) = k) : RV (fun x y H Q => ∃ i j, x = V.str i ∧ y = V.str j ∧ Q (.bl (!decide (j.cps.toList < i.cps.toList))) H) (.str a) (.str b) H (.bl k) := fun H1 _ Q q =>
  ⟨a, b, rfl, rfl, by rw [e]; exact q H1 (Ex.refl H1)⟩
theorem rv_gtS {a b : Str} : RV (fun x y H Q => ∃ i j, x = V.str i ∧ y = V.str j ∧ Q (.bl (decide (j.cps.toList < i.cps.toList))) H) (.str a) (.str b) H (.bl (decide (b.cps.toList < a.cps.toList))) := fun H1 _ Q q =>
  ⟨a, b, rfl, rfl, q H1 (Ex.refl H1)⟩
theorem not_lt_dec (a b : Nat) : (!decide (a < b)) = decide (b ≤ a) := by
  by_cases h : a < b
  · rw [decide_eq_true h, decide_eq_false (by omega)]; rfl
  · rw [decide_eq_false h, decide_eq_true (by omega)]; rfl
theorem le_lo {c n : Nat} : (!decide ((⟨#[c]⟩ : Str).cps.toList < (⟨#[n]⟩ : Str).cps.toList)) = decide (n ≤ c) := by
  show (!decide (([c] : List Nat) < [n])) = _
  rw [lt_one, not_lt_dec]
end
section
variable {P : Program} {w : World} {K : PySem.W.Frag} {mg : Str → Option Value} {base : Heap}
/-! ### is_name -/
def spName : Sp := fun vs H Q _ => ∃ x : Str, vs = [.str x] ∧ x.length ≤ 100000 ∧ RetV (.bl (nameB x)) H Q
theorem scName : FnScope ["word", "sign"] ["word"] (defScope sIsName) := ⟨rfl, rfl, rfl, by decide +kernel, rfl, by decide +kernel, by decide +kernel⟩
theorem ok_name {f : Addr} {fd : FuncData} (F : Fun K "is_name" "is_name" sIsName f fd) (T : Gv mg) : FnOk P w K mg base CX0 1 f fd ["word"] spName := by
  refine F.ok scName (fun vs H Q E h => ?_) (fun cdv A outer s H vs Q E hr h => ?_)
  · obtain ⟨x, rfl, _⟩ := h
    rfl
  · obtain ⟨x, rfl, hl, k⟩ := h
    obtain ⟨t1, m1⟩ := T.ln
    refine ⟨_, pss_one (ps_ret (pe_and (pe_chain op_le op_le pe_int (pe_callB call_len_str (by rfl) T.len PySem.boot_len (pa_cons (pv 0) pa_nil)) (pe_glob (v := .int 6) (by rfl) m1 ⟨_, rfl⟩))
      (pe_one (pe_callB (cr_all rfl) (by rfl) T.all boot_all (pa_cons (pe_lc (own := [("sign", 1)]) (g := gName 1) (tt := tYes) rfl scName.nd (pi_str (pv 0)) (blkOk_by (N := ["word", "sign"]) (sc := defScope sIsName) (by decide +kernel))
        (fun _ _ _ _ _ => pg_name (i := 1) scName.nd rfl (Or.inl rfl)) (fun _ _ _ _ _ => pts_nil)
        (fun _ _ _ _ _ => pe_or (pe_chain op_le_str op_le_str pe_str (pv 1) pe_str) (pe_one (pe_chain op_le_str op_le_str pe_str (pv 1) pe_str)))) pa_nil))))), ?_⟩
    refine s_ret (v := .bl (nameB x)) ?_ k
    refine ev_is (ev_and (a := decide ((1:Int) ≤ x.length) && decide ((x.length : Int) ≤ 6)) (b := (x.cps.toList.map sgnN).all id)
      (ev_chain ev_c (ev_lenS (ev_var rfl) hl) (rv_I0) (fun _ => ev_c) (fun _ => rv_I0))
      (fun hh => ev_all (ev_isL (el_lcS (fun c => .bl (sgnN c)) (ev_var rfl) ?_ fun c H1 e1 hc => ?_) ?_))) ?_
    · simp only [Bool.and_eq_true, decide_eq_true_eq] at hh
      omega
    · exact ev_orV (a := decide (97 ≤ c) && decide (c ≤ 122)) (b := decide (48 ≤ c) && decide (c ≤ 57)) (ev_chain ev_c (ev_var rfl) (rv_leS le_lo) (fun _ => ev_c) (fun _ => rv_leS le_lo)) (fun _ => ev_chain ev_c (ev_var rfl) (rv_leS le_lo) (fun _ => ev_c) (fun _ => rv_leS le_lo))
    · simp
    · have d1 : decide ((1 : Int) ≤ (x.length : Int)) = decide (1 ≤ x.length) := decide_eq_decide.mpr (by omega)
      have d2 : decide ((x.length : Int) ≤ 6) = decide (x.length ≤ 6) := decide_eq_decide.mpr (by omega)
      rw [d1, d2]
      simp [nameB, List.all_map]
/-! ### is_path -/
def spPath : Sp := fun vs H Q _ => ∃ v n, vs = [v] ∧ Kd K H v n ∧ (∀ x, v = .str x → x.length ≤ 100000) ∧ RetV (.bl (isPathV v)) H Q
theorem scPath : FnScope ["value", "names", "name"] ["value"] (defScope sIsPath) := ⟨rfl, rfl, rfl, by decide +kernel, rfl, by decide +kernel, by decide +kernel⟩
theorem ok_path {f : Addr} {fd : FuncData} (F : Fun K "is_path" "is_path" sIsPath f fd) (T : Gv mg) (cN : Cal P w K mg base CX0 1 "is_name" ["word"] spName) : FnOk P w K mg base CX0 2 f fd ["value"] (spPath (K := K)) := by
  refine F.ok scPath (fun vs H Q E h => ?_) (fun cdv A outer s H vs Q E hr h => ?_)
  · obtain ⟨x, n, rfl, _⟩ := h
    rfl
  · obtain ⟨v, n, rfl, kd, hl, k⟩ := h
    obtain ⟨t1, m1⟩ := T.mn
    refine ⟨_, pss_cons (ps_if (pt_not (pt_val (pe_callB call_isi (by rfl) T.isi boot_isinstance (pa_cons (pv 0) (pa_cons (pe_bltn (v := .ty "str") (by rfl) T.str (by decide +kernel) rfl) pa_nil))))) (pss_one (ps_ret pe_bl)) pss_nil)
      (pss_cons (ps_set (i := 1) scPath.nd rfl (Or.inl rfl) (pe_split (pv 0) pe_str))
      (pss_one (ps_ret (pe_and (pe_cmpR op_le (pe_callB call_len_seq (by rfl) T.len PySem.boot_len (pa_cons (pv 1) pa_nil)) (pe_glob (v := .int 3) (by rfl) m1 ⟨_, rfl⟩) (nomark _))
        (pe_one (pe_callB (cr_all rfl) (by rfl) T.all boot_all (pa_cons (pe_lc (own := [("name", 2)]) (g := gName 2) (tt := tYes) rfl scPath.nd (pi_list (pv 1)) (blkOk_by (N := ["value", "names", "name"]) (sc := defScope sIsPath) (by decide +kernel))
          (fun _ _ _ _ _ => pg_name (i := 2) scPath.nd rfl (Or.inl rfl)) (fun _ _ _ _ _ => pts_nil)
          (fun _ _ _ _ _ => pe_call cN.F hr rfl cN.g cN.kp cN.b .nil pass0 (pa_cons (pv 2) pa_nil))) pa_nil))))))), ?_⟩
    refine q_when (et_not (et_B (ev_isi (ev_var rfl) ev_c kd (.inl rfl)))) (fun hb H1 e1 => ?_) (fun hb H1 e1 => ?_)
    · have hn : n ≠ "str" := by simpa using hb
      refine s_ret (v := .bl (isPathV v)) (ev_is ev_c ?_) fun H2 e2 => k H2 (e1.trans e2)
      cases v with
      | str x => exact absurd (kd_strV kd) hn
      | _ => rfl
    · have hn : n = "str" := by simpa using hb
      subst hn
      obtain ⟨x, rfl⟩ := kd_isStr kd
      have hx := hl x rfl
      refine q_asgL (el_split (ev_var rfl) ev_c (by decide) hx) fun p H2 hp e2 h2 => ?_
      refine s_ret (v := .bl (pathB x)) ?_ fun H3 e3 => k H3 ((e1.trans e2).trans e3)
      refine ev_is (ev_and (a := decide (((partsOf x).length : Int) ≤ 3)) (b := ((partsOf x).map nameB).all id)
        (ev_is (ev_op (ev_len (ev_var rfl) (sq_of h2)) ev_c rv_I0) ?_)
        (fun hh => ev_all (ev_isL (el_lcA (fun y => match y with | .str z => .bl (nameB z) | _ => .non) (ev_var rfl) (sq_of h2) ?_ fun y H4 e4 hy => ?_) ?_))) ?_
      · rw [List.length_map]
        rfl
      · have h3 : ((partsOf x).length : Int) ≤ 3 := by simpa using hh
        rw [List.length_map]
        have h4 : (Txt.split x (Str.ofString "/")).length = (partsOf x).length := rfl
        omega
      · obtain ⟨z, hz, rfl⟩ := List.mem_map.mp hy
        have h5 := part_len (x := x) (p := z) hz
        exact ev_call (ea_cons (ev_var rfl) ea_nil) fun H5 e5 Q' q' E' => ⟨z, rfl, by omega, q'⟩
      · simp [partsOf]
      · have d1 : decide (((partsOf x).length : Int) ≤ 3) = decide ((partsOf x).length ≤ 3) := decide_eq_decide.mpr (by omega)
        rw [d1]
        simp [pathB, List.all_map]
/-! ### is_text -/
def spText : Sp := fun vs H Q _ => ∃ v n, vs = [v] ∧ Kd K H v n ∧ (∀ x, v = .str x → x.length ≤ 100000) ∧ RetV (.bl (isTextV v)) H Q
theorem scHas : FnScope ["value", "most", "sign"] ["value", "most"] (defScope sHas) := ⟨rfl, rfl, rfl, by decide +kernel, rfl, by decide +kernel, by decide +kernel⟩
def hasB (m : Nat) (x : Str) : Bool := decide (x.length ≤ m) && x.cps.toList.all sgnT
def hasV (m : Nat) : V → Bool
  | .str x => hasB m x
  | _ => false
def spHas : Sp := fun vs H Q _ => ∃ v n, ∃ m : Nat, vs = [v, .int (m : Int)] ∧ m ≤ 40000 ∧ Kd K H v n ∧ (∀ x, v = .str x → x.length ≤ 100000) ∧ RetV (.bl (hasV m v)) H Q
theorem ok_has {f : Addr} {fd : FuncData} (F : Fun K "has_signs" "has_signs" sHas f fd) (T : Gv mg) : FnOk P w K mg base CX0 1 f fd ["value", "most"] (spHas (K := K)) := by
  refine F.ok scHas (fun vs H Q E h => ?_) (fun cdv A outer s H vs Q E hr h => ?_)
  · obtain ⟨x, n, m, rfl, _⟩ := h
    rfl
  · obtain ⟨v, n, m, rfl, hm, kd, hl, k⟩ := h
    refine ⟨_, pss_cons (ps_if (pw_or (pt_not (pt_val (pe_callB call_isi (by rfl) T.isi boot_isinstance (pa_cons (pv 0) (pa_cons (pe_bltn (v := .ty "str") (by rfl) T.str (by decide +kernel) rfl) pa_nil)))))
        (pw_or1 (pt_cmpR op_gt (pe_callB call_len_str (by rfl) T.len PySem.boot_len (pa_cons (pv 0) pa_nil)) (pv 1) (nomark _)))).pt (pss_one (ps_ret pe_bl)) pss_nil)
      (pss_one (ps_ret (pe_callB (cr_all rfl) (by rfl) T.all boot_all (pa_cons (pe_lc (own := [("sign", 2)]) (g := gName 2) (tt := tYes) rfl scHas.nd (pi_str (pv 0)) (blkOk_by (N := ["value", "most", "sign"]) (sc := defScope sHas) (by decide +kernel))
          (fun _ _ _ _ _ => pg_name (i := 2) scHas.nd rfl (Or.inl rfl)) (fun _ _ _ _ _ => pts_nil)
          (fun _ _ _ _ _ => pe_or (pe_chain op_le_str op_le_str pe_str (pv 2) pe_str) (pe_one (pe_cmpR op_eq (pv 2) pe_str (nomark _))))) pa_nil)))), ?_⟩
    refine q_when (b := !(decide (n = "str")) || (match v with | .str x => decide ((m : Int) < x.length) | _ => false)) (et_or (et_not (et_B (ev_isi (ev_var rfl) ev_c kd (.inl rfl)))) fun hb => ?_) (fun hb H1 e1 => ?_) (fun hb H1 e1 => ?_)
    · have hn : n = "str" := by simpa using hb
      subst hn
      obtain ⟨x, rfl⟩ := kd_isStr kd
      exact et_test (ev_op (ev_lenS (ev_var rfl) (hl x rfl)) (ev_var rfl) rv_I0)
    · refine s_ret (v := .bl (hasV m v)) (ev_is ev_c ?_) fun H2 e2 => k H2 (e1.trans e2)
      cases v with
      | str x =>
        have hn := kd_strV kd
        subst hn
        have h6 : (m : Int) < x.length := by simpa using hb
        have h7 : hasB m x = false := by
          simp only [hasB, Bool.and_eq_false_iff, decide_eq_false_iff_not]
          left
          omega
        show _ = V.bl (hasB m x)
        rw [h7]
      | _ => rfl
    · have hb' := hb
      simp only [Bool.or_eq_false_iff] at hb'
      have hn : n = "str" := by simpa using hb'.1
      subst hn
      obtain ⟨x, rfl⟩ := kd_isStr kd
      have h6 : (x.length : Int) ≤ m := by simpa using hb'.2
      refine s_ret (v := .bl (hasB m x)) ?_ fun H2 e2 => k H2 (e1.trans e2)
      refine ev_is (ev_all (bs := x.cps.toList.map sgnT) (ev_isL (el_lcS (fun c => .bl (sgnT c)) (ev_var rfl) (by omega) fun c H1 e1 hc => ?_) ?_)) ?_
      · exact ev_orV (a := decide (32 ≤ c) && decide (c ≤ 126)) (b := decide (c = 10)) (ev_chain ev_c (ev_var rfl) (rv_leS le_lo) (fun _ => ev_c) (fun _ => rv_leS le_lo)) (fun _ => ev_is (ev_op (ev_var rfl) ev_c (rv_eq rfl)) (by
          congr 1
          rw [Bool.eq_iff_iff, decide_eq_true_eq, decide_eq_true_eq]
          constructor
          · intro h
            injection h with h
            have h8 : ([c] : List Nat) = [10] := congrArg (fun z : Str => z.cps.toList) h
            simpa using h8
          · rintro rfl
            rfl))
      · simp
      · simp [hasB, List.all_map]
        intro _
        omega
theorem scText : FnScope ["value"] ["value"] (defScope sIsText) := ⟨rfl, rfl, rfl, by decide +kernel, rfl, by decide +kernel, by decide +kernel⟩
theorem ok_text {f : Addr} {fd : FuncData} (F : Fun K "is_text" "is_text" sIsText f fd) (T : Gv mg) (cH : Cal P w K mg base CX0 1 "has_signs" ["value", "most"] (spHas (K := K))) : FnOk P w K mg base CX0 2 f fd ["value"] (spText (K := K)) := by
  refine F.ok scText (fun vs H Q E h => ?_) (fun cdv A outer s H vs Q E hr h => ?_)
  · obtain ⟨x, n, rfl, _⟩ := h
    rfl
  · obtain ⟨v, n, rfl, kd, hl, k⟩ := h
    obtain ⟨t1, m1⟩ := T.lt
    refine ⟨_, pss_one (ps_ret (pe_call cH.F hr (by rfl) cH.g cH.kp cH.b .nil pass0 (pa_cons (pv 0) (pa_cons (pe_glob (v := .int 200) (by rfl) m1 ⟨_, rfl⟩) pa_nil)))), ?_⟩
    refine s_ret (v := .bl (isTextV v)) (ev_call (ea_cons (ev_var rfl) (ea_cons ev_c ea_nil)) fun H1 e Q q E => ⟨v, n, 200, rfl, by decide, kd.mono e, hl, ?_⟩) k
    have z : hasV 200 v = isTextV v := by cases v <;> rfl
    rw [z]
    exact q
/-! ### is_folder -/
theorem scFolder : FnScope ["value"] ["value"] (defScope sIsFolder) := ⟨rfl, rfl, rfl, by decide +kernel, rfl, by decide +kernel, by decide +kernel⟩
/-! ### lies_within -/
def spLies : Sp := fun vs H Q _ => ∃ p f : Str, vs = [.str p, .str f] ∧ f.length ≤ 100000 ∧ RetV (.bl (within p f)) H Q
theorem scLies : FnScope ["path", "folder"] ["path", "folder"] (defScope sLies) := ⟨rfl, rfl, rfl, by decide +kernel, rfl, by decide +kernel, by decide +kernel⟩
theorem ok_lies {f : Addr} {fd : FuncData} (F : Fun K "lies_within" "lies_within" sLies f fd) : FnOk P w K mg base CX0 1 f fd ["path", "folder"] spLies := by
  refine F.ok scLies (fun vs H Q E h => ?_) (fun cdv A outer s H vs Q E hr h => ?_)
  · obtain ⟨x, n, rfl, _⟩ := h
    rfl
  · obtain ⟨p, fo, rfl, hl, k⟩ := h
    refine ⟨_, pss_one (ps_ret (pe_or (pe_cmpR op_eq (pv 1) pe_str (nomark _)) (pe_one (pe_m1 PySem.F.slot_str_startswith PySem.F.type_str_startswith mt_startswith (pv 0) (pe_op op_add_str (pv 1) pe_str))))), ?_⟩
    refine s_ret (v := .bl (within p fo)) ?_ k
    refine ev_is (ev_orV (a := decide (V.str fo = V.str (Str.ofString ""))) (b := Txt.startswith p (fo ++ Str.ofString "/")) (ev_op (ev_var rfl) ev_c (rv_eq rfl)) (fun _ =>
      fun H1 e1 Q q => ⟨_, rfl, ⟨p, rfl⟩, ev_op (r := fun x y H Q => ∃ i j, x = .str i ∧ y = .str j ∧ i.length + j.length ≤ sizeLine ∧ Q (.str (i ++ j)) H) (ev_var (v := .str fo) rfl) (ev_c (v := .str (Str.ofString "/"))) (z := .str (fo ++ Str.ofString "/"))
        (fun H2 e2 Q2 q2 => ⟨fo, _, rfl, rfl, Nat.le_trans (Nat.add_le_add_right hl 1) (by rw [sizeLine_eq]; decide), q2 H2 (Ex.refl _)⟩) H1 e1 _ fun H2 e2 => ⟨p, _, rfl, rfl, q H2 e2⟩⟩)) ?_
    simp [within]
end
end Bp
namespace Bp
open PySem PySem.Spec PyProof.Rows L2 Bk Bm Evl Be
/-- a small value of any kind -/
inductive Sm (H : Hp) : V → Prop
  | non : Sm H .non
  | bl (b : Bool) : Sm H (.bl b)
  | int (i : Int) : Sm H (.int i)
  | str (x : Str) (h : x.length ≤ 1000) : Sm H (.str x)
  | l1 {a : Addr} (h : H a = some (.lst [.str (Str.ofString "a")])) : Sm H (.ref a)
  | t1 {a : Addr} (h : H a = some (.tup [.str (Str.ofString "a")])) : Sm H (.ref a)
  | d0 {a : Addr} (h : H a = some (.dK [])) : Sm H (.ref a)
section
variable {H H' : Hp} {K : PySem.W.Frag} {v : V}
theorem Sm.mono (e : Ex H H') (h : Sm H v) : Sm H' v := by
  cases h with
  | non => exact .non
  | bl b => exact .bl b
  | int i => exact .int i
  | str x h => exact .str x h
  | l1 h => exact .l1 (e _ _ h)
  | t1 h => exact .t1 (e _ _ h)
  | d0 h => exact .d0 (e _ _ h)
theorem Sm.kd (h : Sm H v) : ∃ n, Kd K H v n := by
  cases h with
  | non => exact ⟨_, kd_non⟩
  | bl b => exact ⟨_, kd_bl b⟩
  | int i => exact ⟨_, kd_int i⟩
  | str x h => exact ⟨_, kd_str x⟩
  | l1 h => exact ⟨_, kd_lst h⟩
  | t1 h => exact ⟨_, kd_tup h⟩
  | d0 h => exact ⟨_, kd_dK h⟩
theorem Sm.len {x : Str} (h : Sm H (.str x)) : x.length ≤ 1000 := by
  cases h with
  | str _ h => exact h
/-- v == "z", v != "z" for small values -/
theorem sh_a : SeqAt.shaped (.tuple [.str (Str.ofString "a")]) = true := by decide +kernel
theorem sh_l : SeqAt.shaped (.list [.str (Str.ofString "a")]) = true := by decide +kernel
def rEqSm (K : PySem.W.Frag) : R2 := fun x y H Q => rEq x y H Q ∨ (rEqD K x y H Q ∨ rDS false x y H Q)
def rNeSm (K : PySem.W.Frag) : R2 := fun x y H Q => rNe x y H Q ∨ (rNeD K x y H Q ∨ rDS true x y H Q)
theorem op_eqSm {X : Cx} (hu : X.A.units + 64 < cLine) : OpR X (compareOp .Eq) (rEqSm X.K) := op_or op_eq (op_or (op_eqD hu) (op_eq_ds (by omega)))
theorem op_neSm {X : Cx} (hu : X.A.units + 64 < cLine) : OpR X (compareOp .NotEq) (rNeSm X.K) := op_or op_ne (op_or (op_neD hu) (op_ne_ds (by omega)))
theorem rv_eqSm {z : Str} (h : Sm H v) (hz : SeqAt.shaped (.str z) = true) : RV (rEqSm K) v (.str z) H (.bl (decide (v = .str z))) := fun H1 e Q q => by
  have g := h.mono e
  have q1 := q H1 (Ex.refl _)
  cases g with
  | non => exact .inl ⟨rfl, q1⟩
  | bl b => exact .inl ⟨rfl, q1⟩
  | int i => exact .inl ⟨rfl, q1⟩
  | str x h => exact .inl ⟨rfl, q1⟩
  | l1 g1 => exact .inr (.inl ⟨_, _, .lst (SqL.of g1) (.cons (.str _) .nil), .str z, sh_l, hz, by simpa [PyData.eqv] using q1⟩)
  | t1 g1 => exact .inr (.inl ⟨_, _, .tup (SqT.of g1) (.cons (.str _) .nil), .str z, sh_a, hz, by simpa [PyData.eqv] using q1⟩)
  | d0 g1 => exact .inr (.inr ⟨_, _, _, rfl, rfl, g1, by simpa using q1⟩)
theorem rv_neSm {z : Str} (h : Sm H v) (hz : SeqAt.shaped (.str z) = true) : RV (rNeSm K) v (.str z) H (.bl (!decide (v = .str z))) := fun H1 e Q q => by
  have g := h.mono e
  have q1 := q H1 (Ex.refl _)
  cases g with
  | non => exact .inl ⟨rfl, q1⟩
  | bl b => exact .inl ⟨rfl, q1⟩
  | int i => exact .inl ⟨rfl, q1⟩
  | str x h => exact .inl ⟨rfl, q1⟩
  | l1 g1 => exact .inr (.inl ⟨_, _, .lst (SqL.of g1) (.cons (.str _) .nil), .str z, sh_l, hz, by simpa [PyData.eqv] using q1⟩)
  | t1 g1 => exact .inr (.inl ⟨_, _, .tup (SqT.of g1) (.cons (.str _) .nil), .str z, sh_a, hz, by simpa [PyData.eqv] using q1⟩)
  | d0 g1 => exact .inr (.inr ⟨_, _, _, rfl, rfl, g1, by simpa using q1⟩)
end
/-- what is_file says of a thing -/
inductive Fil (K : PySem.W.Frag) (H : Hp) : V → Bool → Prop
  | no {v : V} {n : String} (k : Kd K H v n) (h : n ≠ "tuple") : Fil K H v false
  | len {a : Addr} {xs : List V} (h : H a = some (.tup xs)) (hl : xs.length ≠ 2) (hz : xs.length ≤ 1000) : Fil K H (.ref a) false
  | two {a : Addr} {u w : V} (h : H a = some (.tup [u, w])) (hu : Sm H u) (hw : Sm H w) : Fil K H (.ref a) (isPathV u && isTextV w)
theorem Fil.mono {K : PySem.W.Frag} {H H' : Hp} {v : V} {b : Bool} (e : Ex H H') (h : Fil K H v b) : Fil K H' v b := by
  cases h with
  | no k h => exact .no (k.mono e) h
  | len h hl hz => exact .len (e _ _ h) hl hz
  | two h hu hw => exact .two (e _ _ h) (hu.mono e) (hw.mono e)
section
variable {P : Program} {w : World} {K : PySem.W.Frag} {mg : Str → Option Value} {base : Heap}
theorem spv_path {v : V} {H : Hp} (h : Sm H v) : SpV (spPath (K := K)) [v] H (.bl (isPathV v)) := fun H1 e Q q E => by
  obtain ⟨n, kd⟩ := (h.mono e).kd (K := K)
  exact ⟨v, n, rfl, kd, fun x hx => by subst hx; exact Nat.le_trans h.len (by decide), q⟩
theorem spv_text {v : V} {H : Hp} (h : Sm H v) : SpV (spText (K := K)) [v] H (.bl (isTextV v)) := fun H1 e Q q E => by
  obtain ⟨n, kd⟩ := (h.mono e).kd (K := K)
  exact ⟨v, n, rfl, kd, fun x hx => by subst hx; exact Nat.le_trans h.len (by decide), q⟩
/-! ### is_folder -/
def spFolder : Sp := fun vs H Q _ => ∃ v, vs = [v] ∧ Sm H v ∧ RetV (.bl (isFolderV v)) H Q
theorem ok_folder {f : Addr} {fd : FuncData} (F : Fun K "is_folder" "is_folder" sIsFolder f fd) (cP : Cal P w K mg base CX0 2 "is_path" ["value"] (spPath (K := K))) : FnOk P w K mg base CX0 3 f fd ["value"] spFolder := by
  refine F.ok scFolder (fun vs H Q E h => ?_) (fun cdv A outer s H vs Q E hr h => ?_)
  · obtain ⟨x, rfl, _⟩ := h
    rfl
  · obtain ⟨v, rfl, sm, k⟩ := h
    have hu : (A.deeper (envOfC "is_folder" (defScope sIsFolder) s.heap.objs.size f cdv)).units + 64 < cLine := by have := hr.un; omega
    refine ⟨_, pss_one (ps_ret (pe_or (pe_call cP.F hr (by rfl) cP.g cP.kp cP.b .nil pass0 (pa_cons (pv 0) pa_nil)) (pe_one (pe_cmpR (op_eqSm hu) (pv 0) pe_str (nomark _))))), ?_⟩
    refine s_ret (v := .bl (isFolderV v)) ?_ k
    refine ev_is (ev_orV (a := isPathV v) (b := decide (v = .str (Str.ofString ""))) (ev_call (ea_cons (ev_var rfl) ea_nil) (spv_path sm)) (fun _ => ev_op (ev_var rfl) ev_c (rv_eqSm sm (by decide +kernel)))) ?_
    cases v <;> simp [isPathV, isFolderV]
/-! ### is_file -/
theorem scFile : FnScope ["value"] ["value"] (defScope sIsFile) := ⟨rfl, rfl, rfl, by decide +kernel, rfl, by decide +kernel, by decide +kernel⟩
def spFile : Sp := fun vs H Q _ => ∃ v b, vs = [v] ∧ Fil K H v b ∧ RetV (.bl b) H Q
theorem ev_lenT {σ : L2.St} {H : Hp} {ta : TE} {p : Addr} {xs : List V} (ha : Ev ta σ H (.ref p)) (h : SqT K H p xs) : Ev (tCB (rLenS K) (tCons ta tNil)) σ H (.int (xs.length : Int)) := fun H1 e Q q =>
  ha H1 e _ fun H2 e2 => ⟨p, xs, rfl, Or.inr (ex_t (e.trans e2) h), q H2 e2⟩
theorem kd_tupX {H : Hp} {a : Addr} {n : String} {xs : List V} (h : H a = some (.tup xs)) (k : Kd K H (.ref a) n) (hk : n ≠ "tuple") : K.lookup a ≠ none := by
  obtain ⟨t, _⟩ := k
  intro hn
  cases t with
  | base t =>
    cases t with
    | lst e => rw [h] at e; cases e
    | frz e => rw [h] at e; cases e
    | tup e => exact hk rfl
    | dK e => rw [h] at e; cases e
    | dT e => rw [h] at e; cases e
  | set e => rw [h] at e; cases e
  | kList e c => rw [hn] at e; cases e
  | kTuple e c => exact hk rfl
  | kDict e c => rw [hn] at e; cases e
  | fTuple e => exact hk rfl
  | fDict e => rw [h] at e; cases e
theorem ok_file {f : Addr} {fd : FuncData} (F : Fun K "is_file" "is_file" sIsFile f fd) (T : Gv mg) (cP : Cal P w K mg base CX0 2 "is_path" ["value"] (spPath (K := K))) (cT : Cal P w K mg base CX0 2 "is_text" ["value"] (spText (K := K))) :
    FnOk P w K mg base CX0 3 f fd ["value"] (spFile (K := K)) := by
  refine F.ok scFile (fun vs H Q E h => ?_) (fun cdv A outer s H vs Q E hr h => ?_)
  · obtain ⟨x, b, rfl, _⟩ := h
    rfl
  · obtain ⟨v, b, rfl, fi, k⟩ := h
    refine ⟨_, pss_one (ps_ret (pe_and (pe_callB call_isi (by rfl) T.isi boot_isinstance (pa_cons (pv 0) (pa_cons (pe_bltn (v := .ty "tuple") (by rfl) T.tup (by decide +kernel) rfl) pa_nil)))
      (pe_and (pe_cmpR op_eq (pe_callB call_len_seq (by rfl) T.len PySem.boot_len (pa_cons (pv 0) pa_nil)) pe_int (nomark _))
      (pe_and (pe_call cP.F hr (by rfl) cP.g cP.kp cP.b .nil pass0 (pa_cons (pe_ix ix_tup (pv 0) pe_int (fun _ _ => rfl)) pa_nil))
      (pe_one (pe_call cT.F (hr.mono (by decide)) (by rfl) cT.g cT.kp cT.b .nil pass0 (pa_cons (pe_ix ix_tup (pv 0) pe_int (fun _ _ => rfl)) pa_nil))))))), ?_⟩
    refine s_ret (v := .bl b) ?_ k
    cases fi with
    | no kd hn =>
      have e : decide (_ = "tuple") = false := decide_eq_false hn
      exact ev_is (ev_and (b := false) (ev_isi (ev_var rfl) ev_c kd (.inr rfl)) (fun h => by rw [e] at h; cases h)) (by rw [e]; rfl)
    | @len a xs h hl hz =>
      refine ev_is (ev_and (a := true) (b := false) (ev_is (ev_isi (ev_var rfl) ev_c (kd_tup h) (.inr rfl)) rfl) fun _ => ?_) rfl
      have e : decide (V.int (xs.length : Int) = V.int 2) = false := decide_eq_false (fun z => by injection z with z; omega)
      exact ev_is (ev_and (b := false) (ev_is (ev_op (ev_lenT (ev_var rfl) (st_of h)) ev_c (rv_eq rfl)) (by rw [e])) (fun h => by cases h)) rfl
    | @two a u wv h hu hw =>
      refine ev_is (ev_and (a := true) (b := isPathV u && isTextV wv) (ev_is (ev_isi (ev_var rfl) ev_c (kd_tup h) (.inr rfl)) rfl) fun _ => ?_) (by simp)
      refine ev_is (ev_and (a := true) (b := isPathV u && isTextV wv) (ev_is (ev_op (ev_lenT (ev_var rfl) (st_of h)) ev_c (rv_eq rfl)) rfl) fun _ => ?_) (by simp)
      refine ev_and (ev_call (ea_cons (ev_op (ev_var rfl) ev_c (rv_ixT (st_of h) rfl)) ea_nil) (spv_path hu)) fun _ => ?_
      exact ev_call (ea_cons (ev_op (ev_var rfl) ev_c (rv_ixT (st_of h) rfl)) ea_nil) (spv_text hw)
end
end Bp
namespace Bp
open PySem PySem.Spec PyProof.Rows L2 Bk Bm Evl Be
abbrev Fl := Str × Str
/-- a pair (path, text) stands at v -/
def FileAt (H : Hp) (v : V) (f : Fl) : Prop := ∃ b, v = .ref b ∧ H b = some (.tup [.str f.1, .str f.2])
theorem FileAt.mono {H H' : Hp} {v : V} {f : Fl} (e : Ex H H') (h : FileAt H v f) : FileAt H' v f := by
  obtain ⟨b, hv, hb⟩ := h
  exact ⟨b, hv, e _ _ hb⟩
def okF (f : Fl) : Prop := f.1.length ≤ 1000 ∧ f.2.length ≤ 1000 ∧ PyData.strOk f.1 = true ∧ PyData.strOk f.2 = true
theorem paired_mono {α β : Type} {F G : α → β → Prop} {l : List α} {m : List β} (h : Paired F l m) (f : ∀ a b, F a b → G a b) : Paired G l m := by
  induction h with
  | nil => exact .nil
  | cons r _ ih => exact .cons (f _ _ r) ih
theorem paired_mem {α β : Type} {F : α → β → Prop} {l : List α} {m : List β} (h : Paired F l m) {x : α} (hx : x ∈ l) : ∃ y ∈ m, F x y := by
  induction h with
  | nil => cases hx
  | cons r _ ih =>
    rcases List.mem_cons.mp hx with rfl | hx
    · exact ⟨_, List.mem_cons_self, r⟩
    · obtain ⟨y, hy, q⟩ := ih hx
      exact ⟨y, List.mem_cons_of_mem _ hy, q⟩
theorem paired_take {α β : Type} {F : α → β → Prop} {l : List α} {m : List β} (h : Paired F l m) : ∀ n, Paired F (l.take n) (m.take n) := by
  induction h with
  | nil => intro n; simp; exact .nil
  | cons r _ ih =>
    intro n
    cases n with
    | zero => exact .nil
    | succ n => exact .cons r (ih n)
theorem paired_len {α β : Type} {F : α → β → Prop} {l : List α} {m : List β} (h : Paired F l m) : l.length = m.length := by
  induction h with
  | nil => rfl
  | cons r _ ih => simp [ih]
theorem paired_get {α β : Type} {F : α → β → Prop} {l : List α} {m : List β} (h : Paired F l m) : ∀ {i : Nat} {x : α}, l[i]? = some x → ∃ y, m[i]? = some y ∧ F x y := by
  induction h with
  | nil => intro i x e; simp at e
  | cons r _ ih =>
    intro i x e
    cases i with
    | zero =>
      have e' := Option.some.inj e
      subst e'
      exact ⟨_, rfl, r⟩
    | succ i => exact ih (i := i) e
theorem paired_append {α β : Type} {F : α → β → Prop} {l l' : List α} {m m' : List β} (h : Paired F l m) (h' : Paired F l' m') : Paired F (l ++ l') (m ++ m') := by
  induction h with
  | nil => exact h'
  | cons r _ ih => exact .cons r ih
def dF (f : Fl) : PyData := .tuple [.str f.1, .str f.2]
theorem dp_files {K : PySem.W.Frag} {H : Hp} {xs : List V} {fs : List Fl} (h : Paired (FileAt H) xs fs) : DpAll K H xs (fs.map dF) := by
  induction h with
  | nil => exact .nil
  | cons r _ ih =>
    obtain ⟨b, rfl, hb⟩ := r
    exact .cons (.tup (SqT.of hb) (.cons (.str _) (.cons (.str _) .nil))) ih
theorem can_files : ∀ {fs : List Fl}, (∀ f ∈ fs, okF f) → PyData.canLayAll0 (fs.map dF) = true
  | [], _ => rfl
  | f :: r, h => by
    have h1 := h f List.mem_cons_self
    have ih := can_files (fs := r) fun g hg => h g (List.mem_cons_of_mem _ hg)
    show (PyData.canLay0 (dF f) && PyData.canLayAll0 (r.map dF)) = true
    rw [ih, Bool.and_true]
    show ((PyData.strOk f.1) && ((PyData.strOk f.2) && true)) = true
    rw [h1.2.2.1, h1.2.2.2]
    rfl
theorem depth_files : ∀ {fs : List Fl}, PyData.depthAll (fs.map dF) ≤ 3
  | [] => by simp [PyData.depthAll]
  | f :: r => by
    have ih := depth_files (fs := r)
    simp only [List.map_cons, PyData.depthAll, dF, PyData.depth] at ih ⊢
    omega
theorem shaped_files {fs : List Fl} (h : ∀ f ∈ fs, okF f) : SeqAt.shaped (.tuple (fs.map dF)) = true := by
  have h1 := can_files h
  have h2 := depth_files (fs := fs)
  have h3 : PyData.depth (.tuple (fs.map dF)) ≤ 64 := by
    simp only [PyData.depth]
    omega
  show (PyData.canLayAll0 (fs.map dF) && decide (PyData.depth (.tuple (fs.map dF)) ≤ 64)) = true
  rw [h1, decide_eq_true h3]
  rfl
/-- may the path stand behind these files -/
def follow (p : Str) (fs : List Fl) : Bool := match fs.getLast? with
  | none => true
  | some l => decide (l.1.cps.toList < p.cps.toList) && !(fs.any fun f => within p f.1)
section
variable {P : Program} {w : World} {K : PySem.W.Frag} {mg : Str → Option Value} {base : Heap}
theorem scFollow : FnScope ["path", "files", "file"] ["path", "files"] (defScope sFollow) := ⟨rfl, rfl, rfl, by decide +kernel, rfl, by decide +kernel, by decide +kernel⟩
def spFollow : Sp := fun vs H Q _ => ∃ p a xs fs, vs = [.str p, .ref a] ∧ SqT K H a xs ∧ Paired (FileAt H) xs fs ∧ (∀ f ∈ fs, okF f) ∧ p.length ≤ 1000 ∧ fs.length ≤ 1000 ∧ RetV (.bl (follow p fs)) H Q
theorem ok_follow {f : Addr} {fd : FuncData} (F : Fun K "may_follow" "may_follow" sFollow f fd) (T : Gv mg) (cL : Cal P w K mg base CX0 1 "lies_within" ["path", "folder"] spLies) :
    FnOk P w K mg base CX0 2 f fd ["path", "files"] (spFollow (K := K)) := by
  refine F.ok scFollow (fun vs H Q E h => ?_) (fun cdv A outer s H vs Q E hr h => ?_)
  · obtain ⟨p, a, xs, fs, rfl, _⟩ := h
    rfl
  · obtain ⟨p, a, xs, fs, rfl, hx, hp, hok, hl, hn, k⟩ := h
    have hu : (A.deeper (envOfC "may_follow" (defScope sFollow) s.heap.objs.size f cdv)).units + 64 < cLine := by have := hr.un; omega
    refine ⟨_, pss_cons (ps_if (pt_cmpR (op_eqD hu) (pv 1) (pe_tup pa_nil) (nomark _)) (pss_one (ps_ret pe_bl)) pss_nil)
      (pss_one (ps_ret (pe_and (pe_cmpR op_gt_str (pv 0) (pe_ix ix_tup (pe_ix ix_tup (pv 1) (pe_un un_neg pe_int) (fun _ _ => rfl)) pe_int (fun _ _ => rfl)) (nomark _))
        (pe_one (pe_not (pe_callB (cr_any rfl) (by rfl) T.any boot_any (pa_cons (pe_lc (own := [("file", 2)]) (g := gName 2) (tt := tYes) rfl scFollow.nd (pi_tup (pv 1)) (blkOk_by (N := ["path", "files", "file"]) (sc := defScope sFollow) (by decide +kernel))
          (fun _ _ _ _ _ => pg_name (i := 2) scFollow.nd rfl (Or.inl rfl)) (fun _ _ _ _ _ => pts_nil)
          (fun _ _ _ _ _ => pe_call cL.F hr rfl cL.g cL.kp cL.b .nil pass0 (pa_cons (pv 0) (pa_cons (pe_ix (r := rIxT K) ix_tup (pv 2) pe_int (fun _ _ => rfl)) pa_nil)))) pa_nil))))))), ?_⟩
    have test : EvT (tTest (tOp (rEqD K) (tVar 1) (tTup tNil))) (L2.start ["path", "files", "file"] [.str p, .ref a]) H (PyData.eqv (.tuple (fs.map dF)) (.tuple [])) :=
      et_test (ev_opU (ev_var rfl) (eu_tup ea_nil (by decide)) fun q H1 hq e1 H2 e2 Q' q' => ⟨.tuple (fs.map dF), .tuple [], .tup (ex_t (e1.trans e2) hx) (dp_files (paired_mono hp fun _ _ r => r.mono (e1.trans e2))), .tup (st_of (e2 _ _ hq)) .nil, shaped_files hok, by decide +kernel, q' H2 (Ex.refl _)⟩)
    refine q_when test (fun hb H1 e1 => ?_) (fun hb H1 e1 => ?_)
    · have hf : fs = [] := by
        cases fs with
        | nil => rfl
        | cons g r => simp [PyData.eqv, PyData.eqvAll] at hb
      subst hf
      exact s_ret (v := .bl true) ev_c fun H2 e2 => k H2 (e1.trans e2)
    · have hne : fs ≠ [] := fun z => by
        subst z
        simp [PyData.eqv, PyData.eqvAll] at hb
      obtain ⟨gs, g, rfl⟩ : ∃ gs g, fs = gs ++ [g] := ⟨fs.dropLast, fs.getLast hne, (List.dropLast_concat_getLast hne).symm⟩
      have hfol : follow p (gs ++ [g]) = (decide (g.1.cps.toList < p.cps.toList) && !((gs ++ [g]).any fun f => within p f.1)) := by
        unfold follow
        rw [List.getLast?_append]
        rfl
      have hlen := paired_len hp
      have hxg : xs[xs.length - 1]? = some (xs.getD (xs.length - 1) .non) := by
        rw [List.getD_eq_getElem?_getD]
        have : xs.length - 1 < xs.length := by rw [hlen]; simp
        rw [List.getElem?_eq_getElem this]
        rfl
      obtain ⟨y, hy, b, hb1, hb2⟩ := paired_get hp hxg
      have ey : y = g := by
        rw [hlen, List.length_append] at hy
        simp at hy
        exact hy.symm
      subst ey
      have hat : atI xs (-1) = some (.ref b) := by
        unfold atI ixN
        have h0 : 0 < xs.length := by rw [hlen]; simp
        rw [if_neg (by decide), if_pos (by omega)]
        have e1 : ((-1 : Int) + (xs.length : Int)).toNat = xs.length - 1 := by omega
        show xs[((-1 : Int) + (xs.length : Int)).toNat]? = _
        rw [e1, hxg, hb1]
      refine s_ret (v := .bl (follow p (gs ++ [y]))) ?_ fun H2 e2 => k H2 (e1.trans e2)
      rw [hfol]
      refine ev_and (ev_op (ev_var rfl) (ev_op (ev_op (ev_var rfl) (ev_un ev_c ru_neg) (rv_ixT (ex_t e1 hx) hat)) ev_c (rv_ixT (st_of (e1 _ _ hb2)) rfl)) rv_gtS) fun _ => ?_
      refine ev_notV (ev_is (ev_any (bs := (gs ++ [y]).map fun f => within p f.1) (fun H2 e2 Q2 q2 => ?_)) ?_)
      · have big := el_lcT (K := K) (σ := L2.start ["path", "files", "file"] [.str p, .ref a]) (H := H1) (j := 2) (te := tCall spLies [] E0 (tCons (tVar 0) (tCons (tOp (rIxT K) (tVar 2) (tC (.int 0))) tNil)))
          (fun v => match v with | .ref c => (match H c with | some (.tup (.str z :: _)) => .bl (within p z) | _ => .non) | _ => .non) (ev_var (i := 1) (v := .ref a) rfl) (ex_t e1 hx) (by rw [hlen]; omega) (fun x H3 e3 hx3 => ?_)
        · refine ev_isL big ?_ H2 e2 Q2 q2
          have hmap : ∀ {xs : List V} {fs : List Fl}, Paired (FileAt H) xs fs → xs.map (fun v => match v with | .ref c => (match H c with | some (.tup (.str z :: _)) => V.bl (within p z) | _ => .non) | _ => .non) = (fs.map fun f => within p f.1).map V.bl := by
            intro xs fs h
            induction h with
            | nil => rfl
            | cons r _ ih =>
              obtain ⟨c, rfl, hc⟩ := r
              simp only [List.map_cons, ih, hc]
          exact hmap hp
        · obtain ⟨f, hf, c, rfl, hc⟩ := paired_mem hp hx3
          have hcc := e3 _ _ (e1 _ _ hc)
          simp only [hc]
          exact ev_call (ea_cons (ev_var rfl) (ea_cons (ev_op (ev_var rfl) ev_c (rv_ixT (st_of hcc) rfl)) ea_nil)) fun H5 e5 Q' q' E' => ⟨p, f.1, rfl, Nat.le_trans (hok f hf).1 (by decide), q'⟩
      · simp
end
end Bp
namespace Bp
open PySem PySem.Spec PyProof.Rows L2 Bk Bm Evl Be
abbrev vTail : List Value := [.type "ValueError", .type "Exception", .type "BaseException", .type "object"]
/-- an error class without a field, at C -/
structure Xc (K : PySem.W.Frag) (mg : Str → Option Value) (x : Str) (C : Addr) : Prop where
  g : mg x = some (.ref C)
  q : PySem.W.excIn K C vTail "ValueError.__new__" = true
  k : PySem.W.keepIn K (.ref C) = true
  b : PySem.W.subIn K (.ref C) (.type "BaseException") = some true
  t : PySem.W.typeIn K (.ref C) = some (.type "type")
section
variable {X : Cx} {C : Addr} {x : Str} {p pos : Pos}
/-- X() -/
theorem pmk_own0 (c : Xc X.K X.mg x C) (hg : Gl X x) (hdb : (x == ("__debug__" : Str)) = false := by decide) : PMk X (.Call (.Name x p) [] [] pos) (fun _ H Q => Q (.ref C) none H) := by
  intro pins s σ H Q I h
  refine wpAny_Call_Name_kw (ld_glob I hg c.g ?_ hdb)
  refine PySem.W.callWith_K0 I.kIn c.k ?_
  show wpAny _ _ (call (.ref C) []) _ _ _
  obtain ⟨bm, N, nm, qn, bs, hdct, sn, sub, ab, col, dd, k0, k1, k2, k3, k5, mN, hC, hN, hni, T⟩ := exc_obj I.kIn c.q
  refine wpAny_call_exc_subT PySem.F.excBase_ValueError T hC hN hni (fun h' e hm => ?_) (by rw [sizeLine_eq]; decide)
  exact mk_of I hm (raises_own c.b c.t) h (I.hok.gone hm.new)
end
abbrev sCkPath : Stmt := top 30
abbrev sCkFolder : Stmt := top 31
abbrev sCkWords : Stmt := top 32
section
variable {P : Program} {w : World} {K : PySem.W.Frag} {mg : Str → Option Value} {base : Heap}
/-- a check of one small value: nothing, or the error -/
def spCk (C : Addr) (ok : V → Bool) : Sp := fun vs H Q E => ∃ v, vs = [v] ∧ Sm H v ∧ (ok v = true → RetV .non H Q) ∧ (ok v = false → ∀ H', Ex H H' → E (.ref C) none H')
theorem scCkPath : FnScope ["value"] ["value"] (defScope sCkPath) := ⟨rfl, rfl, rfl, by decide +kernel, rfl, by decide +kernel, by decide +kernel⟩
theorem ok_ckPath {f C : Addr} {fd : FuncData} (F : Fun K "check_path" "check_path" sCkPath f fd) (c : Xc K mg "BadPath" C) (cP : Cal P w K mg base CX0 2 "is_path" ["value"] (spPath (K := K))) :
    FnOk P w K mg base (L2.CX P w) 3 f fd ["value"] (spCk C isPathV) := by
  refine F.okX scCkPath (fun vs H Q E h => ?_) (fun cdv A outer s H vs Q E hr h => ?_)
  · obtain ⟨x, rfl, _⟩ := h
    rfl
  · obtain ⟨v, rfl, sm, k1, k2⟩ := h
    refine ⟨_, pss_one (ps_if (pt_not (pt_val (pe_call cP.F hr (by rfl) cP.g cP.kp cP.b .nil pass0 (pa_cons (pv 0) pa_nil)))) (pss_one (ps_raise rfl (takes_of rfl rfl rfl rfl) (pmk_own0 c (by rfl)))) pss_nil), ?_⟩
    refine s_if (et_not (et_B (ev_call (ea_cons (ev_var rfl) ea_nil) (spv_path sm)))) (fun hb H1 e1 => ?_) (fun hb H1 e1 => ?_)
    · exact k2 (by simpa using hb) H1 e1
    · exact k1 (by simpa using hb) H1 e1
theorem scCkFolder : FnScope ["value"] ["value"] (defScope sCkFolder) := ⟨rfl, rfl, rfl, by decide +kernel, rfl, by decide +kernel, by decide +kernel⟩
theorem ok_ckFolder {f C : Addr} {fd : FuncData} (F : Fun K "check_folder" "check_folder" sCkFolder f fd) (c : Xc K mg "BadFolder" C) (cP : Cal P w K mg base CX0 3 "is_folder" ["value"] spFolder) :
    FnOk P w K mg base (L2.CX P w) 4 f fd ["value"] (spCk C isFolderV) := by
  refine F.okX scCkFolder (fun vs H Q E h => ?_) (fun cdv A outer s H vs Q E hr h => ?_)
  · obtain ⟨x, rfl, _⟩ := h
    rfl
  · obtain ⟨v, rfl, sm, k1, k2⟩ := h
    refine ⟨_, pss_one (ps_if (pt_not (pt_val (pe_call cP.F hr (by rfl) cP.g cP.kp cP.b .nil pass0 (pa_cons (pv 0) pa_nil)))) (pss_one (ps_raise rfl (takes_of rfl rfl rfl rfl) (pmk_own0 c (by rfl)))) pss_nil), ?_⟩
    refine s_if (et_not (et_B (ev_call (ea_cons (ev_var rfl) ea_nil) fun H1 e Q q E => ⟨v, rfl, sm.mono e, q⟩))) (fun hb H1 e1 => ?_) (fun hb H1 e1 => ?_)
    · exact k2 (by simpa using hb) H1 e1
    · exact k1 (by simpa using hb) H1 e1
theorem scCkWords : FnScope ["value"] ["value"] (defScope sCkWords) := ⟨rfl, rfl, rfl, by decide +kernel, rfl, by decide +kernel, by decide +kernel⟩
theorem ok_ckWords {f C : Addr} {fd : FuncData} (F : Fun K "check_words" "check_words" sCkWords f fd) (c : Xc K mg "BadWords" C) (cP : Cal P w K mg base CX0 2 "is_text" ["value"] (spText (K := K))) :
    FnOk P w K mg base (L2.CX P w) 3 f fd ["value"] (spCk C isTextV) := by
  refine F.okX scCkWords (fun vs H Q E h => ?_) (fun cdv A outer s H vs Q E hr h => ?_)
  · obtain ⟨x, rfl, _⟩ := h
    rfl
  · obtain ⟨v, rfl, sm, k1, k2⟩ := h
    refine ⟨_, pss_one (ps_if (pt_not (pt_val (pe_call cP.F hr (by rfl) cP.g cP.kp cP.b .nil pass0 (pa_cons (pv 0) pa_nil)))) (pss_one (ps_raise rfl (takes_of rfl rfl rfl rfl) (pmk_own0 c (by rfl)))) pss_nil), ?_⟩
    refine s_if (et_not (et_B (ev_call (ea_cons (ev_var rfl) ea_nil) (spv_text sm)))) (fun hb H1 e1 => ?_) (fun hb H1 e1 => ?_)
    · exact k2 (by simpa using hb) H1 e1
    · exact k1 (by simpa using hb) H1 e1
/-! ### BadTree: its __init__ -/
abbrev sBtI : Stmt := inClass (top 5) 0
theorem scBtI : FnScope ["self", "index"] ["self", "index"] (defScope sBtI) := ⟨rfl, rfl, rfl, by decide +kernel, rfl, by decide +kernel, by decide +kernel⟩
/-- an error class with a field index, at C, its __init__ at fI -/
structure Xi (K : PySem.W.Frag) (mg : Str → Option Value) (x : Str) (C fI : Addr) : Prop where
  g : mg x = some (.ref C)
  o : OexC K C
  f : XfC K C
  n : PySem.W.findIn K (.ref C) "index" = some none
  i : PySem.W.findIn K (.ref C) "__init__" = some (some (.ref fI))
  t : PySem.W.typeIn K (.ref fI) = some (.type "function")
def spXi (K : PySem.W.Frag) (C : Addr) : Sp := fun vs H Q _ => ∃ a v, vs = [.ref a, v] ∧ H a = some (exo a C none) ∧ OexC K C ∧ PySem.W.findIn K (.ref C) "index" = some none ∧
  ∀ dx, H dx = none → dx ≠ a → Q .non (upd (upd H dx (exd dx [(("index" : Str), v)])) a (exo a C (some dx)))
theorem ok_btI {f C : Addr} {fd : FuncData} {q : Str} (F : Fun K "__init__" q sBtI f fd) : FnOk P w K mg base CX0 1 f fd ["self", "index"] (spXi K C) := by
  refine F.ok scBtI (fun vs H Q E h => ?_) (fun cdv A outer s H vs Q E hr h => ?_)
  · obtain ⟨x, v, rfl, _⟩ := h
    rfl
  · obtain ⟨a, v, rfl, ha, o, n, k⟩ := h
    refine ⟨_, pss_one (ps_ost (pv 0) (pv 1)), ?_⟩
    exact ⟨_, rfl, _, rfl, a, C, rfl, o, n, .inl ⟨ha, fun dx hd hne => k dx hd hne⟩⟩
/-- BadTree(e) -/
theorem pmk_xi {X : Cx} {C fI : Addr} {fd : FuncData} {x : Str} {e : Expr} {te : TE} {p pos : Pos} {k : Nat} (c : Xi X.K X.mg x C fI) (F : FnOk X.prog X.w X.K X.mg X.base CX0 1 fI fd ["self", "index"] (spXi X.K C)) (b : Binds X.K fd ["self", "index"] [])
    (hr : Room k X.A) (hk : 2 ≤ k) (hg : Gl X x) (he : PE X e te) (hdb : (x == ("__debug__" : Str)) = false := by decide)
    (hs : starEach (e :: []) X.env = (false, eval e X.env) :: starEach [] X.env := by rfl) (hpl : (backTo pos (starEach [] X.env)).any (·.1) = false := by rfl) :
    PMk X (.Call (.Name x p) [e] [] pos) (tMkO C (spXi X.K C) [] (tCons te tNil)) :=
  pmk_oex c.o c.i c.t F (hr.mono hk) b .nil pass0 hg c.g (pa_cons he pa_nil hs) hdb hs hpl
theorem xi_make {C fI : Addr} {x : Str} {te : TE} {σ : L2.St} {H : Hp} {v : V} {Q : XK} (c : Xi K mg x C fI) (he : Ev te σ H v) (k : ∀ d H', Ex H H' → H' d = some (.xd [(("index" : Str), v)]) → H d = none → Q (.ref C) (some d) H') : tMkO C (spXi K C) [] (tCons te tNil) σ H Q :=
  he H (Ex.refl _) _ fun H1 e1 => ⟨by show 1 ≤ 1000; decide, fun a ha => ⟨a, v, rfl, upd_same, c.o, c.n, fun dx hd hne => by
    have hdn : H1 dx = none := by rw [upd_ne hne] at hd; exact hd
    refine ⟨rfl, dx, [(("index" : Str), v)], upd_same, ?_, hdn, ?_⟩
    · rw [upd_ne hne, upd_same]
    · refine k dx _ (e1.trans fun b o hb => ?_) upd_same (fresh_back e1 hdn)
      have nb : b ≠ a := ne_of_none hb ha
      rw [upd_ne (ne_of_none hb hdn), del_ne nb, upd_ne nb, upd_ne (ne_of_none hb hdn), upd_ne nb]
      exact hb⟩⟩
end
end Bp
namespace Bp
open PySem PySem.Spec PyProof.Rows L2 Bk Bm Evl Be
abbrev sCkTree : Stmt := top 33
/-- what an item of a tuple is: a file, or none -/
def Itm (K : PySem.W.Frag) (H : Hp) (v : V) : Option Fl → Prop
  | some f => FileAt H v f ∧ okF f ∧ (pathB f.1 && textB f.2) = true
  | none => Fil K H v false
theorem Itm.mono {K : PySem.W.Frag} {H H' : Hp} {v : V} {o : Option Fl} (e : Ex H H') (h : Itm K H v o) : Itm K H' v o := by
  cases o with
  | some f => exact ⟨h.1.mono e, h.2⟩
  | none => exact Fil.mono e h
theorem Itm.fil {K : PySem.W.Frag} {H : Hp} {v : V} {o : Option Fl} (h : Itm K H v o) : Fil K H v o.isSome := by
  cases o with
  | some f =>
    obtain ⟨⟨b, rfl, hb⟩, hk, hp⟩ := h
    have r := Fil.two (K := K) hb (Sm.str f.1 hk.1) (Sm.str f.2 hk.2.1)
    have e : (isPathV (.str f.1) && isTextV (.str f.2)) = true := hp
    rw [e] at r
    exact r
  | none => exact h
/-- the first place that is wrong -/
def fb : List Fl → List (Option Fl) → Option Nat
  | _, [] => none
  | acc, none :: _ => some acc.length
  | acc, some f :: r => if follow f.1 acc = true then fb (acc ++ [f]) r else some acc.length
theorem slice_to {σ : L2.St} {H : Hp} {K : PySem.W.Frag} {te ti : TE} {a : Addr} {xs : List V} {i : Nat} (h : Ev te σ H (.ref a)) (hi : Ev ti σ H (.int (i : Int))) (hx : SqT K H a xs) (hl : i ≤ xs.length) :
    ∀ H1, Ex H H1 → ∀ Q : VK, (∀ p H2, Ex H1 H2 → SqT K H2 p (xs.take i) → Q (.ref p) H2) → tSl (rSlA K) te tNoPart (tPart ti) σ H1 Q := fun H1 e Q q =>
  h H1 e _ fun H2 e2 => hi H2 (e.trans e2) _ fun H3 e3 => ⟨(i : Int), rfl, a, xs, rfl, ex_t ((e.trans e2).trans e3) hx, by
    have c1 : HT.sIx xs.length 0 none = 0 := HT.sIx_none _ _
    have c2 : HT.sIx xs.length xs.length (some (i : Int)) = i := by rw [HT.sIx_nat]; omega
    have c3 : cutV xs none (some (i : Int)) = xs.take i := by
      unfold cutV
      rw [c1, c2]
      simp
    rw [c1, c2]
    refine ⟨fun z => ?_, fun z p hp => ?_⟩
    · have z2 : xs.take i = xs := by rw [z.2]; exact List.take_length
      refine q a H3 (e2.trans e3) ?_
      rw [z2]
      exact ex_t ((e.trans e2).trans e3) hx
    · refine q p _ ((e2.trans e3).trans (Ex.new hp)) ?_
      rw [c3]
      exact st_of upd_same⟩
section
variable {P : Program} {w : World} {K : PySem.W.Frag} {mg : Str → Option Value} {base : Heap}
theorem scCkTree : FnScope ["value", "index", "thing"] ["value"] (defScope sCkTree) := ⟨rfl, rfl, rfl, by decide +kernel, rfl, by decide +kernel, by decide +kernel⟩
/-- what is handed to check_tree: no tuple (of few things), or a tuple of items -/
inductive Tr (K : PySem.W.Frag) (H : Hp) : V → Option V → Prop
  | no {v : V} {n : String} (k : Kd K H v n) (h : n ≠ "tuple") : Tr K H v (some .non)
  | big {a : Addr} {xs : List V} (h : H a = some (.tup xs)) (hl : 20 < xs.length) : Tr K H (.ref a) (some .non)
  | tup {a : Addr} {xs : List V} {os : List (Option Fl)} (h : H a = some (.tup xs)) (hl : xs.length ≤ 20) (hp : Paired (Itm K H) xs os) : Tr K H (.ref a) ((fb [] os).map fun i => V.int ((i : Nat) : Int))
theorem Tr.mono {H H' : Hp} {v : V} {o : Option V} (e : Ex H H') (h : Tr K H v o) : Tr K H' v o := by
  cases h with
  | no k h => exact .no (k.mono e) h
  | big h hl => exact .big (e _ _ h) hl
  | tup h hl hp => exact .tup (e _ _ h) hl (paired_mono hp fun _ _ r => r.mono e)
/-- how BadTree comes -/
def RaiseI (C : Addr) (v : V) (H : Hp) (E : XK) : Prop := ∀ d H', Ex H H' → H' d = some (.xd [(("index" : Str), v)]) → H d = none → E (.ref C) (some d) H'
theorem RaiseI.go {C : Addr} {v : V} {H H1 : Hp} {E : XK} (h : RaiseI C v H E) (e : Ex H H1) : RaiseI C v H1 E := fun d H' e1 hd hn => h d H' (e.trans e1) hd (fresh_back e hn)
def spCkTree (C : Addr) : Sp := fun vs H Q E => ∃ v o, vs = [v] ∧ Tr K H v o ∧ (o = none → RetV .non H Q) ∧ (∀ u, o = some u → RaiseI C u H E)
theorem ok_ckTree {f C fI : Addr} {fd fdI : FuncData} (F : Fun K "check_tree" "check_tree" sCkTree f fd) (T : Gv mg) (c : Xi K mg "BadTree" C fI) (FI : FnOk P w K mg base CX0 1 fI fdI ["self", "index"] (spXi K C)) (bI : Binds K fdI ["self", "index"] [])
    (cF : Cal P w K mg base CX0 3 "is_file" ["value"] (spFile (K := K))) (cM : Cal P w K mg base CX0 2 "may_follow" ["path", "files"] (spFollow (K := K))) : FnOk P w K mg base (L2.CX P w) 4 f fd ["value"] (spCkTree (K := K) C) := by
  refine F.okX scCkTree (fun vs H Q E h => ?_) (fun cdv A outer s H vs Q E hr h => ?_)
  · obtain ⟨x, o, rfl, _⟩ := h
    rfl
  · obtain ⟨v, o, rfl, tr, k1, k2⟩ := h
    obtain ⟨t1, m1⟩ := T.mf
    refine ⟨_, pss_cons (ps_if (pw_or (pt_not (pt_val (pe_callB call_isi (by rfl) T.isi boot_isinstance (pa_cons (pv 0) (pa_cons (pe_bltn (v := .ty "tuple") (by rfl) T.tup (by decide +kernel) rfl) pa_nil)))))
        (pw_or1 (pt_cmpR op_gt (pe_callB call_len_seq (by rfl) T.len PySem.boot_len (pa_cons (pv 0) pa_nil)) (pe_glob (v := .int 20) (by rfl) m1 ⟨_, rfl⟩) (nomark _)))).pt
        (pss_one (ps_raise rfl (takes_of rfl rfl rfl rfl) (pmk_xi c FI bI hr (by decide) (by rfl) pe_non))) pss_nil)
      (pss_one (ps_for (passes_of rfl) rfl (pi_enumT (by rfl) T.enu (pa_cons (pv 0) pa_nil)) (pg_tup rfl (pgs_cons (pg_name (i := 1) scCkTree.nd rfl (Or.inl rfl)) (pgs_cons (pg_name (i := 2) scCkTree.nd rfl (Or.inl rfl)) pgs_nil)))
        (pss_one (ps_if (pw_or (pt_not (pt_val (pe_call cF.F hr (by rfl) cF.g cF.kp cF.b .nil pass0 (pa_cons (pv 2) pa_nil))))
          (pw_or1 (pt_not (pt_val (pe_call cM.F (hr.mono (by decide)) (by rfl) cM.g cM.kp cM.b .nil pass0 (pa_cons (pe_ix ix_tup (pv 2) pe_int (fun _ _ => rfl)) (pa_cons (pe_slice sl_tupA (pv 0) po_none (po_some (pv 1))) pa_nil))))))).pt
          (pss_one (ps_raise rfl (takes_of rfl rfl rfl rfl) (pmk_xi c FI bI hr (by decide) (by rfl) (pv 1)))) pss_nil)))), ?_⟩
    cases tr with
    | no kd hn =>
      refine q_when (b := true) (et_is (et_or (b := true) (et_not (et_B (ev_isi (ev_var rfl) ev_c kd (.inr rfl)))) fun hb => ?_) ?_) (fun _ H1 e1 => ?_) (fun hb => by cases hb)
      · simp [hn] at hb
      · simp [hn]
      · exact xi_make c ev_c (RaiseI.go (k2 _ rfl) e1)
    | @big a xs h hl =>
      refine q_when (b := true) (et_is (et_or (b := true) (et_not (et_B (ev_isi (ev_var rfl) ev_c (kd_tup h) (.inr rfl)))) fun hb => ?_) (by simp)) (fun _ H1 e1 => ?_) (fun hb => by cases hb)
      · exact et_is (et_test (ev_op (ev_lenT (ev_var rfl) (st_of h)) ev_c rv_I0)) (by simp; omega)
      · exact xi_make c ev_c (RaiseI.go (k2 _ rfl) e1)
    | @tup a xs os h hl hp =>
      refine q_when (b := false) (et_is (et_or (b := false) (et_not (et_B (ev_isi (ev_var rfl) ev_c (kd_tup h) (.inr rfl)))) fun hb => ?_) (by simp)) (fun hb => by cases hb) (fun _ H1 e1 => ?_)
      · exact et_is (et_test (ev_op (ev_lenT (ev_var rfl) (st_of h)) ev_c rv_I0)) (by simp; omega)
      · refine ⟨_, rfl, a, xs, rfl, st_of (e1 _ _ h), for_enumT (K := K) (a := a) (xs := xs) (fun i τ G => ∃ (u v : Option V) (fs : List Fl), τ = [some (.ref a), u, v] ∧ Ex H G ∧ fs.length = i ∧ os.take i = fs.map some ∧ fb [] os = fb fs (os.drop i))
          ⟨none, none, [], rfl, e1, rfl, rfl, rfl⟩ (fun i τ G _ q => by obtain ⟨_, _, _, _, q, _⟩ := q; exact st_of (q _ _ h)) ?_ ?_⟩
        · rintro i x τ G T0 hi ⟨u, v, fs, rfl, eG, hfl, htk, hfb⟩ hT
          obtain ⟨o, ho, it⟩ := paired_get hp hi
          have hdr : os.drop i = o :: os.drop (i + 1) := by
            obtain ⟨hh, e⟩ := List.getElem?_eq_some_iff.mp ho
            rw [List.drop_eq_getElem_cons hh, e]
          rw [hdr] at hfb
          have e2 : Ex H (upd G T0 (.tup [.int (i : Nat), x])) := eG.trans (Ex.new hT)
          have hix : i ≤ xs.length := Nat.le_of_lt (List.getElem?_eq_some_iff.mp hi).1
          have hpf : Paired (FileAt H) (xs.take i) fs := by
            have h1 := paired_take hp i
            rw [htk] at h1
            have gen : ∀ {ys : List V} {gs : List Fl}, Paired (Itm K H) ys (gs.map some) → Paired (FileAt H) ys gs ∧ ∀ g ∈ gs, okF g := by
              intro ys gs
              induction gs generalizing ys with
              | nil => intro h; cases h; exact ⟨.nil, fun _ z => by cases z⟩
              | cons g r ih =>
                intro h
                cases h with
                | cons r1 r2 =>
                  obtain ⟨p1, p2⟩ := ih r2
                  exact ⟨.cons r1.1 p1, fun z hz => by
                    rcases List.mem_cons.mp hz with rfl | hz
                    · exact r1.2.1
                    · exact p2 z hz⟩
            exact (gen h1).1
          have hokf : ∀ g ∈ fs, okF g := by
            intro g hg
            have h1 : some g ∈ os.take i := by rw [htk]; exact List.mem_map.mpr ⟨g, hg, rfl⟩
            have h2 : some g ∈ os := List.mem_of_mem_take h1
            have gen : ∀ {ys : List V} {zs : List (Option Fl)}, Paired (Itm K H) ys zs → ∀ g, some g ∈ zs → okF g := by
              intro ys zs h
              induction h with
              | nil => intro g z; cases z
              | cons r _ ih =>
                intro g z
                rcases List.mem_cons.mp z with z | z
                · subst z; exact r.2.1
                · exact ih g z
            exact gen hp g h2
          have hfn : fs.length ≤ 1000 := by omega
          refine ⟨T0, _, rfl, SqT.of upd_same, rfl, _, _, rfl, _, _, rfl, rfl, ?_⟩
          show tIfS _ _ tNext _ ([some (.ref a), some (.int (i : Int)), some x] : L2.St) _
          have call1 : EvT (tNot (tB (tCall (spFile (K := K)) [] E0 (tCons (tVar 2) tNil)))) ([some (.ref a), some (.int (i : Int)), some x] : L2.St) (upd G T0 (.tup [.int (i : Nat), x])) (!(o.isSome)) :=
            et_not (et_B (ev_call (ea_cons (ev_var rfl) ea_nil) fun H3 e3 Q' q' E' => ⟨x, _, rfl, (it.mono (e2.trans e3)).fil, q'⟩))
          refine s_when (b := !(o.isSome) || !(match o with | some f => follow f.1 fs | none => true)) (et_or call1 fun hb => ?_) (fun hb H3 e3 => ?_) (fun hb H3 e3 => ?_)
          · cases o with
            | none => simp at hb
            | some f =>
              obtain ⟨⟨b, rfl, hbb⟩, hok, hpt⟩ := it
              intro H3 e3 Q' q'
              refine ev_op (z := .str f.1) (ev_var (i := 2) rfl) ev_c (rv_ixT (st_of ((e2.trans e3) _ _ hbb)) rfl) H3 (Ex.refl _) _ fun H4 e4 => ?_
              refine slice_to (i := i) (ev_var (i := 0) rfl) (ev_var (i := 1) rfl) (st_of (((e2.trans e3).trans e4) _ _ h)) hix H4 (Ex.refl _) _ fun p H5 e5 hp5 => ?_
              exact ⟨f.1, p, xs.take i, fs, rfl, hp5, paired_mono hpf fun _ _ r => r.mono (((e2.trans e3).trans e4).trans e5), hokf, hok.1, hfn, fun H6 e6 => ⟨_, rfl, q' H6 ((e4.trans e5).trans e6)⟩⟩
          · have hbad : fb [] os = some i := by
              rw [hfb]
              cases o with
              | none => show some fs.length = some i; rw [hfl]
              | some f =>
                have hn : follow f.1 fs = false := by simpa using hb
                show (if follow f.1 fs = true then _ else some fs.length) = some i
                rw [hn, if_neg (by decide), hfl]
            exact xi_make c (ev_var rfl) (RaiseI.go (k2 _ (by rw [hbad]; rfl)) (e2.trans e3))
          · cases o with
            | none => simp at hb
            | some f =>
              have hn : follow f.1 fs = true := by simpa using hb
              refine ⟨_, _, fs ++ [f], rfl, e2.trans e3, by simp [hfl], ?_, ?_⟩
              · rw [List.take_succ, htk, ho]
                simp
              · rw [hfb]
                show (if follow f.1 fs = true then _ else some fs.length) = _
                rw [if_pos hn]
        · rintro τ G ⟨u, v, fs, rfl, eG, hfl, htk, hfb⟩
          have hlen := paired_len hp
          have hn : fb [] os = none := by
            rw [hfb, hlen, List.drop_length]
            rfl
          exact k1 (by rw [hn]; rfl) G eG
end
end Bp
namespace Bp
open PySem PySem.Spec PyProof.Rows L2 Bk Bm Evl Be
abbrev sTextAt : Stmt := top 14
abbrev sNamesIn : Stmt := top 15
abbrev sPut : Stmt := top 16
abbrev sTaken : Stmt := top 17
abbrev sDiff : Stmt := top 18
/-- what is let out of a body as it comes -/
theorem lets {X : Cx} {E : XK} (tk : Takes X (fun cls d _ H => E cls d H)) : Passes (L2.CX X.prog X.w) X E := passes_call tk fun _ _ _ _ h => h
section
variable {P : Program} {w : World} {K : PySem.W.Frag} {mg : Str → Option Value} {base : Heap}
theorem scTextAt : FnScope ["tree", "path"] ["tree", "path"] (defScope sTextAt) := ⟨rfl, rfl, rfl, by decide +kernel, rfl, by decide +kernel, by decide +kernel⟩
theorem scNamesIn : FnScope ["tree", "folder"] ["tree", "folder"] (defScope sNamesIn) := ⟨rfl, rfl, rfl, by decide +kernel, rfl, by decide +kernel, by decide +kernel⟩
theorem scTaken : FnScope ["tree", "path"] ["tree", "path"] (defScope sTaken) := ⟨rfl, rfl, rfl, by decide +kernel, rfl, by decide +kernel, by decide +kernel⟩
theorem scDiff : FnScope ["one", "other"] ["one", "other"] (defScope sDiff) := ⟨rfl, rfl, rfl, by decide +kernel, rfl, by decide +kernel, by decide +kernel⟩
theorem scPut : FnScope ["tree", "path", "text"] ["tree", "path", "text"] (defScope sPut) := ⟨rfl, rfl, rfl, by decide +kernel, rfl, by decide +kernel, by decide +kernel⟩
/-- refused: the tree, or (behind a good tree) the second one -/
def spR2 (Ct C2 : Addr) (ok : V → Bool) : Sp := fun vs H Q E => ∃ t o x, vs = [t, x] ∧ Tr K H t o ∧
  ((∃ u, o = some u ∧ RaiseI Ct u H E) ∨ (o = none ∧ Sm H x ∧ ok x = false ∧ ∀ H', Ex H H' → E (.ref C2) none H'))
def spRD (Ct : Addr) : Sp := fun vs H Q E => ∃ t o x, vs = [t, x] ∧ Tr K H t o ∧ ((∃ u, o = some u ∧ RaiseI Ct u H E) ∨ (o = none ∧ ∃ u, Tr K H x (some u) ∧ RaiseI Ct u H E))
def spR3 (Ct Cp Cw : Addr) : Sp := fun vs H Q E => ∃ t o x y, vs = [t, x, y] ∧ Tr K H t o ∧
  ((∃ u, o = some u ∧ RaiseI Ct u H E) ∨ (o = none ∧ Sm H x ∧ ((isPathV x = false ∧ ∀ H', Ex H H' → E (.ref Cp) none H') ∨ (isPathV x = true ∧ Sm H y ∧ isTextV y = false ∧ ∀ H', Ex H H' → E (.ref Cw) none H'))))
theorem ok_textAt {f Ct Cp : Addr} {fd : FuncData} (F : Fun K "text_at" "text_at" sTextAt f fd) (cT : Cal P w K mg base (L2.CX P w) 4 "check_tree" ["value"] (spCkTree (K := K) Ct)) (cP : Cal P w K mg base (L2.CX P w) 3 "check_path" ["value"] (spCk Cp isPathV)) :
    FnOk P w K mg base (L2.CX P w) 5 f fd ["tree", "path"] (spR2 (K := K) Ct Cp isPathV) := by
  refine F.okX scTextAt (fun vs H Q E h => ?_) (fun cdv A outer s H vs Q E hr h => ?_)
  · obtain ⟨t, o, x, rfl, _⟩ := h
    rfl
  · obtain ⟨t, o, x, rfl, tr, h⟩ := h
    refine ⟨_, pss_cons (ps_expr (pe_call cT.F hr (by rfl) cT.g cT.kp cT.b .nil (lets (takes_of rfl rfl rfl rfl)) (pa_cons (pv 0) pa_nil)))
      (pss_cons (ps_expr (pe_call cP.F (hr.mono (by decide)) (by rfl) cP.g cP.kp cP.b .nil (lets (takes_of rfl rfl rfl rfl)) (pa_cons (pv 1) pa_nil))) pss_never), ?_⟩
    refine ⟨_, rfl, t, o, rfl, tr, fun ho H1 e1 => ?_, fun u hu => ?_⟩
    · rcases h with ⟨u, hu, _⟩ | ⟨_, sm, bad, k⟩
      · rw [hu] at ho; cases ho
      · exact ⟨_, rfl, x, rfl, sm.mono e1, fun z => (by rw [bad] at z; cases z), fun _ H' e' => k H' (e1.trans e')⟩
    · rcases h with ⟨u', hu', k⟩ | ⟨hn, _⟩
      · rw [hu'] at hu
        cases hu
        exact k
      · rw [hn] at hu; cases hu
theorem ok_taken {f Ct Cp : Addr} {fd : FuncData} (F : Fun K "taken" "taken" sTaken f fd) (cT : Cal P w K mg base (L2.CX P w) 4 "check_tree" ["value"] (spCkTree (K := K) Ct)) (cP : Cal P w K mg base (L2.CX P w) 3 "check_path" ["value"] (spCk Cp isPathV)) :
    FnOk P w K mg base (L2.CX P w) 5 f fd ["tree", "path"] (spR2 (K := K) Ct Cp isPathV) := by
  refine F.okX scTaken (fun vs H Q E h => ?_) (fun cdv A outer s H vs Q E hr h => ?_)
  · obtain ⟨t, o, x, rfl, _⟩ := h
    rfl
  · obtain ⟨t, o, x, rfl, tr, h⟩ := h
    refine ⟨_, pss_cons (ps_expr (pe_call cT.F hr (by rfl) cT.g cT.kp cT.b .nil (lets (takes_of rfl rfl rfl rfl)) (pa_cons (pv 0) pa_nil)))
      (pss_cons (ps_expr (pe_call cP.F (hr.mono (by decide)) (by rfl) cP.g cP.kp cP.b .nil (lets (takes_of rfl rfl rfl rfl)) (pa_cons (pv 1) pa_nil))) pss_never), ?_⟩
    refine ⟨_, rfl, t, o, rfl, tr, fun ho H1 e1 => ?_, fun u hu => ?_⟩
    · rcases h with ⟨u, hu, _⟩ | ⟨_, sm, bad, k⟩
      · rw [hu] at ho; cases ho
      · exact ⟨_, rfl, x, rfl, sm.mono e1, fun z => (by rw [bad] at z; cases z), fun _ H' e' => k H' (e1.trans e')⟩
    · rcases h with ⟨u', hu', k⟩ | ⟨hn, _⟩
      · rw [hu'] at hu
        cases hu
        exact k
      · rw [hn] at hu; cases hu
theorem ok_namesIn {f Ct Cp : Addr} {fd : FuncData} (F : Fun K "names_in" "names_in" sNamesIn f fd) (cT : Cal P w K mg base (L2.CX P w) 4 "check_tree" ["value"] (spCkTree (K := K) Ct)) (cP : Cal P w K mg base (L2.CX P w) 4 "check_folder" ["value"] (spCk Cp isFolderV)) :
    FnOk P w K mg base (L2.CX P w) 5 f fd ["tree", "folder"] (spR2 (K := K) Ct Cp isFolderV) := by
  refine F.okX scNamesIn (fun vs H Q E h => ?_) (fun cdv A outer s H vs Q E hr h => ?_)
  · obtain ⟨t, o, x, rfl, _⟩ := h
    rfl
  · obtain ⟨t, o, x, rfl, tr, h⟩ := h
    refine ⟨_, pss_cons (ps_expr (pe_call cT.F hr (by rfl) cT.g cT.kp cT.b .nil (lets (takes_of rfl rfl rfl rfl)) (pa_cons (pv 0) pa_nil)))
      (pss_cons (ps_expr (pe_call cP.F hr (by rfl) cP.g cP.kp cP.b .nil (lets (takes_of rfl rfl rfl rfl)) (pa_cons (pv 1) pa_nil))) pss_never), ?_⟩
    refine ⟨_, rfl, t, o, rfl, tr, fun ho H1 e1 => ?_, fun u hu => ?_⟩
    · rcases h with ⟨u, hu, _⟩ | ⟨_, sm, bad, k⟩
      · rw [hu] at ho; cases ho
      · exact ⟨_, rfl, x, rfl, sm.mono e1, fun z => (by rw [bad] at z; cases z), fun _ H' e' => k H' (e1.trans e')⟩
    · rcases h with ⟨u', hu', k⟩ | ⟨hn, _⟩
      · rw [hu'] at hu
        cases hu
        exact k
      · rw [hn] at hu; cases hu
theorem ok_diff {f Ct : Addr} {fd : FuncData} (F : Fun K "differing" "differing" sDiff f fd) (cT : Cal P w K mg base (L2.CX P w) 4 "check_tree" ["value"] (spCkTree (K := K) Ct)) :
    FnOk P w K mg base (L2.CX P w) 5 f fd ["one", "other"] (spRD (K := K) Ct) := by
  refine F.okX scDiff (fun vs H Q E h => ?_) (fun cdv A outer s H vs Q E hr h => ?_)
  · obtain ⟨t, o, x, rfl, _⟩ := h
    rfl
  · obtain ⟨t, o, x, rfl, tr, h⟩ := h
    refine ⟨_, pss_cons (ps_expr (pe_call cT.F hr (by rfl) cT.g cT.kp cT.b .nil (lets (takes_of rfl rfl rfl rfl)) (pa_cons (pv 0) pa_nil)))
      (pss_cons (ps_expr (pe_call cT.F hr (by rfl) cT.g cT.kp cT.b .nil (lets (takes_of rfl rfl rfl rfl)) (pa_cons (pv 1) pa_nil))) pss_never), ?_⟩
    refine ⟨_, rfl, t, o, rfl, tr, fun ho H1 e1 => ?_, fun u' hu => ?_⟩
    · rcases h with ⟨u, hu, _⟩ | ⟨_, u, tr2, k⟩
      · rw [hu] at ho; cases ho
      · exact ⟨_, rfl, x, some u, rfl, tr2.mono e1, fun z => (by cases z), fun u' z => (by cases z; exact k.go e1)⟩
    · rcases h with ⟨u, hu', k⟩ | ⟨hn, _⟩
      · rw [hu'] at hu
        cases hu
        exact k
      · rw [hn] at hu; cases hu
theorem ok_put {f Ct Cp Cw : Addr} {fd : FuncData} (F : Fun K "put" "put" sPut f fd) (cT : Cal P w K mg base (L2.CX P w) 4 "check_tree" ["value"] (spCkTree (K := K) Ct)) (cP : Cal P w K mg base (L2.CX P w) 3 "check_path" ["value"] (spCk Cp isPathV))
    (cW : Cal P w K mg base (L2.CX P w) 3 "check_words" ["value"] (spCk Cw isTextV)) : FnOk P w K mg base (L2.CX P w) 5 f fd ["tree", "path", "text"] (spR3 (K := K) Ct Cp Cw) := by
  refine F.okX scPut (fun vs H Q E h => ?_) (fun cdv A outer s H vs Q E hr h => ?_)
  · obtain ⟨t, o, x, y, rfl, _⟩ := h
    rfl
  · obtain ⟨t, o, x, y, rfl, tr, h⟩ := h
    refine ⟨_, pss_cons (ps_expr (pe_call cT.F hr (by rfl) cT.g cT.kp cT.b .nil (lets (takes_of rfl rfl rfl rfl)) (pa_cons (pv 0) pa_nil)))
      (pss_cons (ps_expr (pe_call cP.F (hr.mono (by decide)) (by rfl) cP.g cP.kp cP.b .nil (lets (takes_of rfl rfl rfl rfl)) (pa_cons (pv 1) pa_nil)))
      (pss_cons (ps_expr (pe_call cW.F (hr.mono (by decide)) (by rfl) cW.g cW.kp cW.b .nil (lets (takes_of rfl rfl rfl rfl)) (pa_cons (pv 2) pa_nil))) pss_never)), ?_⟩
    refine ⟨_, rfl, t, o, rfl, tr, fun ho H1 e1 => ?_, fun u hu => ?_⟩
    · rcases h with ⟨u, hu, _⟩ | ⟨_, sm, hh⟩
      · rw [hu] at ho; cases ho
      · refine ⟨_, rfl, x, rfl, sm.mono e1, fun z => ?_, fun z H' e' => ?_⟩
        · rcases hh with ⟨bad, _⟩ | ⟨_, sy, bad, k⟩
          · rw [bad] at z; cases z
          · exact fun H2 e2 => ⟨_, rfl, y, rfl, sy.mono (e1.trans e2), fun z => (by rw [bad] at z; cases z), fun _ H' e' => k H' ((e1.trans e2).trans e')⟩
        · rcases hh with ⟨_, k⟩ | ⟨good, _⟩
          · exact k H' (e1.trans e')
          · rw [good] at z; cases z
    · rcases h with ⟨u', hu', k⟩ | ⟨hn, _⟩
      · rw [hu'] at hu
        cases hu
        exact k
      · rw [hn] at hu; cases hu
end
end Bp
namespace Bl
open PySem PySem.Spec PyProof.Rows L2 Bk Bm Evl Be Bp
abbrev sTaken : Stmt := top 35
abbrev sOne : Stmt := top 36
/-- the script, at a: never written -/
def Sc (K : PySem.W.Frag) (H : Hp) (a : Addr) (ns : List Int) : Prop := (∃ o, H a = some (.frz o (.lst (ns.map V.int)))) ∨
  ∃ (o : Obj) (its : Array Value) (n : Nat), K.lookup a = some o ∧ o.cls = .type "list" ∧ o.dict = none ∧ o.data = .seq its n ∧ its.size ≤ sizeLine ∧ Vals (ns.map V.int) its.toList
theorem Sc.sq {K : PySem.W.Frag} {H : Hp} {a : Addr} {ns : List Int} (h : Sc K H a ns) : SqL K H a (ns.map V.int) := by
  rcases h with h | h
  · exact .inl (.inr h)
  · exact .inr h
/-- all but r stands -/
def Kp (r : Addr) (H G : Hp) : Prop := ∀ b o, b ≠ r → H b = some o → G b = some o
theorem Kp.of_ex {r : Addr} {H G : Hp} (e : Ex H G) : Kp r H G := fun b o _ h => e b o h
theorem Kp.refl (r : Addr) (H : Hp) : Kp r H H := fun _ _ _ h => h
theorem Kp.trans {r : Addr} {H G F : Hp} (a : Kp r H G) (b : Kp r G F) : Kp r H F := fun x o n h => b x o n (a x o n h)
theorem Kp.up {r : Addr} {H G : Hp} {o : HO} (a : Kp r H G) : Kp r H (upd G r o) := fun x u n h => by
  rw [upd_ne n]
  exact a x u n h
theorem Sc.keep {K : PySem.W.Frag} {H G : Hp} {r a : Addr} {ns : List Int} {xs : List V} (h : Sc K H a ns) (hr : H r = some (.lst xs)) (k : Kp r H G) : Sc K G a ns := by
  rcases h with ⟨o, h⟩ | h
  · exact .inl ⟨o, k a _ (ne_of h hr (by intro z; cases z)) h⟩
  · exact .inr h
def rowL (a : Addr) (i s z : Int) : List V := [.ref a, .int i, .int s, .int z]
/-- the row of draws stands at r -/
def Row (K : PySem.W.Frag) (H : Hp) (r : Addr) : Prop := ∃ a i s z ns, H r = some (.lst (rowL a i s z)) ∧ Sc K H a ns ∧ 0 ≤ i
structure Dr (K : PySem.W.Frag) (r : Addr) (H G : Hp) : Prop where
  kp : Kp r H G
  row : Row K G r
theorem Row.ex {K : PySem.W.Frag} {H G : Hp} {r : Addr} (h : Row K H r) (e : Ex H G) : Row K G r := by
  obtain ⟨a, i, s, z, ns, hr, sc, hi⟩ := h
  exact ⟨a, i, s, z, ns, e _ _ hr, sc.keep hr (.of_ex e), hi⟩
theorem Dr.refl {K : PySem.W.Frag} {H : Hp} {r : Addr} (h : Row K H r) : Dr K r H H := ⟨.refl r H, h⟩
theorem Dr.trans {K : PySem.W.Frag} {H G F : Hp} {r : Addr} (a : Dr K r H G) (b : Dr K r G F) : Dr K r H F := ⟨a.kp.trans b.kp, b.row⟩
theorem Dr.ex {K : PySem.W.Frag} {H G F : Hp} {r : Addr} (a : Dr K r H G) (e : Ex G F) : Dr K r H F := ⟨a.kp.trans (.of_ex e), a.row.ex e⟩
theorem Dr.pre {K : PySem.W.Frag} {H G F : Hp} {r : Addr} (e : Ex H G) (a : Dr K r G F) : Dr K r H F := ⟨(Kp.of_ex e).trans a.kp, a.row⟩
section
variable {P : Program} {w : World} {K : PySem.W.Frag} {mg : Str → Option Value} {base : Heap}
abbrev nTaken : List Str := ["_law_row", "_law_many", "_law_found", "_law_cell"]
theorem scTaken : FnScope nTaken ["_law_row", "_law_many"] (defScope sTaken) := ⟨rfl, rfl, rfl, by decide +kernel, rfl, by decide +kernel, by decide +kernel⟩
def spTaken : Sp := fun vs H Q _ => ∃ r m, vs = [.ref r, .int m] ∧ Row K H r ∧ 0 < m ∧ m < 1073741824 ∧ ∀ n G, 0 ≤ n → n < m → Dr K r H G → Q (.int n) G
theorem ev_int {σ : L2.St} {H : Hp} {te : TE} {i : Int} (h : Ev te σ H (.int i)) : Ev (tCB (fun xs H Q => (∃ i, xs = [V.int i] ∧ Q (.int i) H) ∨ ∃ k, xs = [.bl k] ∧ Q (.int (if k then 1 else 0)) H) (tCons te tNil)) σ H (.int i) := fun H1 e Q q =>
  h H1 e _ fun H2 e2 => .inl ⟨i, rfl, q H2 e2⟩
theorem rv_mod {H : Hp} {i j : Int} (h : 0 < j) : RV (rI (fun _ j => 0 < j) fun i j => .int (i % j)) (.int i) (.int j) H (.int (i % j)) := rv_I h
theorem ok_taken {f : Addr} {fd : FuncData} (F : Fun K "_law_taken" "_law_taken" sTaken f fd) (T : Gv mg) : FnOk P w K mg base CX0 1 f fd ["_law_row", "_law_many"] (spTaken (K := K)) := by
  refine F.ok scTaken (fun vs H Q E h => ?_) (fun cdv A outer s H vs Q E hr h => ?_)
  · obtain ⟨r, m, rfl, _⟩ := h
    rfl
  · obtain ⟨r, m, rfl, ⟨a, i, z2, z3, ns, hrow, sc, hi⟩, hm0, hm1, k⟩ := h
    refine ⟨_, pss_cons (ps_if (pt_cmpR op_gt (pe_ix ix_list (pv 0) pe_int (fun _ _ => rfl)) pe_int (nomark _))
        (pss_cons (ps_set (i := 2) scTaken.nd rfl (Or.inl rfl) (pe_op op_mod (pe_callTy call_int1 (by rfl) T.int (by decide +kernel) (pa_cons (pe_ix ix_list (pv 0) pe_int (fun _ _ => rfl)) pa_nil)) (pv 1)))
        (pss_cons (ps_asg (pe_op op_fdiv (pe_ix ix_list (pv 0) pe_int (fun _ _ => rfl)) (pv 1)) (pg_sub (pv 0) pe_int set_list))
        (pss_one (ps_ret (pv 2))))) pss_nil)
      (pss_cons (ps_asg (pe_op op_add (pe_ix ix_list (pv 0) pe_int (fun _ _ => rfl)) pe_int) (pg_sub (pv 0) pe_int set_list))
      (pss_cons (ps_if (pt_cmpR op_gt (pe_ix ix_list (pv 0) pe_int (fun _ _ => rfl)) (pe_callB call_len_seq (by rfl) T.len PySem.boot_len (pa_cons (pe_ix ix_list (pv 0) pe_int (fun _ _ => rfl)) pa_nil)) (nomark _))
        (pss_cons (ps_asg (pe_op op_mod (pe_callTy call_int1 (by rfl) T.int (by decide +kernel) (pa_cons (pe_op op_add (pe_op op_mul (pe_ix ix_list (pv 0) pe_int (fun _ _ => rfl)) pe_int) pe_int) pa_nil)) pe_int) (pg_sub (pv 0) pe_int set_list))
        (pss_one (ps_ret (pe_op op_mod (pe_callTy call_int1 (by rfl) T.int (by decide +kernel) (pa_cons (pe_op op_fdiv (pe_ix ix_list (pv 0) pe_int (fun _ _ => rfl)) pe_int) pa_nil)) (pv 1))))) pss_nil)
      (pss_cons (ps_set (i := 3) scTaken.nd rfl (Or.inl rfl) (pe_ix ix_list (pe_ix ix_list (pv 0) pe_int (fun _ _ => rfl)) (pe_op op_sub (pe_ix ix_list (pv 0) pe_int (fun _ _ => rfl)) pe_int) (fun _ _ => rfl)))
      (pss_cons (ps_asg (pe_op op_mod (pe_callTy call_int1 (by rfl) T.int (by decide +kernel) (pa_cons (pe_op op_add (pe_op op_add (pe_op op_mul (pe_ix ix_list (pv 0) pe_int (fun _ _ => rfl)) pe_int) (pv 3)) pe_int) pa_nil)) pe_int) (pg_sub (pv 0) pe_int set_list))
      (pss_cons (ps_if (pt_cmpR op_ge (pv 3) (pe_op op_pow pe_int pe_int) (nomark _)) (pss_one (ps_asg (pe_op op_fdiv (pv 3) (pv 1)) (pg_sub (pv 0) pe_int set_list))) pss_nil)
      (pss_one (ps_ret (pe_op op_mod (pe_callTy call_int1 (by rfl) T.int (by decide +kernel) (pa_cons (pv 3) pa_nil)) (pv 1))))))))), ?_⟩
    have ixr : ∀ {σ : L2.St} {G : Hp} {j : Int} {a' : Addr} {i' s' t' : Int} {v : V}, σ[0]? = some (some (.ref r)) → G r = some (.lst (rowL a' i' s' t')) → atI (rowL a' i' s' t') j = some v → Ev (tOp (rIxL K) (tVar 0) (tC (.int j))) σ G v :=
      fun h1 h2 h3 => ev_op (ev_var h1) ev_c (rv_ixL (sq_of h2) h3)
    refine q_when (b := decide (0 < z3)) (et_test (ev_op (ixr rfl hrow rfl) ev_c rv_I0)) (fun hb H1 e1 => ?_) (fun hb H1 e1 => ?_)
    · -- the rest of a great cell
      refine q_asg (ev_op (ev_int (ixr rfl (e1 _ _ hrow) rfl)) (ev_var rfl) (rv_mod hm0)) fun H2 e2 => ?_
      refine q_setL (j := 3) ((e1.trans e2) _ _ hrow) (ev_op (ixr rfl ((e1.trans e2) _ _ hrow) rfl) (ev_var rfl) (rv_I ⟨hm0, hm1⟩)) (ev_var rfl) ev_c (by show 3 < 4; decide) fun H3 e3 => ?_
      refine s_ret (v := .int (z3 % m)) (ev_var rfl) fun H4 e4 => ?_
      have kp : Kp r H (upd H3 r (.lst ((rowL a i z2 z3).set 3 (.int (z3 / m))))) := (Kp.of_ex ((e1.trans e2).trans e3)).up
      exact k _ H4 (Int.emod_nonneg _ (by omega)) (Int.emod_lt_of_pos _ hm0) (Dr.ex ⟨kp, a, i, z2, z3 / m, ns, upd_same, sc.keep hrow kp, hi⟩ e4)
    · refine q_setL (j := 1) (e1 _ _ hrow) (ev_op (ixr rfl (e1 _ _ hrow) rfl) ev_c rv_I0) (ev_var rfl) ev_c (by show 1 < 4; decide) fun H2 e2 => ?_
      have kp2 : Kp r H (upd H2 r (.lst (rowL a (i + 1) z2 z3))) := (Kp.of_ex (e1.trans e2)).up
      have row2 : (upd H2 r (.lst (rowL a (i + 1) z2 z3))) r = some (.lst (rowL a (i + 1) z2 z3)) := upd_same
      show tSeq (tIfS _ _ tNext) _ _ _ (upd H2 r (.lst (rowL a (i + 1) z2 z3)))
      generalize upd H2 r (.lst (rowL a (i + 1) z2 z3)) = G2 at kp2 row2
      have sc2 := sc.keep hrow kp2
      refine q_when (b := decide ((ns.length : Int) < i + 1)) (et_test (ev_op (ixr rfl row2 rfl) (ev_is (ev_len (ixr rfl row2 rfl) sc2.sq) (by rw [List.length_map])) rv_I0)) (fun hb H3 e3 => ?_) (fun hb H3 e3 => ?_)
      · -- behind the script
        refine q_setL (j := 2) (e3 _ _ row2) (ev_op (ev_int (ev_op (ev_op (ixr rfl (e3 _ _ row2) rfl) ev_c (rv_I (.inr ⟨by decide, by decide⟩))) ev_c rv_I0)) ev_c (rv_mod (by decide))) (ev_var rfl) ev_c (by show 2 < 4; decide) fun H4 e4 => ?_
        show tRet _ _ _ (upd H4 r (.lst (rowL a (i + 1) ((z2 * 48271 + 11) % 2147483647) z3)))
        refine s_ret (v := .int ((z2 * 48271 + 11) % 2147483647 / 7 % m)) (ev_op (ev_int (ev_op (ixr rfl upd_same rfl) ev_c (rv_I ⟨by decide, by decide⟩))) (ev_var rfl) (rv_mod hm0)) fun H5 e5 => ?_
        have kp : Kp r H (upd H4 r (.lst (rowL a (i + 1) ((z2 * 48271 + 11) % 2147483647) z3))) := (kp2.trans (.of_ex (e3.trans e4))).up
        exact k _ H5 (Int.emod_nonneg _ (by omega)) (Int.emod_lt_of_pos _ hm0) (Dr.ex ⟨kp, a, _, _, _, ns, upd_same, sc.keep hrow kp, by omega⟩ e5)
      · have hlt : i + 1 ≤ (ns.length : Int) := by simpa using hb
        have hin : i.toNat < ns.length := by omega
        have hat : atI (ns.map V.int) (i + 1 - 1) = some (V.int ns[i.toNat]) := by
          have e : i + 1 - 1 = (i.toNat : Int) := by omega
          rw [e]
          exact atI_nat (by rw [List.getElem?_map, List.getElem?_eq_getElem hin]; rfl)
        generalize ns[i.toNat] = c at hat
        refine q_asg (ev_op (ixr rfl (e3 _ _ row2) rfl) (ev_op (ixr rfl (e3 _ _ row2) rfl) ev_c rv_I0) (rv_ixL (sc2.keep row2 (.of_ex e3)).sq hat)) fun H4 e4 => ?_
        refine q_setL (j := 2) ((e3.trans e4) _ _ row2) (ev_op (ev_int (ev_op (ev_op (ev_op (ixr rfl ((e3.trans e4) _ _ row2) rfl) ev_c (rv_I (.inr ⟨by decide, by decide⟩))) (ev_var rfl) rv_I0) ev_c rv_I0)) ev_c (rv_mod (by decide))) (ev_var rfl) ev_c (by show 2 < 4; decide) fun H5 e5 => ?_
        have kp5 : Kp r H (upd H5 r (.lst (rowL a (i + 1) ((z2 * 48271 + c + 11) % 2147483647) z3))) := (kp2.trans (.of_ex ((e3.trans e4).trans e5))).up
        have row5 : (upd H5 r (.lst (rowL a (i + 1) ((z2 * 48271 + c + 11) % 2147483647) z3))) r = some (.lst (rowL a (i + 1) ((z2 * 48271 + c + 11) % 2147483647) z3)) := upd_same
        show tSeq (tIfS _ _ tNext) _ _ _ (upd H5 r (.lst (rowL a (i + 1) ((z2 * 48271 + c + 11) % 2147483647) z3)))
        generalize (z2 * 48271 + c + 11) % 2147483647 = z2' at kp5 row5 ⊢
        generalize upd H5 r (.lst (rowL a (i + 1) z2' z3)) = G5 at kp5 row5 ⊢
        have fin : ∀ G6, Kp r H G6 → (∃ t, G6 r = some (.lst (rowL a (i + 1) z2' t))) → tRet (tOp (rI (fun _ j => 0 < j) fun i j => .int (i % j)) (tCB (fun xs H Q => (∃ i, xs = [V.int i] ∧ Q (.int i) H) ∨ ∃ k, xs = [.bl k] ∧ Q (.int (if k then 1 else 0)) H) (tCons (tVar 3) tNil)) (tVar 1))
            { nx := fun _ H' => Q .non H', rt := Q } [some (.ref r), some (.int m), none, some (.int c)] G6 := fun G6 k6 ⟨t, r6⟩ =>
          s_ret (v := .int (c % m)) (ev_op (ev_int (ev_var rfl)) (ev_var rfl) (rv_mod hm0)) fun H7 e7 => k _ H7 (Int.emod_nonneg _ (by omega)) (Int.emod_lt_of_pos _ hm0) (Dr.ex ⟨k6, a, _, _, t, ns, r6, sc.keep hrow k6, by omega⟩ e7)
        refine q_when (b := decide ((10 : Int) ^ 18 ≤ c)) (et_test (ev_op (ev_var rfl) (ev_op ev_c ev_c (rv_I ⟨by decide, by decide, by decide⟩)) rv_I0)) (fun hb6 H6 e6 => ?_) (fun hb6 H6 e6 => fin H6 (kp5.trans (.of_ex e6)) ⟨_, e6 _ _ row5⟩)
        refine s_setL (j := 3) (e6 _ _ row5) (ev_op (ev_var rfl) (ev_var rfl) (rv_I ⟨hm0, hm1⟩)) (ev_var rfl) ev_c (by show 3 < 4; decide) fun H7 e7 => ?_
        exact fin _ ((kp5.trans (.of_ex (e6.trans e7))).up) ⟨c / m, upd_same⟩
end
end Bl
namespace Bl
open PySem PySem.Spec PyProof.Rows L2 Bk Bm Evl Be Bp TL
abbrev sWords : Stmt := top 37
abbrev sTree : Stmt := top 38
section
variable {K : PySem.W.Frag} {H G : Hp} {r D : Addr}
theorem Row.updL {ys zs : List V} (h : Row K G r) (hD : G D = some (.lst ys)) (hne : D ≠ r) : Row K (upd G D (.lst zs)) r := by
  obtain ⟨a, i, s, z, ns, hr, sc, hi⟩ := h
  refine ⟨a, i, s, z, ns, by rw [upd_ne hne.symm]; exact hr, ?_, hi⟩
  rcases sc with ⟨o, h⟩ | h
  · exact .inl ⟨o, by rw [upd_ne (ne_of h hD (by intro z; cases z))]; exact h⟩
  · exact .inr h
theorem Kp.updL {o : HO} (h : Kp r H G) (hD : H D = none) : Kp r H (upd G D o) := fun b u n e => by
  rw [upd_ne (ne_of_none e hD)]
  exact h b u n e
theorem Dr.updL {ys zs : List V} (d : Dr K r H G) (hD : H D = none) (hg : G D = some (.lst ys)) (hne : D ≠ r) : Dr K r H (upd G D (.lst zs)) := ⟨d.kp.updL hD, d.row.updL hg hne⟩
theorem Row.at (h : Row K H r) : ∃ xs, H r = some (.lst xs) := by
  obtain ⟨a, i, s, z, ns, hr, _⟩ := h
  exact ⟨_, hr⟩
theorem Row.ne_new (h : Row K H r) {p : Addr} (hp : H p = none) : p ≠ r := by
  obtain ⟨xs, e⟩ := h.at
  exact (ne_of_none e hp).symm
theorem Dr.free {p : Addr} (d : Dr K r H G) (h : Row K H r) (hp : G p = none) : H p = none := by
  cases e : H p with
  | none => rfl
  | some o =>
    have n : p ≠ r := d.row.ne_new hp
    rw [d.kp p o n e] at hp
    cases hp
end
section
variable {P : Program} {w : World} {K : PySem.W.Frag} {mg : Str → Option Value} {base : Heap}
theorem scOne : FnScope ["_law_row", "_law_things"] ["_law_row", "_law_things"] (defScope sOne) := ⟨rfl, rfl, rfl, by decide +kernel, rfl, by decide +kernel, by decide +kernel⟩
def spOne : Sp := fun vs H Q _ => ∃ r t xs, vs = [.ref r, .ref t] ∧ Row K H r ∧ t ≠ r ∧ H t = some (.lst xs) ∧ 0 < xs.length ∧ xs.length < 1000000 ∧ ∀ v G, v ∈ xs → Dr K r H G → Q v G
/-- a draw below m -/
theorem draw {σ : L2.St} {H : Hp} {ta tm : TE} {r : Addr} {m : Int} {Q : VK} (hr : Ev ta σ H (.ref r)) (hm : Ev tm σ H (.int m)) (row : Row K H r) (h0 : 0 < m) (h1 : m < 1000000) (k : ∀ n G, 0 ≤ n → n < m → Dr K r H G → Q (.int n) G) :
    tCall (spTaken (K := K)) [] E0 (tCons ta (tCons tm tNil)) σ H Q :=
  hr H (Ex.refl _) _ fun H1 e1 => hm H1 e1 _ fun H2 e2 => ⟨r, m, rfl, row.ex (e1.trans e2), h0, by omega, fun n G hn hm d => k n G hn hm (Dr.pre (e1.trans e2) d)⟩
theorem ok_one {f : Addr} {fd : FuncData} (F : Fun K "_law_one" "_law_one" sOne f fd) (T : Gv mg) (cT : Cal P w K mg base CX0 1 "_law_taken" ["_law_row", "_law_many"] (spTaken (K := K))) : FnOk P w K mg base CX0 2 f fd ["_law_row", "_law_things"] (spOne (K := K)) := by
  refine F.ok scOne (fun vs H Q E h => ?_) (fun cdv A outer s H vs Q E hr h => ?_)
  · obtain ⟨r, t, xs, rfl, _⟩ := h
    rfl
  · obtain ⟨r, t, xs, rfl, row, hne, ht, h0, h1, k⟩ := h
    refine ⟨_, pss_one (ps_ret (pe_ix ix_list (pv 1) (pe_call cT.F hr (by rfl) cT.g cT.kp cT.b .nil pass0 (pa_cons (pv 0) (pa_cons (pe_callB call_len_seq (by rfl) T.len PySem.boot_len (pa_cons (pv 1) pa_nil)) pa_nil))) (fun _ _ => rfl))), ?_⟩
    refine ⟨_, rfl, draw (m := (xs.length : Int)) (ev_var rfl) (ev_len (ev_var rfl) (sq_of ht)) row (by omega) (by omega) fun n G hn hm d => ?_⟩
    have hin : n.toNat < xs.length := by omega
    refine ⟨t, xs, n, xs[n.toNat], rfl, rfl, sq_of (d.kp _ _ hne ht), ?_, k _ G (List.getElem_mem hin) d⟩
    exact at_of (j := n.toNat) (by omega) (List.getElem?_eq_getElem hin)
/-! ### the words -/
def someW : List Str := ["", "x", "yes", "yes", "b", "a b", "use a", "use b", "use d/x", "use m", "use n", "use", "use A", "y y", "use o"].map Str.ofString
def okW (x : Str) : Prop := x.length ≤ 200 ∧ textB x = true ∧ PyData.strOk x = true
theorem join_all (p : Nat → Bool) (S : List Nat) (hS : S.all p = true) : ∀ l : List (List Nat), (∀ x ∈ l, x.all p = true) → (joinL S l).all p = true
  | [], _ => rfl
  | [x], h => h x List.mem_cons_self
  | x :: y :: r, h => by
    have ih := join_all p S hS (y :: r) fun z hz => h z (List.mem_cons_of_mem _ hz)
    have hx := h x List.mem_cons_self
    show (x ++ (S ++ joinL S (y :: r))).all p = true
    rw [List.all_append, List.all_append, hx, hS, ih]
    rfl
theorem some_ok : ∀ y ∈ someW, y.length ≤ 7 ∧ (tl y).all sgnT = true := by decide +kernel
theorem str_ok {x : Str} (h : (tl x).all sgnT = true) : PyData.strOk x = true := by
  unfold PyData.strOk
  rw [Array.all_eq_true']
  intro c hc
  rw [List.all_eq_true] at h
  have h1 := h c (by simpa [tl] using hc)
  simp only [sgnT, Bool.or_eq_true, Bool.and_eq_true, decide_eq_true_eq] at h1
  simp
  omega
theorem joined_ok {ys : List Str} (h : ∀ y ∈ ys, y ∈ someW) (hl : ys.length ≤ 8) : okW (Txt.join (Str.ofString "\n") ys) ∧ (ys.map (·.length)).sum + ys.length * (Str.ofString "\n").length ≤ 16777216 := by
  have l1 : (Str.ofString "\n").length = 1 := rfl
  have sum : (ys.map (·.length)).sum ≤ 7 * ys.length := by
    clear hl
    induction ys with
    | nil => simp
    | cons y r ih =>
      have h1 := (some_ok y (h y List.mem_cons_self)).1
      have h2 := ih fun z hz => h z (List.mem_cons_of_mem _ hz)
      simp only [List.map_cons, List.sum_cons, List.length_cons]
      omega
  have len := StrLaws.join_length_le (Str.ofString "\n") ys
  rw [l1, Nat.mul_one] at len
  have sg : (tl (Txt.join (Str.ofString "\n") ys)).all sgnT = true := by
    rw [join_eq, tl_join]
    refine join_all sgnT _ (by decide +kernel) _ fun x hx => ?_
    obtain ⟨y, hy, rfl⟩ := List.mem_map.mp hx
    exact (some_ok y (h y hy)).2
  have le : (Txt.join (Str.ofString "\n") ys).length ≤ 64 := by
    rw [join_eq]
    omega
  refine ⟨⟨by omega, ?_, str_ok sg⟩, by rw [l1]; omega⟩
  unfold textB
  rw [decide_eq_true (by omega : (Txt.join (Str.ofString "\n") ys).length ≤ 200)]
  exact sg
abbrev nWords : List Str := ["_law_row", "_law_some", "_law_k"]
theorem scWords : FnScope nWords ["_law_row"] (defScope sWords) := ⟨rfl, rfl, rfl, by decide +kernel, rfl, by decide +kernel, by decide +kernel⟩
def spWords : Sp := fun vs H Q _ => ∃ r, vs = [.ref r] ∧ Row K H r ∧ ∀ x G, okW x → Dr K r H G → Q (.str x) G
/-- written values -/
def tCs : List V → TA
  | [] => tNil
  | v :: r => tCons (tC v) (tCs r)
theorem ea_cs {σ : L2.St} {H : Hp} : ∀ vs : List V, EvA (tCs vs) σ H vs
  | [] => ea_nil
  | _ :: r => ea_cons ev_c (ea_cs r)
theorem el_cat {σ : L2.St} {H : Hp} {ta tb : TE} {l : Addr} {xs zs : List V} (ha : Ev ta σ H (.ref l)) (hl : H l = some (.lst xs)) (hb : EvL tb σ H zs) (hz : xs.length + zs.length ≤ 100000) : EvL (tOp rCat ta tb) σ H (xs ++ zs) := fun H1 e Q q =>
  ha H1 e _ fun H2 e2 => hb H2 (e.trans e2) _ fun b H3 hb3 e3 h3 => ⟨l, b, xs, zs, rfl, rfl, ((e.trans e2).trans e3) _ _ hl, h3, sz_of hz, fun p hp => q p _ (fresh_back (e2.trans e3) hp) ((e2.trans e3).trans (Ex.new hp)) upd_same⟩
theorem ok_words {f : Addr} {fd : FuncData} (F : Fun K "_law_words" "_law_words" sWords f fd) (T : Gv mg) (cT : Cal P w K mg base CX0 1 "_law_taken" ["_law_row", "_law_many"] (spTaken (K := K)))
    (cO : Cal P w K mg base CX0 2 "_law_one" ["_law_row", "_law_things"] (spOne (K := K))) : FnOk P w K mg base CX0 3 f fd ["_law_row"] (spWords (K := K)) := by
  refine F.ok scWords (fun vs H Q E h => ?_) (fun cdv A outer s H vs Q E hr h => ?_)
  · obtain ⟨r, rfl, _⟩ := h
    rfl
  · obtain ⟨r, rfl, row, k⟩ := h
    have hr1 : Room 1 _ := hr.mono (by decide)
    refine ⟨_, pss_cons (ps_set (i := 1) scWords.nd rfl (Or.inr rfl) (pe_lst (pa_cons pe_str (pa_cons pe_str (pa_cons pe_str (pa_cons pe_str (pa_cons pe_str (pa_cons pe_str (pa_cons pe_str (pa_cons pe_str (pa_cons pe_str (pa_cons pe_str (pa_cons pe_str (pa_cons pe_str (pa_cons pe_str pa_nil)))))))))))))))
      (pss_cons (ps_set (i := 1) scWords.nd rfl (Or.inr rfl) (pe_op op_cat (pv 1) (pe_lst (pa_cons pe_str (pa_cons pe_str pa_nil)))))
      (pss_one (ps_ret (pe_join pe_str (pe_lc (own := [("_law_k", 2)]) (g := gName 2) (tt := tYes) rfl scWords.nd
        (pi_range1 (by rfl) T.rng (pa_cons (pe_op op_add pe_int (pe_call cT.F hr1 (by rfl) cT.g cT.kp cT.b .nil pass0 (pa_cons (pv 0) (pa_cons (pe_ix ix_list (pe_lst (pa_cons pe_int (pa_cons pe_int (pa_cons pe_int (pa_cons pe_int pa_nil)))))
          (pe_call cT.F hr1 (by rfl) cT.g cT.kp cT.b .nil pass0 (pa_cons (pv 0) (pa_cons pe_int pa_nil))) (fun _ _ => rfl)) pa_nil)))) pa_nil))
        (blkOk_by (N := nWords) (sc := defScope sWords) (by decide +kernel)) (fun _ _ _ _ _ => pg_name (i := 2) scWords.nd rfl (Or.inl rfl)) (fun _ _ _ _ _ => pts_nil)
        (fun _ _ _ _ _ => pe_call cO.F hr rfl cO.g cO.kp cO.b .nil pass0 (pa_cons (pv 0) (pa_cons (pv 1) pa_nil)))))))), ?_⟩
    refine q_asgL (xs := (someW.take 13).map V.str) (el_lst (ea_cs _) (by decide)) fun p1 H1 hp1 e1 h1 => ?_
    refine q_asgL (xs := (someW.take 13).map V.str ++ (someW.drop 13).map V.str) (el_cat (ev_var rfl) h1 (el_lst (ea_cs ((someW.drop 13).map V.str)) (by decide)) (by decide)) fun p2 H2 hp2 e2 h2 => ?_
    have h2' : H2 p2 = some (.lst (someW.map V.str)) := h2
    clear h2
    have row2 : Row K H2 r := row.ex (e1.trans e2)
    have nep : p2 ≠ r := (row.ex e1).ne_new hp2
    refine ⟨⟨_, rfl⟩, ?_⟩
    refine ⟨_, rfl, by show 4 ≤ sizeLine; decide, fun q hq => ?_⟩
    have row3 : Row K (upd H2 q (.lst [.int 1, .int 2, .int 4, .int 8])) r := row2.ex (Ex.new hq)
    have neq : q ≠ r := row2.ne_new hq
    refine draw (m := 4) (ev_var rfl) ev_c row3 (by decide) (by decide) fun n1 G1 hn1 hm1 d1 => ?_
    obtain ⟨m2, ha2, l2, u2⟩ : ∃ m2 : Int, atI [V.int 1, V.int 2, V.int 4, V.int 8] n1 = some (.int m2) ∧ 1 ≤ m2 ∧ m2 ≤ 8 := by
      have : n1 = 0 ∨ n1 = 1 ∨ n1 = 2 ∨ n1 = 3 := by omega
      rcases this with rfl | rfl | rfl | rfl
      · exact ⟨1, rfl, by decide, by decide⟩
      · exact ⟨2, rfl, by decide, by decide⟩
      · exact ⟨4, rfl, by decide, by decide⟩
      · exact ⟨8, rfl, by decide, by decide⟩
    refine ⟨q, _, n1, _, rfl, rfl, sq_of (d1.kp _ _ neq upd_same), ha2, r, m2, rfl, d1.row, by omega, by omega, fun n2 G2 hn2 hm2 d2 => ?_⟩
    have d02 : Dr K r H2 G2 := Dr.trans (Dr.pre (Ex.new hq) d1) d2
    refine ⟨1, n2, rfl, rfl, 1 + n2, rfl, by omega, by omega, fun D hD => ?_⟩
    have hD2 : H2 D = none := d02.free row2 hD
    have neD : D ≠ r := row2.ne_new hD2
    have neDp : D ≠ p2 := (ne_of_none h2' hD2).symm
    refine lc_range (lo := 0) (n := (1 + n2).toNat) (fun i G => ∃ ys : List Str, ys.length = i ∧ (∀ y ∈ ys, y ∈ someW) ∧ G D = some (.lst (ys.map V.str)) ∧ Dr K r H2 G) ⟨[], rfl, fun _ z => (by cases z), upd_same, ?_⟩ ?_ ?_
    · exact ⟨d02.kp.updL hD2, d02.row.ex (Ex.new hD)⟩
    · rintro i G hi ⟨ys, hlen, hys, hGD, d⟩
      refine ⟨rfl, ?_⟩
      unfold tYes
      dsimp only
      rw [if_pos rfl]
      refine ⟨_, rfl, _, rfl, r, p2, someW.map V.str, rfl, d.row, nep, d.kp _ _ nep h2', by decide, by decide, fun v G' hv d' => ?_⟩
      obtain ⟨y, hy, rfl⟩ := List.mem_map.mp hv
      refine ⟨ys.map V.str, d'.kp _ _ neD hGD, sz_lt (by rw [List.length_map]; omega), ys ++ [y], by simp [hlen], fun z hz => ?_, by rw [upd_same]; simp, (Dr.trans d d').updL hD2 (d'.kp _ _ neD hGD) neD⟩
      rcases List.mem_append.mp hz with hz | hz
      · exact hys z hz
      · rw [List.mem_singleton.mp hz]
        exact hy
    · rintro G ⟨ys, hlen, hys, hGD, d⟩
      obtain ⟨w1, w2⟩ := joined_ok hys (by omega)
      exact ⟨_, D, ys, rfl, rfl, .inl (sq_of hGD), w2, k _ G w1 (Dr.pre (e1.trans e2) d)⟩
end
end Bl
namespace Bl
open PySem PySem.Spec PyProof.Rows L2 Bk Bm Evl Be Bp TL
def ps1 : List Str := ["a", "b", "c", "d/x", "d/y", "e/f/g"].map Str.ofString
def ps2 : List Str := ["m", "p/q"].map Str.ofString
theorem FileAt.kp {r : Addr} {H G : Hp} {v : V} {f : Fl} {xs : List V} (h : FileAt H v f) (hr : H r = some (.lst xs)) (k : Kp r H G) : FileAt G v f := by
  obtain ⟨b, rfl, hb⟩ := h
  exact ⟨b, rfl, k b _ (ne_of hb hr (by intro z; cases z)) hb⟩
theorem FileAt.updL {H : Hp} {D : Addr} {v : V} {f : Fl} {xs zs : List V} (h : FileAt H v f) (hr : H D = some (.lst xs)) : FileAt (upd H D (.lst zs)) v f := by
  obtain ⟨b, rfl, hb⟩ := h
  exact ⟨b, rfl, by rw [upd_ne (ne_of hb hr (by intro z; cases z))]; exact hb⟩
section
variable {P : Program} {w : World} {K : PySem.W.Frag} {mg : Str → Option Value} {base : Heap}
abbrev nTree : List Str := ["_law_row", "_law_found", "_law_path"]
theorem scTree : FnScope nTree ["_law_row"] (defScope sTree) := ⟨rfl, rfl, rfl, by decide +kernel, rfl, by decide +kernel, by decide +kernel⟩
/-- between the turns: the list at D holds files whose paths stand in done, in order -/
def TInv (K : PySem.W.Frag) (r : Addr) (H0 : Hp) (D : Addr) (done : List Str) (σ : L2.St) (G : Hp) : Prop :=
  ∃ (vs : List V) (fs : List Fl) (u : Option V), σ = [some (.ref r), some (.ref D), u] ∧ G D = some (.lst vs) ∧ Paired (FileAt G) vs fs ∧ (fs.map (·.1)).Sublist done ∧ (∀ f ∈ fs, okW f.2) ∧ Dr K r H0 G
theorem tree_turns {r D : Addr} {H0 G : Hp} {ps done : List Str} {tt : TT} {De : Ends} {σ : L2.St} (inv : TInv K r H0 D done σ G) (hD0 : H0 D = none) (hDr : D ≠ r) (hz : done.length + ps.length ≤ 100)
    (test : ∀ (q : Str) G (Q : Bool → Hp → Prop), Row K G r → (∀ b G', Dr K r G G' → Q b G') → tt [some (.ref r), some (.ref D), some (.str q)] G Q)
    (k : ∀ σ' G', TInv K r H0 D (done ++ ps) σ' G' → De.nx σ' G') :
    tFor (iList K (tLst (tCs (ps.map V.str)))) (gName 2) (tIfS tt (tDrop (tBM K "list" rAppend (tVar 1) (tCons (tTup (tCons (tVar 2) (tCons (tCall (spWords (K := K)) [] E0 (tCons (tVar 0) tNil)) tNil))) tNil))) tNext) De σ G := by
  obtain ⟨vs0, fs0, u0, es0, hD, _, _, _, d0⟩ := id inv
  refine s_forNL (xs := ps.map V.str) (el_lst (ea_cs _) (by rw [List.length_map]; omega)) (fun p i σ' G' => TInv K r H0 D (done ++ ps.take i) σ' G' ∧ G' p = some (.lst (ps.map V.str)) ∧ p ≠ D ∧ p ≠ r) (fun p H1 hp e h1 => ?_) (fun p i σ' G' _ q => sq_of q.2.1) (fun p i x σ' G' hi q => ?_) (fun p σ' G' q => ?_)
  · obtain ⟨vs, fs, u, es, hD, pf, sl, ok, d⟩ := inv
    refine ⟨⟨vs, fs, u, es, e _ _ hD, paired_mono pf fun _ _ z => z.mono e, by simpa using sl, ok, d.ex e⟩, h1, (ne_of_none hD hp).symm, d.row.ne_new hp⟩
  · obtain ⟨⟨vs, fs, u, rfl, hD, pf, sl, ok, d⟩, hp, npD, npr⟩ := q
    obtain ⟨q, hq, rfl⟩ : ∃ q, ps[i]? = some q ∧ x = V.str q := by
      rw [List.getElem?_map] at hi
      cases e : ps[i]? with
      | none => rw [e] at hi; cases hi
      | some q => rw [e] at hi; exact ⟨q, rfl, (Option.some.inj hi).symm⟩
    have htk : ps.take (i + 1) = ps.take i ++ [q] := by rw [List.take_succ, hq]; rfl
    have hlen : fs.length ≤ 100 := by
      have h1 := sl.length_le
      rw [List.length_map, List.length_append, List.length_take] at h1
      omega
    obtain ⟨rl, hrl⟩ := d.row.at
    refine test q G' _ d.row fun b G1 d1 => ?_
    have hD1 : G1 D = some (.lst vs) := d1.kp _ _ hDr hD
    have pf1 : Paired (FileAt G1) vs fs := paired_mono pf fun _ _ z => FileAt.kp z hrl d1.kp
    cases b with
    | false =>
      rw [if_neg (by decide)]
      exact ⟨⟨vs, fs, _, rfl, hD1, pf1, by rw [htk, ← List.append_assoc]; exact sl.trans (List.sublist_append_left _ _), ok, d.trans d1⟩, d1.kp _ _ npr hp, npD, npr⟩
    | true =>
      rw [if_pos rfl]
      refine ⟨_, rfl, Or.inl ⟨rfl, vs, sq_of hD1⟩, _, rfl, _, rfl, r, rfl, d1.row, fun y G2 hy d2 => ⟨by show 2 ≤ sizeLine; decide, fun T hT => ?_⟩⟩
      obtain ⟨rl1, hrl1⟩ := d1.row.at
      have hD2 : G2 D = some (.lst vs) := d2.kp _ _ hDr hD1
      have pf2 : Paired (FileAt G2) vs fs := paired_mono pf1 fun _ _ z => FileAt.kp z hrl1 d2.kp
      have hD3 : (upd G2 T (.tup [.str q, .str y])) D = some (.lst vs) := (Ex.new hT) _ _ hD2
      have pl := paired_len pf2
      refine ⟨D, vs, .ref T, rfl, rfl, hD3, sz_lt (by omega), ?_⟩
      have d02 : Dr K r H0 (upd G2 T (.tup [.str q, .str y])) := ((d.trans d1).trans d2).ex (Ex.new hT)
      refine ⟨⟨vs ++ [.ref T], fs ++ [(q, y)], _, rfl, upd_same, ?_, ?_, ?_, d02.updL hD0 hD3 hDr⟩, ?_, npD, npr⟩
      · refine paired_append (paired_mono pf2 fun _ _ z => FileAt.updL (z.mono (Ex.new hT)) hD3) (.cons ⟨T, rfl, ?_⟩ .nil)
        rw [upd_ne (ne_of_none hD2 hT).symm, upd_same]
      · rw [htk, ← List.append_assoc, List.map_append]
        exact sl.append (List.Sublist.refl _)
      · intro f hf
        rcases List.mem_append.mp hf with hf | hf
        · exact ok f hf
        · rw [List.mem_singleton.mp hf]
          exact hy
      · rw [upd_ne npD]
        exact (Ex.new hT) _ _ (d2.kp _ _ npr (d1.kp _ _ npr hp))
  · have e : ps.take (ps.map V.str).length = ps := by rw [List.length_map, List.take_length]
    rw [e] at q
    exact k σ' G' q.1
def TreeOk (fs : List Fl) : Prop := (fs.map (·.1)).Sublist (ps1 ++ ps2) ∧ ∀ f ∈ fs, okW f.2
def spTree : Sp := fun vs H Q _ => ∃ r, vs = [.ref r] ∧ Row K H r ∧ ∀ p xs fs G, Dr K r H G → H p = none → G p = some (.tup xs) → Paired (FileAt G) xs fs → TreeOk fs → Q (.ref p) G
theorem ok_tree {f : Addr} {fd : FuncData} (F : Fun K "_law_tree" "_law_tree" sTree f fd) (T : Gv mg) (cT : Cal P w K mg base CX0 1 "_law_taken" ["_law_row", "_law_many"] (spTaken (K := K)))
    (cW : Cal P w K mg base CX0 3 "_law_words" ["_law_row"] (spWords (K := K))) : FnOk P w K mg base CX0 4 f fd ["_law_row"] (spTree (K := K)) := by
  refine F.ok scTree (fun vs H Q E h => ?_) (fun cdv A outer s H vs Q E hr h => ?_)
  · obtain ⟨r, rfl, _⟩ := h
    rfl
  · obtain ⟨r, rfl, row, k⟩ := h
    have hr1 : Room 1 _ := hr.mono (by decide)
    refine ⟨_, pss_cons (ps_set (i := 1) scTree.nd rfl (Or.inl rfl) (pe_lst pa_nil))
      (pss_cons (ps_for PassesOwn.never rfl (pi_list (pe_lst (pa_cons pe_str (pa_cons pe_str (pa_cons pe_str (pa_cons pe_str (pa_cons pe_str (pa_cons pe_str pa_nil)))))))) (pg_name (i := 2) scTree.nd rfl (Or.inl rfl))
        (pss_one (ps_if (pt_cmpR op_gt (pe_call cT.F hr1 (by rfl) cT.g cT.kp cT.b .nil pass0 (pa_cons (pv 0) (pa_cons pe_int pa_nil))) pe_int (nomark _))
          (pss_one (ps_expr (pe_bm PySem.F.plainAttrs_list PySem.F.slot_list_append PySem.F.type_list_append mt_append (pv 1) (pa_cons (pe_tup (pa_cons (pv 2) (pa_cons (pe_call cW.F hr (by rfl) cW.g cW.kp cW.b .nil pass0 (pa_cons (pv 0) pa_nil)) pa_nil))) pa_nil)))) pss_nil)))
      (pss_cons (ps_for PassesOwn.never rfl (pi_list (pe_lst (pa_cons pe_str (pa_cons pe_str pa_nil)))) (pg_name (i := 2) scTree.nd rfl (Or.inl rfl))
        (pss_one (ps_if (pt_cmpR op_eq (pe_call cT.F hr1 (by rfl) cT.g cT.kp cT.b .nil pass0 (pa_cons (pv 0) (pa_cons pe_int pa_nil))) pe_int (nomark _))
          (pss_one (ps_expr (pe_bm PySem.F.plainAttrs_list PySem.F.slot_list_append PySem.F.type_list_append mt_append (pv 1) (pa_cons (pe_tup (pa_cons (pv 2) (pa_cons (pe_call cW.F hr (by rfl) cW.g cW.kp cW.b .nil pass0 (pa_cons (pv 0) pa_nil)) pa_nil))) pa_nil)))) pss_nil)))
      (pss_one (ps_ret (pe_callTy call_tuple_of (by rfl) T.tup (by decide +kernel) (pa_cons (pv 1) pa_nil)))))), ?_⟩
    refine q_asgL (xs := []) (el_lst ea_nil (by decide)) fun D H1 hD e1 h1 => ?_
    have row1 := row.ex e1
    have hDr : D ≠ r := row.ne_new hD
    refine tree_turns (K := K) (r := r) (D := D) (H0 := H) (ps := ps1) (done := []) (De := ⟨_, _, _, _⟩) ⟨[], [], none, rfl, h1, .nil, List.Sublist.refl _, fun _ z => (by cases z), Dr.pre e1 (Dr.refl row1)⟩ hD hDr (by decide) (fun q G Q' rw q' => ?_) fun σ' G' inv => ?_
    · exact draw (m := 4) (ev_var rfl) ev_c rw (by decide) (by decide) fun n G1 hn hm d => ⟨n, 0, rfl, rfl, _, rfl, q' _ G1 d⟩
    refine tree_turns (K := K) (r := r) (D := D) (H0 := H) (ps := ps2) (done := [] ++ ps1) (De := ⟨_, _, _, _⟩) inv hD hDr (by decide) (fun q G Q' rw q' => ?_) fun σ2 G2 inv2 => ?_
    · exact draw (m := 4) (ev_var rfl) ev_c rw (by decide) (by decide) fun n G1 hn hm d => ⟨rfl, _, rfl, q' _ G1 d⟩
    obtain ⟨vs, fs, u, rfl, hD2, pf, sl, ok, d⟩ := inv2
    refine ⟨_, rfl, D, vs, rfl, .inl ⟨sq_of hD2, fun l hl => ?_⟩⟩
    exact k l vs fs _ (d.ex (Ex.new hl)) (d.free row hl) upd_same (paired_mono pf fun _ _ z => z.mono (Ex.new hl)) ⟨sl, ok⟩
end
end Bl
namespace Bl
open PySem PySem.Spec PyProof.Rows L2 Bk Bm Evl Be Bp TL
abbrev sOddP : Stmt := top 39
abbrev sOddW : Stmt := top 40
section
variable {X : Cx}
/-- x * n of a text -/
def rMulS : R2 := fun x y H Q => ∃ z n, x = .str z ∧ y = .int n ∧ MulOk z n ∧ Q (.str (Txt.mul z n)) H
theorem op_mulS : OpR X (binaryOp .Mult) rMulS := by
  intro pins s σ H x y v u Q I rx ry h
  obtain ⟨z, n, rfl, rfl, hok, q⟩ := h
  obtain ⟨t, rfl⟩ := rx
  obtain ⟨t', rfl⟩ := ry
  exact SB.mul hok fun t2 k => ⟨.str (Txt.mul z n), H, I.tok k, ⟨_, rfl⟩, q⟩
end
theorem Sm.kp {r : Addr} {H G : Hp} {v : V} {xs : List V} (h : Sm H v) (hr : H r = some (.lst xs)) (hx : xs.length ≠ 1) (k : Kp r H G) : Sm G v := by
  cases h with
  | non => exact .non
  | bl b => exact .bl b
  | int i => exact .int i
  | str x h => exact .str x h
  | l1 h => exact .l1 (k _ _ (ne_of h hr (by intro z; cases z; exact hx rfl)) h)
  | t1 h => exact .t1 (k _ _ (ne_of h hr (by intro z; cases z)) h)
  | d0 h => exact .d0 (k _ _ (ne_of h hr (by intro z; cases z)) h)
theorem Sm.dr {K : PySem.W.Frag} {r : Addr} {H G : Hp} {v : V} (h : Sm H v) (row : Row K H r) (d : Dr K r H G) : Sm G v := by
  obtain ⟨a, i, s, z, ns, hr, _⟩ := row
  exact Sm.kp h hr (by show 4 ≠ 1; decide) d.kp
section
variable {P : Program} {w : World} {K : PySem.W.Frag} {mg : Str → Option Value} {base : Heap}
theorem scOddP : FnScope ["_law_row", "_law_odd"] ["_law_row"] (defScope sOddP) := ⟨rfl, rfl, rfl, by decide +kernel, rfl, by decide +kernel, by decide +kernel⟩
theorem scOddW : FnScope ["_law_row"] ["_law_row"] (defScope sOddW) := ⟨rfl, rfl, rfl, by decide +kernel, rfl, by decide +kernel, by decide +kernel⟩
def oddS : List Str := ["", "/", "a/", "/a", "A", "a b", "a//b", "a/b/c/d", "abcdefg", "a-b"].map Str.ofString
def oddL (t l : Addr) : List V := [.non, .int 0, .bl true] ++ oddS.map V.str ++ [.ref t, .ref l]
theorem odd_strs : ∀ x ∈ Str.ofString "a\n" :: oddS, x.length ≤ 1000 ∧ pathB x = false := by decide +kernel
def spOdd (ok : V → Bool) : Sp := fun vs H Q _ => ∃ r, vs = [.ref r] ∧ Row K H r ∧ ∀ v G, Dr K r H G → Sm G v → ok v = false → Q v G
theorem ok_oddP {f : Addr} {fd : FuncData} (F : Fun K "_law_odd_path" "_law_odd_path" sOddP f fd) (T : Gv mg) (cT : Cal P w K mg base CX0 1 "_law_taken" ["_law_row", "_law_many"] (spTaken (K := K))) : FnOk P w K mg base CX0 2 f fd ["_law_row"] (spOdd (K := K) isPathV) := by
  refine F.ok scOddP (fun vs H Q E h => ?_) (fun cdv A outer s H vs Q E hr h => ?_)
  · obtain ⟨r, rfl, _⟩ := h
    rfl
  · obtain ⟨r, rfl, row, k⟩ := h
    refine ⟨_, pss_cons (ps_set (i := 1) scOddP.nd rfl (Or.inl rfl) (pe_lst (pa_cons pe_non (pa_cons pe_int (pa_cons pe_bl (pa_cons pe_str (pa_cons pe_str (pa_cons pe_str (pa_cons pe_str (pa_cons pe_str (pa_cons pe_str (pa_cons pe_str (pa_cons pe_str (pa_cons pe_str (pa_cons pe_str
        (pa_cons (pe_tup (pa_cons pe_str pa_nil)) (pa_cons (pe_lst (pa_cons pe_str pa_nil)) pa_nil)))))))))))))))))
      (pss_cons (ps_set (i := 1) scOddP.nd rfl (Or.inl rfl) (pe_op op_cat (pv 1) (pe_lst (pa_cons pe_dnewK (pa_cons pe_str pa_nil)))))
      (pss_one (ps_ret (pe_ix ix_list (pv 1) (pe_call cT.F hr (by rfl) cT.g cT.kp cT.b .nil pass0 (pa_cons (pv 0) (pa_cons (pe_callB call_len_seq (by rfl) T.len PySem.boot_len (pa_cons (pv 1) pa_nil)) pa_nil))) (fun _ _ => rfl))))), ?_⟩
    refine ⟨by show 1 ≤ sizeLine; decide, fun t ht => ⟨by show 1 ≤ sizeLine; decide, fun l hl => ⟨by show 15 ≤ sizeLine; decide, fun o ho => ?_⟩⟩⟩
    refine ⟨_, rfl, fun d hd => ⟨by show 2 ≤ sizeLine; decide, fun l2 hl2 => ⟨o, l2, oddL t l, [.ref d, .str (Str.ofString "a\n")], rfl, rfl, ?_, upd_same, by show 15 + 2 ≤ sizeLine; decide, fun o2 ho2 => ?_⟩⟩⟩
    · exact (Ex.new hl2) _ _ ((Ex.new hd) _ _ upd_same)
    have eAll := (Ex.new (o := .tup [.str (Str.ofString "a")]) ht).trans ((Ex.new (o := .lst [.str (Str.ofString "a")]) hl).trans ((Ex.new (o := .lst (oddL t l)) ho).trans ((Ex.new (o := .dK []) hd).trans ((Ex.new (o := .lst [V.ref d, V.str (Str.ofString "a\n")]) hl2).trans (Ex.new (o := .lst (oddL t l ++ [V.ref d, V.str (Str.ofString "a\n")])) ho2)))))
    have row2 := row.ex eAll
    have ft := ((Ex.new (o := .lst [.str (Str.ofString "a")]) hl).trans ((Ex.new (o := .lst (oddL t l)) ho).trans ((Ex.new (o := .dK []) hd).trans ((Ex.new (o := .lst [V.ref d, V.str (Str.ofString "a\n")]) hl2).trans (Ex.new (o := .lst (oddL t l ++ [V.ref d, V.str (Str.ofString "a\n")])) ho2))))) _ _ (upd_same (a := t) (o := .tup [.str (Str.ofString "a")]) (H := H))
    have fl := ((Ex.new (o := .lst (oddL t l)) ho).trans ((Ex.new (o := .dK []) hd).trans ((Ex.new (o := .lst [V.ref d, V.str (Str.ofString "a\n")]) hl2).trans (Ex.new (o := .lst (oddL t l ++ [V.ref d, V.str (Str.ofString "a\n")])) ho2)))) _ _ (upd_same (a := l) (o := .lst [.str (Str.ofString "a")]))
    have fd' := ((Ex.new (o := .lst [V.ref d, V.str (Str.ofString "a\n")]) hl2).trans (Ex.new (o := .lst (oddL t l ++ [V.ref d, V.str (Str.ofString "a\n")])) ho2)) _ _ (upd_same (a := d) (o := .dK []))
    have neo : o2 ≠ r := (row.ex ((Ex.new (o := .tup [.str (Str.ofString "a")]) ht).trans ((Ex.new (o := .lst [.str (Str.ofString "a")]) hl).trans ((Ex.new (o := .lst (oddL t l)) ho).trans ((Ex.new (o := .dK []) hd).trans (Ex.new (o := .lst [V.ref d, V.str (Str.ofString "a\n")]) hl2)))))).ne_new ho2
    refine ⟨_, rfl, draw (m := 17) (ev_var rfl) (ev_is (ev_len (ev_var rfl) (sq_of upd_same)) rfl) row2 (by decide) (by decide) fun n G hn hm dd => ?_⟩
    have hv : ∀ v ∈ oddL t l ++ [V.ref d, V.str (Str.ofString "a\n")], ∀ F : Hp, F t = some (.tup [.str (Str.ofString "a")]) → F l = some (.lst [.str (Str.ofString "a")]) → F d = some (.dK []) → Sm F v ∧ isPathV v = false := by
      intro v hv F f1 f2 f3
      simp only [oddL, List.mem_append, List.mem_cons, List.not_mem_nil, or_false, List.mem_map] at hv
      rcases hv with ((((rfl | rfl | rfl) | ⟨x, hx, rfl⟩) | (rfl | rfl)) | (rfl | rfl))
      · exact ⟨.non, rfl⟩
      · exact ⟨.int _, rfl⟩
      · exact ⟨.bl _, rfl⟩
      · have h := odd_strs x (List.mem_cons_of_mem _ hx)
        exact ⟨.str _ h.1, h.2⟩
      · exact ⟨.t1 f1, rfl⟩
      · exact ⟨.l1 f2, rfl⟩
      · exact ⟨.d0 f3, rfl⟩
      · have h := odd_strs _ List.mem_cons_self
        exact ⟨.str _ h.1, h.2⟩
    have hin : n.toNat < (oddL t l ++ [V.ref d, V.str (Str.ofString "a\n")]).length := by
      show n.toNat < 17
      omega
    obtain ⟨s1, s2⟩ := hv _ (List.getElem_mem hin) _ ft fl fd'
    refine ⟨o2, _, n, _, rfl, rfl, sq_of (dd.kp _ _ neo upd_same), at_of (j := n.toNat) (by omega) (List.getElem?_eq_getElem hin), ?_⟩
    exact k _ G (Dr.pre eAll dd) (Sm.dr s1 row2 dd) s2
def oddW : List V := [.non, .int 0, .bl true, .str (Txt.mul (Str.ofString "a") 201)]
theorem mul_ok : MulOk (Str.ofString "a") 201 := by
  refine ⟨by decide, fun _ _ => by decide +kernel, fun _ _ => by decide +kernel⟩
theorem mul_bad : (Txt.mul (Str.ofString "a") 201).length ≤ 1000 ∧ textB (Txt.mul (Str.ofString "a") 201) = false := by decide +kernel
theorem ok_oddW {f : Addr} {fd : FuncData} (F : Fun K "_law_odd_words" "_law_odd_words" sOddW f fd) (T : Gv mg) (cT : Cal P w K mg base CX0 1 "_law_taken" ["_law_row", "_law_many"] (spTaken (K := K))) : FnOk P w K mg base CX0 2 f fd ["_law_row"] (spOdd (K := K) isTextV) := by
  refine F.ok scOddW (fun vs H Q E h => ?_) (fun cdv A outer s H vs Q E hr h => ?_)
  · obtain ⟨r, rfl, _⟩ := h
    rfl
  · obtain ⟨r, rfl, row, k⟩ := h
    refine ⟨_, pss_one (ps_ret (pe_ix ix_list (pe_lst (pa_cons pe_non (pa_cons pe_int (pa_cons pe_bl (pa_cons (pe_op op_mulS pe_str pe_int) (pa_cons (pe_tup (pa_cons pe_str pa_nil)) (pa_cons (pe_lst (pa_cons pe_str pa_nil)) (pa_cons pe_dnewK pa_nil))))))))
      (pe_call cT.F hr (by rfl) cT.g cT.kp cT.b .nil pass0 (pa_cons (pv 0) (pa_cons pe_int pa_nil))) (fun _ _ => rfl))), ?_⟩
    refine ⟨_, _, rfl, rfl, mul_ok, ⟨by show 1 ≤ sizeLine; decide, fun t ht => ⟨by show 1 ≤ sizeLine; decide, fun l hl => fun d hd => ⟨by show 7 ≤ sizeLine; decide, fun o ho => ?_⟩⟩⟩⟩
    have eAll := (Ex.new (o := .tup [.str (Str.ofString "a")]) ht).trans ((Ex.new (o := .lst [.str (Str.ofString "a")]) hl).trans ((Ex.new (o := .dK []) hd).trans (Ex.new (o := .lst (oddW ++ [V.ref t, V.ref l, V.ref d])) ho)))
    have row2 := row.ex eAll
    have ft := ((Ex.new (o := .lst [.str (Str.ofString "a")]) hl).trans ((Ex.new (o := .dK []) hd).trans (Ex.new (o := .lst (oddW ++ [V.ref t, V.ref l, V.ref d])) ho))) _ _ (upd_same (a := t) (o := .tup [.str (Str.ofString "a")]) (H := H))
    have fl := ((Ex.new (o := .dK []) hd).trans (Ex.new (o := .lst (oddW ++ [V.ref t, V.ref l, V.ref d])) ho)) _ _ (upd_same (a := l) (o := .lst [.str (Str.ofString "a")]))
    have fd' := (Ex.new (o := .lst (oddW ++ [V.ref t, V.ref l, V.ref d])) ho) _ _ (upd_same (a := d) (o := .dK []))
    have neo : o ≠ r := (row.ex ((Ex.new (o := .tup [.str (Str.ofString "a")]) ht).trans ((Ex.new (o := .lst [.str (Str.ofString "a")]) hl).trans (Ex.new (o := .dK []) hd)))).ne_new ho
    refine draw (m := 7) (ev_var rfl) ev_c row2 (by decide) (by decide) fun n G hn hm dd => ?_
    have hv : ∀ v ∈ oddW ++ [V.ref t, V.ref l, V.ref d], ∀ F : Hp, F t = some (.tup [.str (Str.ofString "a")]) → F l = some (.lst [.str (Str.ofString "a")]) → F d = some (.dK []) → Sm F v ∧ isTextV v = false := by
      intro v hv F f1 f2 f3
      simp only [oddW, List.mem_append, List.mem_cons, List.not_mem_nil, or_false] at hv
      rcases hv with ((rfl | rfl | rfl | rfl) | (rfl | rfl | rfl))
      · exact ⟨.non, rfl⟩
      · exact ⟨.int _, rfl⟩
      · exact ⟨.bl _, rfl⟩
      · exact ⟨.str _ mul_bad.1, mul_bad.2⟩
      · exact ⟨.t1 f1, rfl⟩
      · exact ⟨.l1 f2, rfl⟩
      · exact ⟨.d0 f3, rfl⟩
    have hin : n.toNat < (oddW ++ [V.ref t, V.ref l, V.ref d]).length := by
      show n.toNat < 7
      omega
    obtain ⟨s1, s2⟩ := hv _ (List.getElem_mem hin) _ ft fl fd'
    refine ⟨o, _, n, _, rfl, rfl, sq_of (dd.kp _ _ neo upd_same), at_of (j := n.toNat) (by omega) (List.getElem?_eq_getElem hin), ?_⟩
    exact k _ G (Dr.pre eAll dd) (Sm.dr s1 row2 dd) s2
end
end Bl
namespace Bl
open PySem PySem.Spec PyProof.Rows L2 Bk Bm Evl Be Bp TL
/-! ### the mathematics of spoilt trees -/
abbrev lt (p q : Str) : Prop := p.cps.toList < q.cps.toList
/-- q may stand behind p -/
def Rp (p q : Str) : Prop := lt p q ∧ within q p = false
instance (p q : Str) : Decidable (Rp p q) := inferInstanceAs (Decidable (_ ∧ _))
def allP : List Str := ps1 ++ ps2
theorem allP_pw : allP.Pairwise Rp := by decide +kernel
theorem allP_ok : ∀ p ∈ allP, pathB p = true ∧ p.length ≤ 5 ∧ PyData.strOk p = true ∧
    ((Txt.split p (Str.ofString "/")).length = 3 ∨ ((Txt.split p (Str.ofString "/")).length ≠ 3 ∧ pathB (p ++ Str.ofString "/z") = true ∧ within (p ++ Str.ofString "/z") p = true ∧ PyData.strOk (p ++ Str.ofString "/z") = true ∧ (p ++ Str.ofString "/z").length ≤ 1000)) := by decide +kernel
theorem lt_irr (p : Str) : ¬ lt p p := List.lt_irrefl _
theorem lt_asy {p q : Str} (h : lt p q) : ¬ lt q p := fun h' => lt_irr p (List.lt_trans h h')
theorem follow_good {pre : List Fl} {f : Fl} (h : ((pre ++ [f]).map (·.1)).Pairwise Rp) : follow f.1 pre = true := by
  rw [List.map_append, List.pairwise_append] at h
  have h1 : ∀ g ∈ pre, Rp g.1 f.1 := fun g hg => h.2.2 _ (List.mem_map.mpr ⟨g, hg, rfl⟩) _ (by simp)
  unfold follow
  cases e : pre.getLast? with
  | none => rfl
  | some l =>
    have hl : l ∈ pre := List.mem_of_getLast? e
    have h2 : (pre.any fun g => within f.1 g.1) = false := by
      rw [List.any_eq_false]
      intro g hg
      rw [(h1 g hg).2]
      decide
    show (decide (lt l.1 f.1) && !(pre.any fun g => within f.1 g.1)) = true
    rw [decide_eq_true (h1 l hl).1, h2]
    rfl
theorem fb_good : ∀ (suf pre : List Fl) (rest : List (Option Fl)), ((pre ++ suf).map (·.1)).Pairwise Rp → fb pre (suf.map some ++ rest) = fb (pre ++ suf) rest
  | [], pre, rest, _ => by simp
  | f :: r, pre, rest, h => by
    have e : pre ++ f :: r = (pre ++ [f]) ++ r := by simp
    have h0 : ((pre ++ [f]).map (·.1)).Pairwise Rp := by
      rw [e, List.map_append] at h
      exact (List.pairwise_append.mp h).1
    show (if follow f.1 pre = true then fb (pre ++ [f]) (r.map some ++ rest) else _) = _
    rw [if_pos (follow_good h0), fb_good r (pre ++ [f]) rest (by rw [← e]; exact h), e]
theorem tree_pw {fs : List Fl} (h : TreeOk fs) : (fs.map (·.1)).Pairwise Rp := allP_pw.sublist h.1
theorem tree_len {fs : List Fl} (h : TreeOk fs) : fs.length ≤ 8 := by
  have h1 := h.1.length_le
  rw [List.length_map] at h1
  exact h1
theorem tree_mem {fs : List Fl} (h : TreeOk fs) {f : Fl} (hf : f ∈ fs) : f.1 ∈ allP ∧ okW f.2 := ⟨h.1.subset (List.mem_map.mpr ⟨f, hf, rfl⟩), h.2 f hf⟩
theorem tree_okF {fs : List Fl} (h : TreeOk fs) {f : Fl} (hf : f ∈ fs) : okF f ∧ (pathB f.1 && textB f.2) = true := by
  obtain ⟨h1, h2⟩ := tree_mem h hf
  have h3 := allP_ok _ h1
  refine ⟨⟨by omega, by have := h2.1; omega, h3.2.2.1, h2.2.2⟩, ?_⟩
  rw [h3.1, h2.2.1]
  rfl
theorem fb_tree {fs : List Fl} (h : TreeOk fs) : fb [] (fs.map some) = none := by
  have e := fb_good fs [] [] (by simpa using tree_pw h)
  rw [List.append_nil] at e
  rw [e]
  rfl
/-- a wrong thing at a place of a good tree -/
theorem fb_at {fs : List Fl} (h : TreeOk fs) {i : Nat} (hi : i ≤ fs.length) {o : Option Fl} (ho : ∀ f, o = some f → follow f.1 (fs.take i) = false) (rest : List (Option Fl)) : fb [] ((fs.take i).map some ++ (o :: rest)) = some i := by
  have e := fb_good (fs.take i) [] (o :: rest) (by
    rw [List.nil_append]
    have h1 := tree_pw h
    exact h1.sublist ((List.take_sublist i fs).map _))
  rw [e]
  have hl : (fs.take i).length = i := by rw [List.length_take]; omega
  cases o with
  | none =>
    show some ([] ++ fs.take i).length = some i
    rw [List.nil_append, hl]
  | some f =>
    show (if follow f.1 ([] ++ fs.take i) = true then _ else some ([] ++ fs.take i).length) = some i
    rw [List.nil_append, ho f rfl, if_neg (by decide), hl]
/-- a path that stands at an earlier place -/
theorem follow_dup {fs : List Fl} (h : TreeOk fs) {i j : Nat} (hi : i ≤ fs.length) (hj : j < i) {f : Fl} (hf : fs[j]? = some f) : follow f.1 (fs.take i) = false := by
  have hl : (fs.take i).length = i := by rw [List.length_take]; omega
  have hfl : (fs.take i).getLast? = fs[i - 1]? := by
    rw [List.getLast?_eq_getElem?, hl, List.getElem?_take_of_lt (by omega)]
  have hb : i - 1 < fs.length := by omega
  unfold follow
  rw [hfl, List.getElem?_eq_getElem hb]
  show (decide (lt fs[i - 1].1 f.1) && _) = false
  have no : ¬ lt fs[i - 1].1 f.1 := by
    obtain ⟨hjl, e⟩ := List.getElem?_eq_some_iff.mp hf
    by_cases c : j = i - 1
    · subst c
      rw [e]
      exact lt_irr _
    · have pw := tree_pw h
      rw [List.pairwise_iff_getElem] at pw
      have r := pw j (i - 1) (by simpa using hjl) (by simpa using hb) (by omega)
      rw [List.getElem_map, List.getElem_map, e] at r
      exact lt_asy r.1
  rw [decide_eq_false no]
  rfl
/-- a path within the one ahead -/
theorem follow_in {fs : List Fl} {i : Nat} {l : Fl} {p : Str} (hl : fs[i]? = some l) (hw : within p l.1 = true) : follow p (fs.take (i + 1)) = false := by
  have hm : l ∈ fs.take (i + 1) := by
    rw [List.take_succ, hl]
    simp
  unfold follow
  cases e : (fs.take (i + 1)).getLast? with
  | none =>
    rw [List.getLast?_eq_none_iff.mp e] at hm
    cases hm
  | some z =>
    have h2 : ((fs.take (i + 1)).any fun g => within p g.1) = true := List.any_eq_true.mpr ⟨l, hm, hw⟩
    show (decide _ && !((fs.take (i + 1)).any fun g => within p g.1)) = false
    rw [h2]
    simp
end Bl
namespace Bl
open PySem PySem.Spec PyProof.Rows L2 Bk Bm Evl Be Bp TL
abbrev sOddT : Stmt := top 41
abbrev nOddT : List Str := ["_law_row", "_law_tree_here", "_law_kind", "_law_none", "_law_at", "_law_odd", "_law_bad", "_law_file", "_law_k"]
theorem scOddT : FnScope nOddT ["_law_row", "_law_tree_here"] (defScope sOddT) := ⟨rfl, rfl, rfl, by decide +kernel, rfl, by decide +kernel, by decide +kernel⟩
/-! ### tuples cut and put together -/
def EvX (te : TE) (σ : L2.St) (H : Hp) (xs : List V) : Prop := ∀ H1, Ex H H1 → ∀ Q : VK, (∀ p H2, Ex H1 H2 → H2 p = some (.tup xs) → Q (.ref p) H2) → te σ H1 Q
section
variable {K : PySem.W.Frag} {σ : L2.St} {H : Hp} {ta tb te ti : TE} {a : Addr} {xs ys : List V}
theorem ex_tup {ta : TA} {vs : List V} (h : EvA ta σ H vs) (hl : vs.length ≤ 100000) : EvX (tTup ta) σ H vs := fun H1 e Q q =>
  h H1 e _ fun H2 e2 => ⟨sz_of hl, fun p hp => q p _ (e2.trans (Ex.new hp)) upd_same⟩
theorem ex_cat (h1 : EvX ta σ H xs) (h2 : EvX tb σ H ys) (hl : xs.length + ys.length ≤ 100000) : EvX (tOp (rCatA K) ta tb) σ H (xs ++ ys) := fun H1 e Q q =>
  h1 H1 e _ fun a H2 e2 ha => h2 H2 (e.trans e2) _ fun b H3 e3 hb => ⟨a, b, xs, ys, rfl, rfl, st_of (e3 _ _ ha), st_of hb, sz_of hl,
    fun z => q b H3 (e2.trans e3) (by rw [z]; exact hb), fun _ z => q a H3 (e2.trans e3) (by rw [z, List.append_nil]; exact e3 _ _ ha), fun _ _ p hp => q p _ ((e2.trans e3).trans (Ex.new hp)) upd_same⟩
theorem ex_to {i : Nat} (h : Ev te σ H (.ref a)) (hi : Ev ti σ H (.int (i : Int))) (hx : H a = some (.tup xs)) (hl : i ≤ xs.length) : EvX (tSl (rSlA K) te tNoPart (tPart ti)) σ H (xs.take i) := fun H1 e Q q =>
  h H1 e _ fun H2 e2 => hi H2 (e.trans e2) _ fun H3 e3 => ⟨(i : Int), rfl, a, xs, rfl, st_of (((e.trans e2).trans e3) _ _ hx), by
    have c1 : HT.sIx xs.length 0 none = 0 := HT.sIx_none _ _
    have c2 : HT.sIx xs.length xs.length (some (i : Int)) = i := by rw [HT.sIx_nat]; omega
    have c3 : cutV xs none (some (i : Int)) = xs.take i := by
      unfold cutV
      rw [c1, c2]
      simp
    rw [c1, c2]
    refine ⟨fun z => ?_, fun z p hp => ?_⟩
    · refine q a H3 (e2.trans e3) ?_
      rw [z.2, List.take_length]
      exact ((e.trans e2).trans e3) _ _ hx
    · refine q p _ ((e2.trans e3).trans (Ex.new hp)) ?_
      rw [c3]
      exact upd_same⟩
theorem ex_from {i : Nat} (h : Ev te σ H (.ref a)) (hi : Ev ti σ H (.int (i : Int))) (hx : H a = some (.tup xs)) (hl : i ≤ xs.length) : EvX (tSl (rSlA K) te (tPart ti) tNoPart) σ H (xs.drop i) := fun H1 e Q q =>
  h H1 e _ fun H2 e2 => hi H2 (e.trans e2) _ fun H3 e3 => ⟨(i : Int), rfl, a, xs, rfl, st_of (((e.trans e2).trans e3) _ _ hx), by
    have c1 : HT.sIx xs.length 0 (some (i : Int)) = i := by rw [HT.sIx_nat]; omega
    have c2 : HT.sIx xs.length xs.length none = xs.length := HT.sIx_none _ _
    have c3 : cutV xs (some (i : Int)) none = xs.drop i := by
      unfold cutV
      rw [c1, c2, List.take_of_length_le (by rw [List.length_drop]; omega)]
    rw [c1, c2]
    refine ⟨fun z => ?_, fun z p hp => ?_⟩
    · refine q a H3 (e2.trans e3) ?_
      rw [z.1]
      exact ((e.trans e2).trans e3) _ _ hx
    · refine q p _ ((e2.trans e3).trans (Ex.new hp)) ?_
      rw [c3]
      exact upd_same⟩
end
theorem small_str : ∀ k < 21, Nat.log2 k < 1920 ∧ (toString (k : Int) : Str).length ≤ 100 := by decide +kernel
/-- a thing that is no file -/
inductive OddIt (H : Hp) : V → Prop
  | non : OddIt H .non
  | i0 : OddIt H (.int 0)
  | sz : OddIt H (.str (Str.ofString "z"))
  | t1 {a : Addr} (h : H a = some (.tup [.str (Str.ofString "a")])) : OddIt H (.ref a)
  | l2 {a : Addr} (h : H a = some (.lst [.str (Str.ofString "z"), .str (Str.ofString "")])) : OddIt H (.ref a)
  | t3 {a : Addr} (h : H a = some (.tup [.str (Str.ofString "z"), .str (Str.ofString ""), .str (Str.ofString "")])) : OddIt H (.ref a)
  | pt {a : Addr} {u : V} (h : H a = some (.tup [u, .str (Str.ofString "")])) (su : Sm H u) (bu : isPathV u = false) : OddIt H (.ref a)
  | wt {a : Addr} {u : V} (h : H a = some (.tup [.str (Str.ofString "z"), u])) (su : Sm H u) (bu : isTextV u = false) : OddIt H (.ref a)
theorem OddIt.ex {H G : Hp} {v : V} (h : OddIt H v) (e : Ex H G) : OddIt G v := by
  cases h with
  | non => exact .non
  | i0 => exact .i0
  | sz => exact .sz
  | t1 h => exact .t1 (e _ _ h)
  | l2 h => exact .l2 (e _ _ h)
  | t3 h => exact .t3 (e _ _ h)
  | pt h su bu => exact .pt (e _ _ h) (su.mono e) bu
  | wt h su bu => exact .wt (e _ _ h) (su.mono e) bu
theorem OddIt.dr {K : PySem.W.Frag} {r : Addr} {H G : Hp} {v : V} (h : OddIt H v) (row : Row K H r) (d : Dr K r H G) : OddIt G v := by
  obtain ⟨a, i, s, z, ns, hr, _⟩ := id row
  cases h with
  | non => exact .non
  | i0 => exact .i0
  | sz => exact .sz
  | t1 h => exact .t1 (d.kp _ _ (ne_of h hr (by intro z; cases z)) h)
  | l2 h => exact .l2 (d.kp _ _ (ne_of h hr (by intro z; cases z)) h)
  | t3 h => exact .t3 (d.kp _ _ (ne_of h hr (by intro z; cases z)) h)
  | pt h su bu => exact .pt (d.kp _ _ (ne_of h hr (by intro z; cases z)) h) (Sm.dr su row d) bu
  | wt h su bu => exact .wt (d.kp _ _ (ne_of h hr (by intro z; cases z)) h) (Sm.dr su row d) bu
theorem OddIt.fil {K : PySem.W.Frag} {H : Hp} {v : V} (h : OddIt H v) : Fil K H v false := by
  cases h with
  | non => exact .no kd_non (by decide)
  | i0 => exact .no (kd_int 0) (by decide)
  | sz => exact .no (kd_str _) (by decide)
  | t1 h => exact .len h (by decide) (by decide)
  | l2 h => exact .no (kd_lst h) (by decide)
  | t3 h => exact .len h (by decide) (by decide)
  | pt h su bu =>
    have q := Fil.two (K := K) h su (.str (Str.ofString "") (by decide))
    rw [bu] at q
    exact q
  | @wt a u h su bu =>
    have q := Fil.two (K := K) h (.str (Str.ofString "z") (by decide)) su
    rw [bu, Bool.and_false] at q
    exact q
theorem itm_files {K : PySem.W.Frag} {H : Hp} {xs : List V} {fs : List Fl} (h : Paired (FileAt H) xs fs) (ok : ∀ f ∈ fs, okF f ∧ (pathB f.1 && textB f.2) = true) : Paired (Itm K H) xs (fs.map some) := by
  induction h with
  | nil => exact .nil
  | cons r _ ih => exact .cons ⟨r, ok _ List.mem_cons_self⟩ (ih fun f hf => ok f (List.mem_cons_of_mem _ hf))
theorem paired_drop {α β : Type} {F : α → β → Prop} {l : List α} {m : List β} (h : Paired F l m) : ∀ n, Paired F (l.drop n) (m.drop n) := by
  induction h with
  | nil => intro n; simp; exact .nil
  | cons r t ih =>
    intro n
    cases n with
    | zero => exact .cons r t
    | succ n => exact ih n
/-- a thing put into a good tree -/
theorem tr_spoilt {K : PySem.W.Frag} {H : Hp} {q : Addr} {xs : List V} {fs : List Fl} {b : V} {o : Option Fl} {i : Nat} (hq : H q = some (.tup (xs.take i ++ [b] ++ xs.drop i))) (pf : Paired (FileAt H) xs fs) (ok : TreeOk fs) (hi : i ≤ fs.length)
    (it : Itm K H b o) (ho : ∀ f, o = some f → follow f.1 (fs.take i) = false) : Tr K H (.ref q) (some (.int (i : Int))) := by
  have ip : Paired (Itm K H) xs (fs.map some) := itm_files pf fun f hf => tree_okF ok hf
  have ps : Paired (Itm K H) (xs.take i ++ [b] ++ xs.drop i) ((fs.take i).map some ++ (o :: (fs.drop i).map some)) := by
    have h1 := paired_append (paired_append (paired_take ip i) (.cons it .nil)) (paired_drop ip i)
    rw [List.map_take, List.map_drop]
    simpa using h1
  have hl := paired_len ps
  have hl2 := paired_len pf
  have h8 := tree_len ok
  have t := Tr.tup hq (by simp only [List.length_append, List.length_take, List.length_drop, List.length_cons, List.length_nil]; omega) ps
  rw [fb_at ok hi ho] at t
  exact t
section
variable {P : Program} {w : World} {K : PySem.W.Frag} {mg : Str → Option Value} {base : Heap}
def spOddT : Sp := fun vs H Q _ => ∃ r p xs fs, vs = [.ref r, .ref p] ∧ Row K H r ∧ H p = some (.tup xs) ∧ Paired (FileAt H) xs fs ∧ TreeOk fs ∧
  ∀ l bad u G, Dr K r H G → G l = some (.lst [bad, u]) → Tr K G bad (some u) → (u = .non ∨ ∃ i : Nat, u = .int (i : Int)) → Q (.ref l) G
theorem ok_oddT {f : Addr} {fd : FuncData} (F : Fun K "_law_odd_tree" "_law_odd_tree" sOddT f fd) (T : Gv mg) (cT : Cal P w K mg base CX0 1 "_law_taken" ["_law_row", "_law_many"] (spTaken (K := K)))
    (cP : Cal P w K mg base CX0 2 "_law_odd_path" ["_law_row"] (spOdd (K := K) isPathV)) (cW : Cal P w K mg base CX0 2 "_law_odd_words" ["_law_row"] (spOdd (K := K) isTextV)) : FnOk P w K mg base CX0 3 f fd ["_law_row", "_law_tree_here"] (spOddT (K := K)) := by
  refine F.ok scOddT (fun vs H Q E h => ?_) (fun cdv A outer s H vs Q E hr h => ?_)
  · obtain ⟨r, p, xs, fs, rfl, _⟩ := h
    rfl
  · obtain ⟨r, p, xs, fs, rfl, row, hp, pf, ok, k⟩ := h
    have hr1 : Room 1 _ := hr.mono (by decide)
    refine ⟨_, pss_cons (ps_set (i := 2) scOddT.nd rfl (Or.inl rfl) (pe_call cT.F hr1 (by rfl) cT.g cT.kp cT.b .nil pass0 (pa_cons (pv 0) (pa_cons pe_int pa_nil))))
      (pss_cons (ps_if (pt_cmpR op_eq (pv 2) pe_int (nomark _))
        (pss_cons (ps_set (i := 3) scOddT.nd rfl (Or.inl rfl) (pe_lst (pa_cons pe_non (pa_cons (pe_callTy call_list_of (by rfl) T.lst (by decide +kernel) (pa_cons (pv 1) pa_nil)) (pa_cons pe_int (pa_cons pe_str (pa_cons pe_dnewK
          (pa_cons (pe_callTy call_tuple_of (by rfl) T.tup (by decide +kernel) (pa_cons (pe_lc (own := [("_law_k", 8)]) (g := gName 8) (tt := tYes) rfl scOddT.nd (pi_range1 (by rfl) T.rng (pa_cons pe_int pa_nil)) (blkOk_by (N := nOddT) (sc := defScope sOddT) (by decide +kernel))
            (fun _ _ _ _ _ => pg_name (i := 8) scOddT.nd rfl (Or.inl rfl)) (fun _ _ _ _ _ => pts_nil)
            (fun _ _ _ _ _ => pe_tup (pa_cons (pe_op op_add_str pe_str (pe_callTy call_str_int (by rfl) T.str (by decide +kernel) (pa_cons (pv 8) pa_nil))) (pa_cons pe_str pa_nil)))) pa_nil))
          (pa_cons pe_bl pa_nil)))))))))
        (pss_one (ps_ret (pe_lst (pa_cons (pe_ix ix_list (pv 3) (pe_call cT.F hr1 (by rfl) cT.g cT.kp cT.b .nil pass0 (pa_cons (pv 0) (pa_cons pe_int pa_nil))) (fun _ _ => rfl)) (pa_cons pe_non pa_nil)))))) pss_nil)
      (pss_cons (ps_set (i := 4) scOddT.nd rfl (Or.inl rfl) (pe_call cT.F hr1 (by rfl) cT.g cT.kp cT.b .nil pass0 (pa_cons (pv 0) (pa_cons (pe_op op_add (pe_callB call_len_seq (by rfl) T.len PySem.boot_len (pa_cons (pv 1) pa_nil)) pe_int) pa_nil))))
      (pss_cons (ps_set (i := 5) scOddT.nd rfl (Or.inl rfl) (pe_lst (pa_cons pe_non (pa_cons (pe_tup (pa_cons pe_str pa_nil)) (pa_cons (pe_lst (pa_cons pe_str (pa_cons pe_str pa_nil)))
          (pa_cons (pe_tup (pa_cons (pe_call cP.F hr (by rfl) cP.g cP.kp cP.b .nil pass0 (pa_cons (pv 0) pa_nil)) (pa_cons pe_str pa_nil)))
          (pa_cons (pe_tup (pa_cons pe_str (pa_cons (pe_call cW.F hr (by rfl) cW.g cW.kp cW.b .nil pass0 (pa_cons (pv 0) pa_nil)) pa_nil)))
          (pa_cons (pe_tup (pa_cons pe_str (pa_cons pe_str (pa_cons pe_str pa_nil)))) (pa_cons pe_int (pa_cons pe_str pa_nil))))))))))
      (pss_cons (ps_set (i := 6) scOddT.nd rfl (Or.inl rfl) (pe_ix ix_list (pv 5) (pe_call cT.F hr1 (by rfl) cT.g cT.kp cT.b .nil pass0 (pa_cons (pv 0) (pa_cons (pe_callB call_len_seq (by rfl) T.len PySem.boot_len (pa_cons (pv 5) pa_nil)) pa_nil))) (fun _ _ => rfl)))
      (pss_cut (ps_if (pw_and (pt_cmpR op_lt (pv 2) pe_int (nomark _)) (pw_and1 (pt_cmpR op_gt (pv 4) pe_int (nomark _)))).pt
        (pss_cons (ps_set (i := 7) scOddT.nd rfl (Or.inl rfl) (pe_ix ix_tup (pv 1) (pe_call cT.F hr1 (by rfl) cT.g cT.kp cT.b .nil pass0 (pa_cons (pv 0) (pa_cons (pv 4) pa_nil))) (fun _ _ => rfl)))
        (pss_cons (ps_set (i := 6) scOddT.nd rfl (Or.inl rfl) (pe_ix ix_list (pe_lst (pa_cons (pv 7) (pa_cons (pe_tup (pa_cons (pe_ix ix_tup (pv 7) pe_int (fun _ _ => rfl)) (pa_cons pe_str pa_nil)))
            (pa_cons (pe_tup (pa_cons (pe_op op_add_str (pe_ix ix_tup (pe_ix ix_tup (pv 1) (pe_op op_sub (pv 4) pe_int) (fun _ _ => rfl)) pe_int (fun _ _ => rfl)) pe_str) (pa_cons pe_str pa_nil))) pa_nil))))
          (pe_call cT.F hr1 (by rfl) cT.g cT.kp cT.b .nil pass0 (pa_cons (pv 0) (pa_cons pe_int pa_nil))) (fun _ _ => rfl)))
        (pss_one (ps_if (pt_cmpR op_eq (pe_callB call_len_seq (by rfl) T.len PySem.boot_len (pa_cons (pe_split (pe_ix ix_tup (pe_ix ix_tup (pv 1) (pe_op op_sub (pv 4) pe_int) (fun _ _ => rfl)) pe_int (fun _ _ => rfl)) pe_str) pa_nil)) pe_int (nomark _))
          (pss_one (ps_set (i := 6) scOddT.nd rfl (Or.inl rfl) (pv 7))) pss_nil)))) pss_nil)
      (pss_one (ps_ret (pe_lst (pa_cons (pe_op op_catA (pe_op op_catA (pe_slice sl_tupA (pv 1) po_none (po_some (pv 4))) (pe_tup (pa_cons (pv 6) pa_nil))) (pe_slice sl_tupA (pv 1) (po_some (pv 4)) po_none)) (pa_cons (pv 4) pa_nil)))))))))), ?_⟩
    have hpr : p ≠ r := by
      obtain ⟨rl, hrl⟩ := row.at
      exact ne_of hp hrl (by intro z; cases z)
    refine draw (m := 6) (ev_var rfl) ev_c row (by decide) (by decide) fun kd G1 hk0 hk6 d1 => ?_
    have hp1 : G1 p = some (.tup xs) := d1.kp _ _ hpr hp
    refine q_when (b := decide (V.int kd = V.int 0)) (et_test (ev_op (ev_var rfl) ev_c (rv_eq rfl))) (fun hb H2 e2 => ?_) (fun hb H2 e2 => ?_)
    · -- a thing that is no tree
      have row2 : Row K H2 r := d1.row.ex e2
      refine ⟨_, rfl, p, xs, rfl, .inr (st_of (e2 _ _ hp1)), fun l hl d hd => ⟨21, rfl, by decide, by decide, fun D hD => ?_⟩⟩
      have e3 : Ex H2 (upd (upd H2 l (.lst xs)) d (.dK [])) := (Ex.new hl).trans (Ex.new hd)
      refine lc_range (lo := 0) (n := (21 : Int).toNat) (fun i G => Ex (upd (upd H2 l (.lst xs)) d (.dK [])) G ∧ ∃ vs, G D = some (.lst vs) ∧ vs.length = i) ⟨Ex.new hD, [], upd_same, rfl⟩ ?_ ?_
      · rintro i G hi ⟨eG, vs, hGD, hvs⟩
        refine ⟨rfl, ?_⟩
        unfold tYes
        dsimp only
        rw [if_pos rfl]
        have e0 : (0 : Int) + (i : Int) = (i : Int) := Int.zero_add _
        have h21 : i < 21 := hi
        obtain ⟨s1, s2⟩ := small_str i h21
        refine ⟨_, rfl, (0 : Int) + (i : Int), rfl, by rw [e0]; exact s1, _, _, rfl, rfl, ?_, by show 2 ≤ sizeLine; decide, fun t ht => ⟨vs, (Ex.new ht) _ _ hGD, sz_lt (by omega), (eG.trans (Ex.new ht)).mut hD, vs ++ [.ref t], upd_same, by simp [hvs]⟩⟩
        rw [e0]
        refine Nat.le_trans (Nat.add_le_add_left s2 1) (by rw [sizeLine_eq]; decide)
      · rintro G ⟨eG, vs, hGD, hvs⟩
        refine ⟨D, vs, rfl, .inl ⟨sq_of hGD, fun l2 hl2 => ⟨by show 7 ≤ sizeLine; decide, fun o ho => ?_⟩⟩⟩
        have e4 : Ex G (upd (upd G l2 (.tup vs)) o (.lst [.non, .ref l, .int 0, .str (Str.ofString "a"), .ref d, .ref l2, .bl true])) := (Ex.new hl2).trans (Ex.new ho)
        have row4 := row2.ex ((e3.trans eG).trans e4)
        have neo : o ≠ r := ((row2.ex (e3.trans eG)).ex (Ex.new hl2)).ne_new ho
        have nel : l ≠ r := row2.ne_new hl
        have ned : d ≠ r := (row2.ex (Ex.new hl)).ne_new hd
        have nel2 : l2 ≠ r := (row2.ex (e3.trans eG)).ne_new hl2
        refine ⟨_, rfl, draw (m := 7) (ev_var rfl) ev_c row4 (by decide) (by decide) fun n G5 hn hm d5 => ?_⟩
        have hin : n.toNat < ([.non, .ref l, .int 0, .str (Str.ofString "a"), .ref d, .ref l2, .bl true] : List V).length := by show n.toNat < 7; omega
        refine ⟨o, _, n, _, rfl, rfl, sq_of (d5.kp _ _ neo upd_same), at_of (j := n.toNat) (by omega) (List.getElem?_eq_getElem hin), by show 2 ≤ sizeLine; decide, fun z hz => ?_⟩
        have dAll : Dr K r H (upd G5 z (.lst [([.non, .ref l, .int 0, .str (Str.ofString "a"), .ref d, .ref l2, .bl true] : List V)[n.toNat], .non])) := ((d1.ex ((e2.trans (e3.trans eG)).trans e4)).trans d5).ex (Ex.new hz)
        have fl : G5 l = some (.lst xs) := d5.kp _ _ nel (e4 _ _ (eG _ _ ((Ex.new hd) _ _ upd_same)))
        have fd5 : G5 d = some (.dK []) := d5.kp _ _ ned (e4 _ _ (eG _ _ upd_same))
        have fl2 : G5 l2 = some (.tup vs) := d5.kp _ _ nel2 ((Ex.new ho) _ _ upd_same)
        have trs : ∀ v ∈ ([.non, .ref l, .int 0, .str (Str.ofString "a"), .ref d, .ref l2, .bl true] : List V), Tr K G5 v (some .non) := by
          intro v hv
          simp only [List.mem_cons, List.not_mem_nil, or_false] at hv
          rcases hv with rfl | rfl | rfl | rfl | rfl | rfl | rfl
          · exact .no kd_non (by decide)
          · exact .no (kd_lst fl) (by decide)
          · exact .no (kd_int 0) (by decide)
          · exact .no (kd_str _) (by decide)
          · exact .no (kd_dK fd5) (by decide)
          · exact .big fl2 (by rw [hvs]; decide)
          · exact .no (kd_bl true) (by decide)
        exact k z _ .non _ dAll upd_same ((trs _ (List.getElem_mem hin)).mono (Ex.new hz)) (.inl rfl)
    · -- a thing put into the tree
      have dH2 : Dr K r H H2 := d1.ex e2
      have hp2 : H2 p = some (.tup xs) := e2 _ _ hp1
      have hlen := paired_len pf
      have h8 := tree_len ok
      refine draw (m := (xs.length : Int) + 1) (ev_var rfl) (ev_op (ev_lenT (ev_var rfl) (st_of hp2)) ev_c rv_I0) dH2.row (by omega) (by omega) fun at0 G3 ha0 ha1 d3 => ?_
      obtain ⟨i, rfl⟩ : ∃ i : Nat, at0 = (i : Int) := ⟨at0.toNat, by omega⟩
      have hi : i ≤ fs.length := by omega
      have hp3 : G3 p = some (.tup xs) := d3.kp _ _ hpr hp2
      refine ⟨by show 1 ≤ sizeLine; decide, fun t1 ht1 => ⟨by show 2 ≤ sizeLine; decide, fun l1 hl1 => ?_⟩⟩
      have e4 : Ex G3 (upd (upd G3 t1 (.tup [.str (Str.ofString "a")])) l1 (.lst [.str (Str.ofString "z"), .str (Str.ofString "")])) := (Ex.new ht1).trans (Ex.new hl1)
      have row4 := d3.row.ex e4
      have it1 : OddIt (upd (upd G3 t1 (.tup [.str (Str.ofString "a")])) l1 (.lst [.str (Str.ofString "z"), .str (Str.ofString "")])) (.ref t1) := .t1 ((Ex.new hl1) _ _ upd_same)
      have it2 : OddIt (upd (upd G3 t1 (.tup [.str (Str.ofString "a")])) l1 (.lst [.str (Str.ofString "z"), .str (Str.ofString "")])) (.ref l1) := .l2 upd_same
      have d34 : Dr K r H (upd (upd G3 t1 (.tup [.str (Str.ofString "a")])) l1 (.lst [.str (Str.ofString "z"), .str (Str.ofString "")])) := (dH2.trans d3).ex e4
      have hp4 := e4 _ _ hp3
      generalize upd (upd G3 t1 (.tup [.str (Str.ofString "a")])) l1 (.lst [.str (Str.ofString "z"), .str (Str.ofString "")]) = G4 at row4 it1 it2 d34 hp4 ⊢
      refine ⟨_, rfl, r, rfl, row4, fun u Gu du su bu => ⟨by show 2 ≤ sizeLine; decide, fun t2 ht2 => ?_⟩⟩
      have it1 := (it1.dr row4 du).ex (Ex.new (o := .tup [u, .str (Str.ofString "")]) ht2)
      have it2 := (it2.dr row4 du).ex (Ex.new (o := .tup [u, .str (Str.ofString "")]) ht2)
      have it3 : OddIt (upd Gu t2 (.tup [u, .str (Str.ofString "")])) (.ref t2) := .pt upd_same (su.mono (Ex.new ht2)) bu
      have row5 := du.row.ex (Ex.new (o := .tup [u, .str (Str.ofString "")]) ht2)
      have d5 := (d34.trans du).ex (Ex.new (o := .tup [u, .str (Str.ofString "")]) ht2)
      have hp5 := (Ex.new (o := .tup [u, .str (Str.ofString "")]) ht2) _ _ (du.kp _ _ hpr hp4)
      generalize upd Gu t2 (.tup [u, .str (Str.ofString "")]) = G5 at row5 it1 it2 it3 d5 hp5 ⊢
      refine ⟨_, rfl, r, rfl, row5, fun wv Gw dw sw bw => ⟨by show 2 ≤ sizeLine; decide, fun t3 ht3 => ?_⟩⟩
      have it1 := (it1.dr row5 dw).ex (Ex.new (o := .tup [.str (Str.ofString "z"), wv]) ht3)
      have it2 := (it2.dr row5 dw).ex (Ex.new (o := .tup [.str (Str.ofString "z"), wv]) ht3)
      have it3 := (it3.dr row5 dw).ex (Ex.new (o := .tup [.str (Str.ofString "z"), wv]) ht3)
      have it4 : OddIt (upd Gw t3 (.tup [.str (Str.ofString "z"), wv])) (.ref t3) := .wt upd_same (sw.mono (Ex.new ht3)) bw
      have row6 := dw.row.ex (Ex.new (o := .tup [.str (Str.ofString "z"), wv]) ht3)
      have d6 := (d5.trans dw).ex (Ex.new (o := .tup [.str (Str.ofString "z"), wv]) ht3)
      have hp6 := (Ex.new (o := .tup [.str (Str.ofString "z"), wv]) ht3) _ _ (dw.kp _ _ hpr hp5)
      generalize upd Gw t3 (.tup [.str (Str.ofString "z"), wv]) = G6 at row6 it1 it2 it3 it4 d6 hp6 ⊢
      refine ⟨by show 3 ≤ sizeLine; decide, fun t4 ht4 => ⟨by show 8 ≤ sizeLine; decide, fun o ho => ?_⟩⟩
      have e7 : Ex G6 (upd (upd G6 t4 (.tup [.str (Str.ofString "z"), .str (Str.ofString ""), .str (Str.ofString "")])) o (.lst [.non, .ref t1, .ref l1, .ref t2, .ref t3, .ref t4, .int 0, .str (Str.ofString "z")])) := (Ex.new ht4).trans (Ex.new ho)
      have neo : o ≠ r := (row6.ex (Ex.new ht4)).ne_new ho
      have it1 := it1.ex e7
      have it2 := it2.ex e7
      have it3 := it3.ex e7
      have it4 := it4.ex e7
      have it5 : OddIt (upd (upd G6 t4 (.tup [.str (Str.ofString "z"), .str (Str.ofString ""), .str (Str.ofString "")])) o (.lst [.non, .ref t1, .ref l1, .ref t2, .ref t3, .ref t4, .int 0, .str (Str.ofString "z")])) (.ref t4) := .t3 ((Ex.new ho) _ _ upd_same)
      have row7 := row6.ex e7
      have d7 := d6.ex e7
      have hp7 := e7 _ _ hp6
      have ho7 : (upd (upd G6 t4 (.tup [.str (Str.ofString "z"), .str (Str.ofString ""), .str (Str.ofString "")])) o (.lst [.non, .ref t1, .ref l1, .ref t2, .ref t3, .ref t4, .int 0, .str (Str.ofString "z")])) o = some (.lst [.non, .ref t1, .ref l1, .ref t2, .ref t3, .ref t4, .int 0, .str (Str.ofString "z")]) := upd_same
      generalize upd (upd G6 t4 (.tup [.str (Str.ofString "z"), .str (Str.ofString ""), .str (Str.ofString "")])) o (.lst [.non, .ref t1, .ref l1, .ref t2, .ref t3, .ref t4, .int 0, .str (Str.ofString "z")]) = G7 at row7 it1 it2 it3 it4 it5 d7 hp7 ho7 ⊢
      have odds : ∀ v ∈ ([.non, .ref t1, .ref l1, .ref t2, .ref t3, .ref t4, .int 0, .str (Str.ofString "z")] : List V), OddIt G7 v := by
        intro v hv
        simp only [List.mem_cons, List.not_mem_nil, or_false] at hv
        rcases hv with rfl | rfl | rfl | rfl | rfl | rfl | rfl | rfl
        · exact .non
        · exact it1
        · exact it2
        · exact it3
        · exact it4
        · exact it5
        · exact .i0
        · exact .sz
      -- bad = odd[..]
      refine ⟨_, rfl, draw (m := 8) (ev_var rfl) (ev_is (ev_len (ev_var rfl) (sq_of ho7)) rfl) row7 (by decide) (by decide) fun n G8 hn hm d8 => ?_⟩
      have hin : n.toNat < ([.non, .ref t1, .ref l1, .ref t2, .ref t3, .ref t4, .int 0, .str (Str.ofString "z")] : List V).length := by show n.toNat < 8; omega
      refine ⟨o, _, n, _, rfl, rfl, sq_of (d8.kp _ _ neo ho7), at_of (j := n.toNat) (by omega) (List.getElem?_eq_getElem hin), ?_⟩
      have ob := (odds _ (List.getElem_mem hin)).dr row7 d8
      generalize ([.non, .ref t1, .ref l1, .ref t2, .ref t3, .ref t4, .int 0, .str (Str.ofString "z")] : List V)[n.toNat] = b0 at ob ⊢
      have d08 : Dr K r H G8 := d7.trans d8
      have hp8 : G8 p = some (.tup xs) := d08.kp _ _ hpr hp
      have files : ∀ {G}, Dr K r H G → Paired (FileAt G) xs fs := fun d => by
        obtain ⟨rl, hrl⟩ := row.at
        exact paired_mono pf fun _ _ z => FileAt.kp z hrl d.kp
      refine q_cut (M := fun σ' G => ∃ (b : V) (oo : Option Fl) (u2 u3 u5 u7 u8 : Option V), σ' = [some (.ref r), some (.ref p), u2, u3, some (.int (i : Int)), u5, some b, u7, u8] ∧ Dr K r H G ∧ Itm K G b oo ∧ (∀ f, oo = some f → follow f.1 (fs.take i) = false)) ?_ ?_
      · refine s_when (b := decide (kd < 3) && decide ((0 : Int) < (i : Int))) (et_and (et_test (ev_op (ev_var rfl) ev_c rv_I0)) fun _ => et_test (ev_op (ev_var rfl) ev_c rv_I0)) (fun hb9 F1 e9 => ?_) (fun _ F1 e9 => ⟨b0, none, _, _, _, _, _, rfl, d08.ex e9, (ob.ex e9).fil, by intro f z; cases z⟩)
        have hipos : 0 < i := by
          simp only [Bool.and_eq_true, decide_eq_true_eq] at hb9
          omega
        have d9 : Dr K r H F1 := d08.ex e9
        refine ⟨_, rfl, draw (m := (i : Int)) (ev_var rfl) (ev_var rfl) d9.row (by omega) (by omega) fun j F2 hj0 hj1 d10 => ?_⟩
        have d2 : Dr K r H F2 := d9.trans d10
        have hp10 := d2.kp _ _ hpr hp
        have jlt : j.toNat < xs.length := by omega
        obtain ⟨f, hf, bj, ebj, hbj⟩ := Bp.paired_get (files d2) (List.getElem?_eq_getElem jlt)
        have llt : i - 1 < xs.length := by omega
        obtain ⟨g, hg, bg, ebg, hbg⟩ := Bp.paired_get (files d2) (List.getElem?_eq_getElem llt)
        refine ⟨p, xs, j, _, rfl, rfl, st_of hp10, at_of (j := j.toNat) (by omega) (List.getElem?_eq_getElem jlt), ?_⟩
        rw [ebj]
        have hatg : atI xs ((i : Int) - 1) = some (.ref bg) := at_of (j := i - 1) (by omega) (by rw [List.getElem?_eq_getElem llt, ebg])
        have gok := tree_okF ok (List.mem_of_getElem? hg)
        have fok := tree_okF ok (List.mem_of_getElem? hf)
        have gp := (tree_mem ok (List.mem_of_getElem? hg)).1
        have ga := allP_ok _ gp
        refine ⟨_, rfl, _, rfl, bj, _, 0, _, rfl, rfl, st_of hbj, rfl, by show 2 ≤ sizeLine; decide, fun q1 hq1 => ?_⟩
        have e11 : Ex F2 (upd F2 q1 (.tup [.str f.1, .str (Str.ofString "other")])) := Ex.new hq1
        have h11 : (upd F2 q1 (.tup [.str f.1, .str (Str.ofString "other")])) q1 = some (.tup [.str f.1, .str (Str.ofString "other")]) := upd_same
        show tCons (tTup _) _ _ (upd F2 q1 (.tup [.str f.1, .str (Str.ofString "other")])) _
        have d3 := d2.ex e11
        generalize upd F2 q1 (.tup [.str f.1, .str (Str.ofString "other")]) = F3 at e11 h11 d3 ⊢
        refine ⟨_, rfl, _, rfl, _, _, rfl, rfl, p, xs, _, _, rfl, rfl, st_of (e11 _ _ hp10), hatg, bg, _, 0, _, rfl, rfl, st_of (e11 _ _ hbg), rfl, _, _, rfl, rfl, Nat.le_trans (Nat.add_le_add_right gok.1.1 2) (by rw [sizeLine_eq]; decide), by show 2 ≤ sizeLine; decide, fun q2 hq2 => ⟨by show 3 ≤ sizeLine; decide, fun o3 ho3 => ?_⟩⟩
        have e12 : Ex F3 (upd (upd F3 q2 (.tup [.str (g.1 ++ Str.ofString "/z"), .str (Str.ofString "")])) o3 (.lst [.ref bj, .ref q1, .ref q2])) := (Ex.new hq2).trans (Ex.new ho3)
        have h12 : (upd (upd F3 q2 (.tup [.str (g.1 ++ Str.ofString "/z"), .str (Str.ofString "")])) o3 (.lst [.ref bj, .ref q1, .ref q2])) q2 = some (.tup [.str (g.1 ++ Str.ofString "/z"), .str (Str.ofString "")]) := (Ex.new ho3) _ _ upd_same
        have o12 : (upd (upd F3 q2 (.tup [.str (g.1 ++ Str.ofString "/z"), .str (Str.ofString "")])) o3 (.lst [.ref bj, .ref q1, .ref q2])) o3 = some (.lst [.ref bj, .ref q1, .ref q2]) := upd_same
        have neo3 : o3 ≠ r := (d3.row.ex (Ex.new hq2)).ne_new ho3
        have d4 := d3.ex e12
        generalize upd (upd F3 q2 (.tup [.str (g.1 ++ Str.ofString "/z"), .str (Str.ofString "")])) o3 (.lst [.ref bj, .ref q1, .ref q2]) = F4 at e12 h12 o12 d4 ⊢
        refine draw (m := 3) (ev_var rfl) ev_c d4.row (by decide) (by decide) fun n3 F5 hn30 hn33 d5' => ?_
        have d5 := d4.trans d5'
        obtain ⟨rl4, hrl4⟩ := d4.row.at
        have tup5 : ∀ {b : Addr} {l : List V}, F4 b = some (.tup l) → F5 b = some (.tup l) := fun hb => d5'.kp _ _ (ne_of hb hrl4 (by intro z; cases z)) hb
        have hn3 : n3.toNat < ([.ref bj, .ref q1, .ref q2] : List V).length := by show n3.toNat < 3; omega
        refine ⟨o3, _, n3, _, rfl, rfl, sq_of (d5'.kp _ _ neo3 o12), at_of (j := n3.toNat) (by omega) (List.getElem?_eq_getElem hn3), ?_⟩
        have fdup : follow f.1 (fs.take i) = false := follow_dup ok hi (by omega : j.toNat < i) hf
        have e24 : Ex F2 F4 := e11.trans e12
        have hbj5 := tup5 (e24 _ _ hbj)
        have hbg5 := tup5 (e24 _ _ hbg)
        have hp5' := tup5 (e24 _ _ hp10)
        refine s_when (b := decide (V.int ((Txt.split g.1 (Str.ofString "/")).length : Int) = V.int 3)) (et_test (ev_op (ev_is (ev_lenN (el_split (ev_op (ev_op (ev_var rfl) (ev_op (ev_var rfl) ev_c rv_I0) (rv_ixT (st_of hp5') hatg)) ev_c (rv_ixT (st_of hbg5) rfl)) ev_c (by decide) (Nat.le_trans gok.1.1 (by decide)))) (by rw [List.length_map])) ev_c (rv_eq rfl))) (fun hb6 F6 e6 => ?_) (fun hb6 F6 e6 => ?_)
        · exact ⟨_, rfl, .ref bj, some f, _, _, _, _, _, rfl, d5.ex e6, ⟨⟨bj, rfl, e6 _ _ hbj5⟩, fok⟩, by intro f' z; cases z; exact fdup⟩
        · have h3 : (Txt.split g.1 (Str.ofString "/")).length ≠ 3 := by
            intro z
            rw [z] at hb6
            simp at hb6
          have gg := ga.2.2.2.resolve_left h3
          obtain ⟨b1, oo, eb1, it1, fo1⟩ : ∃ b1 oo, ([.ref bj, .ref q1, .ref q2] : List V)[n3.toNat] = b1 ∧ Itm K F6 b1 oo ∧ (∀ f', oo = some f' → follow f'.1 (fs.take i) = false) := by
            have : n3.toNat = 0 ∨ n3.toNat = 1 ∨ n3.toNat = 2 := by omega
            rcases this with z | z | z
            · refine ⟨.ref bj, some f, by simp only [z]; rfl, ⟨⟨bj, rfl, e6 _ _ hbj5⟩, fok⟩, by intro f' z; cases z; exact fdup⟩
            · refine ⟨.ref q1, some (f.1, Str.ofString "other"), by simp only [z]; rfl, ⟨⟨q1, rfl, e6 _ _ (tup5 (e12 _ _ h11))⟩, ⟨fok.1.1, by show (Str.ofString "other").length ≤ 1000; decide, fok.1.2.2.1, by show PyData.strOk (Str.ofString "other") = true; decide +kernel⟩, ?_⟩, by intro f' z; cases z; exact fdup⟩
              have h1 : pathB f.1 = true := (Bool.and_eq_true_iff.mp fok.2).1
              show (pathB f.1 && textB (Str.ofString "other")) = true
              rw [h1]
              decide +kernel
            · refine ⟨.ref q2, some (g.1 ++ Str.ofString "/z", Str.ofString ""), by simp only [z]; rfl, ⟨⟨q2, rfl, e6 _ _ (tup5 h12)⟩, ⟨gg.2.2.2.2, by show (Str.ofString "").length ≤ 1000; decide, gg.2.2.2.1, by show PyData.strOk (Str.ofString "") = true; decide +kernel⟩, ?_⟩, fun f' z => ?_⟩
              · show (pathB (g.1 ++ Str.ofString "/z") && textB (Str.ofString "")) = true
                rw [gg.2.1]
                decide +kernel
              · cases z
                have q := follow_in (i := i - 1) hg gg.2.2.1
                have e1 : i - 1 + 1 = i := by omega
                rw [e1] at q
                exact q
          exact ⟨b1, oo, _, _, _, _, _, by rw [← eb1]; rfl, d5.ex e6, it1, fo1⟩
      · rintro σ' G ⟨b, oo, u2, u3, u5, u7, u8, rfl, d, it, hf⟩
        have hpG := d.kp _ _ hpr hp
        have val := ex_cat (K := K) (σ := [some (.ref r), some (.ref p), u2, u3, some (.int (i : Int)), u5, some b, u7, u8]) (H := G) (ex_cat (K := K) (ex_to (K := K) (ev_var (i := 1) rfl) (ev_var (i := 4) rfl) hpG (by omega)) (ex_tup (ea_cons (ev_var (i := 6) (v := b) rfl) ea_nil) (by show 1 ≤ 100000; decide)) (by rw [List.length_take]; show _ + 1 ≤ _; omega))
          (ex_from (K := K) (ev_var (i := 1) rfl) (ev_var (i := 4) rfl) hpG (by omega)) (by simp only [List.length_append, List.length_take, List.length_drop, List.length_cons, List.length_nil]; omega)
        refine val G (Ex.refl _) _ fun q G2 eq hq => ⟨_, rfl, by show 2 ≤ sizeLine; decide, fun l hl => ?_⟩
        have eAll : Ex G (upd G2 l (.lst [.ref q, .int (i : Int)])) := eq.trans (Ex.new hl)
        exact k l _ _ _ (d.ex eAll) upd_same (tr_spoilt ((Ex.new hl) _ _ hq) (files (d.ex eAll)) ok hi (it.mono eAll) hf) (.inr ⟨i, rfl⟩)
end
end Bl
namespace Bl
open PySem PySem.Spec PyProof.Rows L2 Bk Bm Evl Be Bp TL
abbrev sRef : Stmt := top 42
abbrev nRef : List Str := ["_law_kind", "_law_tree_here", "_law_one_here", "_law_other", "_law_found", "e"]
/-- the error classes -/
structure Exs (K : PySem.W.Frag) (mg : Str → Option Value) (Ct fI Cp Cf Cw : Addr) : Prop where
  tree : Xi K mg "BadTree" Ct fI
  path : Xc K mg "BadPath" Cp
  folder : Xc K mg "BadFolder" Cf
  words : Xc K mg "BadWords" Cw
  tt : PySem.W.exmOne K (.ref Ct) (.ref Ct) = some true
  pt : PySem.W.exmOne K (.ref Cp) (.ref Ct) = some false
  ft : PySem.W.exmOne K (.ref Cf) (.ref Ct) = some false
  wt : PySem.W.exmOne K (.ref Cw) (.ref Ct) = some false
  pp : PySem.W.exmOne K (.ref Cp) (.ref Cp) = some true
  fp : PySem.W.exmOne K (.ref Cf) (.ref Cp) = some false
  wp : PySem.W.exmOne K (.ref Cw) (.ref Cp) = some false
  ff : PySem.W.exmOne K (.ref Cf) (.ref Cf) = some true
  wf : PySem.W.exmOne K (.ref Cw) (.ref Cf) = some false
  ww : PySem.W.exmOne K (.ref Cw) (.ref Cw) = some true
section
variable {P : Program} {w : World} {K : PySem.W.Frag} {mg : Str → Option Value} {base : Heap}
theorem scRef : FnScope nRef ["_law_kind", "_law_tree_here", "_law_one_here", "_law_other"] (defScope sRef) := ⟨rfl, rfl, rfl, by decide +kernel, rfl, by decide +kernel, by decide +kernel⟩
def OutT (u : V) (H : Hp) (Q : VK) : Prop := ∀ l G, Ex H G → G l = some (.lst [.str (Str.ofString "tree"), u]) → Q (.ref l) G
def spRef : Sp := fun vs H Q _ => ∃ k t x y o, vs = [.int k, t, x, y] ∧ Tr K H t o ∧
  ((∃ u, o = some u ∧ 0 ≤ k ∧ k ≤ 4 ∧ OutT u H Q)
   ∨ (o = none ∧ k = 3 ∧ ∃ u, Tr K H x (some u) ∧ OutT u H Q)
   ∨ (o = none ∧ (k = 0 ∨ k = 2 ∨ k = 4) ∧ Sm H x ∧ isPathV x = false ∧ RetV (.str (Str.ofString "path")) H Q)
   ∨ (o = none ∧ k = 1 ∧ Sm H x ∧ isFolderV x = false ∧ RetV (.str (Str.ofString "folder")) H Q)
   ∨ (o = none ∧ k = 4 ∧ Sm H x ∧ isPathV x = true ∧ Sm H y ∧ isTextV y = false ∧ RetV (.str (Str.ofString "words")) H Q))
variable {Ct fI Cp Cf Cw : Addr}
/-- the suites -/
def tSui (Ct : Addr) : Addr → Value → Option Addr → TS := fun a cls d => tAsg (tLst (tCons (tC (.str (Str.ofString "tree"))) (tCons (tXf a cls d Ct "index" (tVar 5)) tNil))) (gName 4)
def tSay (x : String) : Addr → Value → Option Addr → TS := fun _ _ _ => tAsg (tC (.str (Str.ofString x))) (gName 4)
def cls4 (Ct Cp Cf Cw : Addr) : List Cl := [(.ref Ct, some 5, tSui Ct), (.ref Cp, none, tSay "path"), (.ref Cf, none, tSay "folder"), (.ref Cw, none, tSay "words")]
theorem ok_ref {f : Addr} {fd : FuncData} (F : Fun K "_law_refused" "_law_refused" sRef f fd) (X : Exs K mg Ct fI Cp Cf Cw)
    (cT : Cal P w K mg base (L2.CX P w) 5 "text_at" ["tree", "path"] (spR2 (K := K) Ct Cp isPathV)) (cN : Cal P w K mg base (L2.CX P w) 5 "names_in" ["tree", "folder"] (spR2 (K := K) Ct Cf isFolderV))
    (cK : Cal P w K mg base (L2.CX P w) 5 "taken" ["tree", "path"] (spR2 (K := K) Ct Cp isPathV)) (cD : Cal P w K mg base (L2.CX P w) 5 "differing" ["one", "other"] (spRD (K := K) Ct))
    (cP : Cal P w K mg base (L2.CX P w) 5 "put" ["tree", "path", "text"] (spR3 (K := K) Ct Cp Cw)) : FnOk P w K mg base CX0 6 f fd ["_law_kind", "_law_tree_here", "_law_one_here", "_law_other"] (spRef (K := K)) := by
  refine F.ok scRef (fun vs H Q E h => ?_) (fun cdv A outer s H vs Q E hr h => ?_)
  · obtain ⟨k, t, x, y, o, rfl, _⟩ := h
    rfl
  · obtain ⟨k, t, x, y, o, rfl, tr, h⟩ := h
    refine ⟨_, pss_cons (ps_set (i := 4) scRef.nd rfl (Or.inl rfl) pe_non)
      (pss_cons (ps_try_mix (l := cls4 Ct Cp Cf Cw) (Wo := fun _ _ _ _ => False)
          (tb := fun W => tIfS (tTest (tOp (rI0 fun i j => .bl (decide (i < j))) (tVar 0) (tC (.int 4))))
            (tDrop (tCallE (fun f sp => (f = cT.f ∧ sp = spR2 (K := K) Ct Cp isPathV) ∨ (f = cN.f ∧ sp = spR2 (K := K) Ct Cf isFolderV) ∨ (f = cK.f ∧ sp = spR2 (K := K) Ct Cp isPathV) ∨ (f = cD.f ∧ sp = spRD (K := K) Ct)) (WE W)
              (tOp (rIxL K) (tLst (tCs [.ref cT.f, .ref cN.f, .ref cK.f, .ref cD.f])) (tVar 0)) (tCons (tVar 1) (tCons (tVar 2) tNil))))
            (tDrop (tCallS (spR3 (K := K) Ct Cp Cw) (WE W) (tCons (tVar 1) (tCons (tVar 2) (tCons (tVar 3) tNil)))))) rfl rfl scRef.nd takes0
        (fun W pn xe tk _ => pss_one (ps_if (pt_cmpR op_lt (pv 0) pe_int (nomark _))
          (pss_one (ps_expr (pe_callE (pe_ix ix_list (pe_lst (pa_cons (pe_glob (by rfl) cT.g rfl) (pa_cons (pe_glob (by rfl) cN.g rfl) (pa_cons (pe_glob (by rfl) cK.g rfl) (pa_cons (pe_glob (by rfl) cD.g rfl) pa_nil))))) (pv 0) (fun _ _ => rfl))
            (fun f sp q => by
              rcases q with ⟨rfl, rfl⟩ | ⟨rfl, rfl⟩ | ⟨rfl, rfl⟩ | ⟨rfl, rfl⟩
              · exact ⟨_, _, cT.F, cT.kp, cT.b⟩
              · exact ⟨_, _, cN.F, cN.kp, cN.b⟩
              · exact ⟨_, _, cK.F, cK.kp, cK.b⟩
              · exact ⟨_, _, cD.F, cD.kp, cD.b⟩) hr (fun σ => passAt tk σ) (by exact (pa_cons (pv 1) (pa_cons (pv 2) pa_nil))))))
          (pss_one (ps_expr (pe_callS cP.F hr (by rfl) cP.g cP.kp cP.b (fun σ => passAt tk σ) (by exact (pa_cons (pv 1) (pa_cons (pv 2) (pa_cons (pv 3) pa_nil)))))))))
        (.named ⟨rfl, by decide, .inl X.tree.g⟩ rfl rfl (fun a oe cls d pn hz hf => pss_one (ps_set (i := 4) scRef.nd rfl (Or.inl rfl) (by exact (pe_lst (pa_cons pe_str (pa_cons (pe_xf X.tree.f X.tree.n hz hf (pv 5)) pa_nil))))))
        (.bare ⟨rfl, by decide, .inl X.path.g⟩ (fun a oe cls d pn hz hf => pss_one (ps_set (i := 4) scRef.nd rfl (Or.inl rfl) pe_str))
        (.bare ⟨rfl, by decide, .inl X.folder.g⟩ (fun a oe cls d pn hz hf => pss_one (ps_set (i := 4) scRef.nd rfl (Or.inl rfl) pe_str))
        (.bare ⟨rfl, by decide, .inl X.words.g⟩ (fun a oe cls d pn hz hf => pss_one (ps_set (i := 4) scRef.nd rfl (Or.inl rfl) pe_str)) .nil)))))
      (pss_one (ps_ret (pv 4)))), ?_⟩
    refine q_asg ev_c fun H1 e1 => ?_
    show tIfS _ _ _ { nx := tRet (tVar 4) { nx := fun _ H' => Q .non H', rt := Q }, rt := Q } ([some (.int k), some t, some x, some y, some .non, none] : L2.St) H1
    generalize hD : ({ nx := tRet (tVar 4) { nx := fun _ H' => Q .non H', rt := Q }, rt := Q } : Ends) = De
    have raiseT : ∀ u G, Ex H G → OutT u H Q → RaiseI Ct u G (WE (wMix K (fun _ _ _ _ => False) De (cls4 Ct Cp Cf Cw)) ([some (.int k), some t, some x, some y, some .non, none] : L2.St)) := by
      intro u G eG out d G' e' hd hn
      refine ⟨true, X.tt, fun _ a ha => ?_, fun z => by cases z⟩
      subst hD
      refine ⟨_, rfl, rfl, rfl, d, [(("index" : Str), u)], u, rfl, hd, by simp [List.lookup], by show 2 ≤ sizeLine; decide, fun l hl => ?_⟩
      exact ⟨_, rfl, out l _ ((eG.trans e').trans (Ex.new hl)) upd_same⟩
    have sayP : ∀ G, Ex H G → RetV (.str (Str.ofString "path")) H Q → ∀ G', Ex G G' → WE (wMix K (fun _ _ _ _ => False) De (cls4 Ct Cp Cf Cw)) ([some (.int k), some t, some x, some y, some .non, none] : L2.St) (.ref Cp) none G' := by
      intro G eG out G' e'
      refine ⟨false, X.pt, fun z => (by cases z), fun _ => ⟨true, X.pp, fun _ a ha => ?_, fun z => by cases z⟩⟩
      subst hD
      exact ⟨_, rfl, out _ (eG.trans e')⟩
    have sayF : ∀ G, Ex H G → RetV (.str (Str.ofString "folder")) H Q → ∀ G', Ex G G' → WE (wMix K (fun _ _ _ _ => False) De (cls4 Ct Cp Cf Cw)) ([some (.int k), some t, some x, some y, some .non, none] : L2.St) (.ref Cf) none G' := by
      intro G eG out G' e'
      refine ⟨false, X.ft, fun z => (by cases z), fun _ => ⟨false, X.fp, fun z => (by cases z), fun _ => ⟨true, X.ff, fun _ a ha => ?_, fun z => by cases z⟩⟩⟩
      subst hD
      exact ⟨_, rfl, out _ (eG.trans e')⟩
    have sayW : ∀ G, Ex H G → RetV (.str (Str.ofString "words")) H Q → ∀ G', Ex G G' → WE (wMix K (fun _ _ _ _ => False) De (cls4 Ct Cp Cf Cw)) ([some (.int k), some t, some x, some y, some .non, none] : L2.St) (.ref Cw) none G' := by
      intro G eG out G' e'
      refine ⟨false, X.wt, fun z => (by cases z), fun _ => ⟨false, X.wp, fun z => (by cases z), fun _ => ⟨false, X.wf, fun z => (by cases z), fun _ => ⟨true, X.ww, fun _ a ha => ?_, fun z => by cases z⟩⟩⟩⟩
      subst hD
      exact ⟨_, rfl, out _ (eG.trans e')⟩
    have two : ∀ {C2 : Addr} {okp : V → Bool} {G : Hp}, Ex H G → ((∃ u, o = some u ∧ OutT u H Q) ∨ (o = none ∧ Sm H x ∧ okp x = false ∧ ∀ G', Ex G G' → WE (wMix K (fun _ _ _ _ => False) De (cls4 Ct Cp Cf Cw)) ([some (.int k), some t, some x, some y, some .non, none] : L2.St) (.ref C2) none G')) →
        spR2 (K := K) Ct C2 okp [t, x] G (fun _ G' => De.nx ([some (.int k), some t, some x, some y, some .non, none] : L2.St) G') (WE (wMix K (fun _ _ _ _ => False) De (cls4 Ct Cp Cf Cw)) ([some (.int k), some t, some x, some y, some .non, none] : L2.St)) := by
      intro C2 okp G eG q
      refine ⟨t, o, x, rfl, tr.mono eG, ?_⟩
      rcases q with ⟨u, rfl, out⟩ | ⟨hn, sm, bad, say⟩
      · exact .inl ⟨u, rfl, raiseT u G eG out⟩
      · exact .inr ⟨hn, sm.mono eG, bad, say⟩
    refine s_if (b := decide (k < 4)) (et_test (ev_op (ev_var rfl) ev_c rv_I0)) (fun hb H2 e2 => ?_) (fun hb H2 e2 => ?_)
    · have hk4 : k < 4 := by simpa using hb
      have hk0 : 0 ≤ k := by
        rcases h with ⟨_, _, z, _⟩ | ⟨_, z, _⟩ | ⟨_, z, _⟩ | ⟨_, z, _⟩ | ⟨_, z, _⟩ <;> omega
      refine ⟨by show 4 ≤ sizeLine; decide, fun l hl => ?_⟩
      have eG : Ex H (upd H2 l (.lst [.ref cT.f, .ref cN.f, .ref cK.f, .ref cD.f])) := (e1.trans e2).trans (Ex.new hl)
      have : k = 0 ∨ k = 1 ∨ k = 2 ∨ k = 3 := by omega
      rcases this with rfl | rfl | rfl | rfl
      · refine ⟨_, rfl, l, _, 0, .ref cT.f, rfl, rfl, sq_of upd_same, rfl, cT.f, _, rfl, .inl ⟨rfl, rfl⟩, _, rfl, _, rfl, two eG ?_⟩
        rcases h with ⟨u, hu, _, _, out⟩ | ⟨_, z, _⟩ | ⟨hn, _, sm, bad, out⟩ | ⟨_, z, _⟩ | ⟨_, z, _⟩
        · exact .inl ⟨u, hu, out⟩
        · omega
        · exact .inr ⟨hn, sm, bad, sayP _ eG out⟩
        · omega
        · omega
      · refine ⟨_, rfl, l, _, 1, .ref cN.f, rfl, rfl, sq_of upd_same, rfl, cN.f, _, rfl, .inr (.inl ⟨rfl, rfl⟩), _, rfl, _, rfl, two eG ?_⟩
        rcases h with ⟨u, hu, _, _, out⟩ | ⟨_, z, _⟩ | ⟨hn, z, _⟩ | ⟨hn, _, sm, bad, out⟩ | ⟨_, z, _⟩
        · exact .inl ⟨u, hu, out⟩
        · omega
        · omega
        · exact .inr ⟨hn, sm, bad, sayF _ eG out⟩
        · omega
      · refine ⟨_, rfl, l, _, 2, .ref cK.f, rfl, rfl, sq_of upd_same, rfl, cK.f, _, rfl, .inr (.inr (.inl ⟨rfl, rfl⟩)), _, rfl, _, rfl, two eG ?_⟩
        rcases h with ⟨u, hu, _, _, out⟩ | ⟨_, z, _⟩ | ⟨hn, _, sm, bad, out⟩ | ⟨_, z, _⟩ | ⟨_, z, _⟩
        · exact .inl ⟨u, hu, out⟩
        · omega
        · exact .inr ⟨hn, sm, bad, sayP _ eG out⟩
        · omega
        · omega
      · refine ⟨_, rfl, l, _, 3, .ref cD.f, rfl, rfl, sq_of upd_same, rfl, cD.f, _, rfl, .inr (.inr (.inr ⟨rfl, rfl⟩)), _, rfl, _, rfl, t, o, x, rfl, tr.mono eG, ?_⟩
        rcases h with ⟨u, hu, _, _, out⟩ | ⟨hn, _, u, tr2, out⟩ | ⟨hn, z, _⟩ | ⟨hn, z, _⟩ | ⟨_, z, _⟩
        · exact .inl ⟨u, hu, raiseT u _ eG out⟩
        · exact .inr ⟨hn, u, tr2.mono eG, raiseT u _ eG out⟩
        · omega
        · omega
        · omega
    · have hk4 : ¬ k < 4 := by simpa using hb
      have eG := e1.trans e2
      refine ⟨_, rfl, _, rfl, _, rfl, t, o, x, y, rfl, tr.mono eG, ?_⟩
      rcases h with ⟨u, hu, _, _, out⟩ | ⟨_, z, _⟩ | ⟨hn, _, sm, bad, out⟩ | ⟨_, z, _⟩ | ⟨hn, _, sm, good, sy, bad, out⟩
      · exact .inl ⟨u, hu, raiseT u _ eG out⟩
      · omega
      · exact .inr ⟨hn, sm.mono eG, .inl ⟨bad, sayP _ eG out⟩⟩
      · omega
      · exact .inr ⟨hn, sm.mono eG, .inr ⟨good, sy.mono eG, bad, sayW _ eG out⟩⟩
end
end Bl
namespace Bl
open PySem PySem.Spec PyProof.Rows L2 Bk Bm Evl Be Bp TL
abbrev sLaw : Stmt := top 43
abbrev nLaw : List Str := ["_law_script", "_law_row", "_law_turn", "_law_tree_here", "_law_bad", "_law_at", "_law_path", "_law_words_here"]
section
variable {K : PySem.W.Frag} {H G : Hp} {r : Addr} {v : V}
theorem Kd.dr {n : String} (h : Kd K H v n) (row : Row K H r) (d : Dr K r H G) : Kd K G v n := by
  obtain ⟨rl, hr⟩ := row.at
  obtain ⟨rl', hr'⟩ := d.row.at
  obtain ⟨t, k⟩ := h
  refine ⟨?_, k⟩
  cases t with
  | base t =>
    refine .base ?_
    cases t with
    | non => exact .non
    | bl b => exact .bl b
    | int i => exact .int i
    | str x => exact .str x
    | flt x => exact .flt x
    | @lst a xs h =>
      by_cases c : a = r
      · subst c; exact .lst hr'
      · exact .lst (d.kp _ _ c h)
    | frz h => exact .frz (d.kp _ _ (ne_of h hr (by intro z; cases z)) h)
    | tup h => exact .tup (d.kp _ _ (ne_of h hr (by intro z; cases z)) h)
    | dK h => exact .dK (d.kp _ _ (ne_of h hr (by intro z; cases z)) h)
    | dT h => exact .dT (d.kp _ _ (ne_of h hr (by intro z; cases z)) h)
  | byt b => exact .byt b
  | set h => exact .set (d.kp _ _ (ne_of h hr (by intro z; cases z)) h)
  | kList h c => exact .kList h c
  | kTuple h c => exact .kTuple h c
  | kDict h c => exact .kDict h c
  | fTuple h => exact .fTuple (d.kp _ _ (ne_of h hr (by intro z; cases z)) h)
  | fDict h => exact .fDict (d.kp _ _ (ne_of h hr (by intro z; cases z)) h)
theorem Fil.dr {b : Bool} (h : Fil K H v b) (row : Row K H r) (d : Dr K r H G) : Fil K G v b := by
  obtain ⟨rl, hr⟩ := row.at
  cases h with
  | no k h => exact .no (Kd.dr k row d) h
  | len h hl hz => exact .len (d.kp _ _ (ne_of h hr (by intro z; cases z)) h) hl hz
  | two h hu hw => exact .two (d.kp _ _ (ne_of h hr (by intro z; cases z)) h) (Sm.dr hu row d) (Sm.dr hw row d)
theorem Itm.dr {o : Option Fl} (h : Itm K H v o) (row : Row K H r) (d : Dr K r H G) : Itm K G v o := by
  obtain ⟨rl, hr⟩ := row.at
  cases o with
  | some f => exact ⟨FileAt.kp h.1 hr d.kp, h.2⟩
  | none => exact Fil.dr h row d
theorem Tr.dr {o : Option V} (h : Tr K H v o) (row : Row K H r) (d : Dr K r H G) : Tr K G v o := by
  obtain ⟨rl, hr⟩ := row.at
  cases h with
  | no k h => exact .no (Kd.dr k row d) h
  | big h hl => exact .big (d.kp _ _ (ne_of h hr (by intro z; cases z)) h) hl
  | tup h hl hp => exact .tup (d.kp _ _ (ne_of h hr (by intro z; cases z)) h) hl (paired_mono hp fun _ _ z => Itm.dr z row d)
theorem Sc.ex {a : Addr} {ns : List Int} (h : Sc K H a ns) (e : Ex H G) : Sc K G a ns := by
  rcases h with ⟨o, h⟩ | h
  · exact .inl ⟨o, e _ _ h⟩
  · exact .inr h
/-- what is told of a refused tree, as data -/
theorem told {u : V} (h : u = .non ∨ ∃ i : Nat, u = .int (i : Int)) : ∃ dU, (∀ G, Dp K G u dU) ∧ SeqAt.shaped (.list [.str (Str.ofString "tree"), dU]) = true ∧ PyData.eqv (.list [.str (Str.ofString "tree"), dU]) (.list [.str (Str.ofString "tree"), dU]) = true := by
  rcases h with rfl | ⟨i, rfl⟩
  · exact ⟨.none, fun _ => .non, by decide +kernel, by decide +kernel⟩
  · refine ⟨.int i, fun _ => .int _, ?_, ?_⟩
    · show (PyData.canLayAll0 [.str (Str.ofString "tree"), .int i] && decide (PyData.depth (.list [.str (Str.ofString "tree"), .int i]) ≤ 64)) = true
      have h1 : PyData.canLayAll0 [.str (Str.ofString "tree"), .int i] = true := by
        show (PyData.strOk (Str.ofString "tree") && (true && true)) = true
        decide +kernel
      have h2 : PyData.depth (.list [.str (Str.ofString "tree"), .int i]) ≤ 64 := by
        simp [PyData.depth, PyData.depthAll]
      rw [h1, decide_eq_true h2]
      rfl
    · simp [PyData.eqv, PyData.eqvAll]
theorem good_tr {p : Addr} {xs : List V} {fs : List Fl} (hp : H p = some (.tup xs)) (pf : Paired (FileAt H) xs fs) (ok : TreeOk fs) : Tr K H (.ref p) none := by
  have hl := paired_len pf
  have h8 := tree_len ok
  have t := Tr.tup (K := K) hp (by omega) (itm_files pf fun f hf => tree_okF ok hf)
  rw [fb_tree ok] at t
  exact t
end
section
variable {P : Program} {w : World} {K : PySem.W.Frag} {mg : Str → Option Value} {base : Heap}
theorem scLaw : FnScope nLaw ["_law_script"] (defScope sLaw) := ⟨rfl, rfl, rfl, by decide +kernel, rfl, by decide +kernel, by decide +kernel⟩
def spLaw (K : PySem.W.Frag) : Sp := fun vs H Q _ => ∃ (a : Addr) (ns : List Int), vs = [.ref a] ∧ Sc K H a ns ∧ ∀ H', Q (.bl true) H'
theorem ok_law {f : Addr} {fd : FuncData} (F : Fun K "law" "law" sLaw f fd) (T : Gv mg) (cT : Cal P w K mg base CX0 1 "_law_taken" ["_law_row", "_law_many"] (spTaken (K := K)))
    (cTr : Cal P w K mg base CX0 4 "_law_tree" ["_law_row"] (spTree (K := K))) (cO : Cal P w K mg base CX0 3 "_law_odd_tree" ["_law_row", "_law_tree_here"] (spOddT (K := K)))
    (cP : Cal P w K mg base CX0 2 "_law_odd_path" ["_law_row"] (spOdd (K := K) isPathV)) (cW : Cal P w K mg base CX0 2 "_law_odd_words" ["_law_row"] (spOdd (K := K) isTextV))
    (cR : Cal P w K mg base CX0 6 "_law_refused" ["_law_kind", "_law_tree_here", "_law_one_here", "_law_other"] (spRef (K := K))) : FnOk P w K mg base CX0 7 f fd ["_law_script"] (spLaw K) := by
  refine F.ok scLaw (fun vs H Q E h => ?_) (fun cdv A outer s H vs Q E hr h => ?_)
  · obtain ⟨a, ns, rfl, _⟩ := h
    rfl
  · obtain ⟨a, ns, rfl, sc, k⟩ := h
    have hr1 : Room 1 _ := hr.mono (by decide)
    have hr2 : Room 2 _ := hr.mono (by decide)
    have hr3 : Room 3 _ := hr.mono (by decide)
    have hr4 : Room 4 _ := hr.mono (by decide)
    have hu : (A.deeper (envOfC "law" (defScope sLaw) s.heap.objs.size f cdv)).units + 64 < cLine := by have := hr.un; omega
    refine ⟨_, pss_cons (ps_set (i := 1) scLaw.nd rfl (Or.inl rfl) (pe_lst (pa_cons (pv 0) (pa_cons pe_int (pa_cons pe_int (pa_cons pe_int pa_nil))))))
      (pss_cons (ps_for PassesOwn.never rfl (pi_range1 (by rfl) T.rng (pa_cons pe_int pa_nil)) (pg_name (i := 2) scLaw.nd rfl (Or.inl rfl))
        (pss_cons (ps_set (i := 3) scLaw.nd rfl (Or.inl rfl) (pe_call cTr.F hr4 (by rfl) cTr.g cTr.kp cTr.b .nil pass0 (pa_cons (pv 1) pa_nil)))
        (pss_cons (ps_asg (pe_call cO.F hr3 (by rfl) cO.g cO.kp cO.b .nil pass0 (pa_cons (pv 1) (pa_cons (pv 3) pa_nil))) (pg_lst rfl (pgs_cons (pg_name (i := 4) scLaw.nd rfl (Or.inl rfl)) (pgs_cons (pg_name (i := 5) scLaw.nd rfl (Or.inl rfl)) pgs_nil))))
        (pss_cons (ps_par (i := 6) (j := 7) rfl scLaw.nd rfl rfl (by decide) rfl rfl (pa_cons (pe_call cP.F hr2 (by rfl) cP.g cP.kp cP.b .nil pass0 (pa_cons (pv 1) pa_nil)) (pa_cons (pe_call cW.F hr2 (by rfl) cW.g cW.kp cW.b .nil pass0 (pa_cons (pv 1) pa_nil)) pa_nil)) rfl)
        (pss_cons (ps_if (pt_cmpR (op_neD hu) (pe_call cR.F hr (by rfl) cR.g cR.kp cR.b .nil pass0 (pa_cons (pe_call cT.F hr1 (by rfl) cT.g cT.kp cT.b .nil pass0 (pa_cons (pv 1) (pa_cons pe_int pa_nil))) (pa_cons (pv 4) (pa_cons (pv 6) (pa_cons (pv 7) pa_nil))))) (pe_lst (pa_cons pe_str (pa_cons (pv 5) pa_nil))) (nomark _)) (pss_one (ps_ret pe_bl)) pss_nil)
        (pss_cons (ps_if (pt_cmpR (op_neD hu) (pe_call cR.F hr (by rfl) cR.g cR.kp cR.b .nil pass0 (pa_cons pe_int (pa_cons (pv 3) (pa_cons (pv 4) (pa_cons pe_non pa_nil))))) (pe_lst (pa_cons pe_str (pa_cons (pv 5) pa_nil))) (nomark _)) (pss_one (ps_ret pe_bl)) pss_nil)
        (pss_cons (ps_if (pt_cmpR op_ne (pe_call cR.F hr (by rfl) cR.g cR.kp cR.b .nil pass0 (pa_cons (pe_ix ix_list (pe_lst (pa_cons pe_int (pa_cons pe_int (pa_cons pe_int pa_nil)))) (pe_call cT.F hr1 (by rfl) cT.g cT.kp cT.b .nil pass0 (pa_cons (pv 1) (pa_cons pe_int pa_nil))) (fun _ _ => rfl)) (pa_cons (pv 3) (pa_cons (pv 6) (pa_cons (pv 7) pa_nil))))) pe_str (nomark _)) (pss_one (ps_ret pe_bl)) pss_nil)
        (pss_cons (ps_if (pw_and (pt_cmpR (op_neSm hu) (pv 6) pe_str (nomark _)) (pw_and1 (pt_cmpR op_ne (pe_call cR.F hr (by rfl) cR.g cR.kp cR.b .nil pass0 (pa_cons pe_int (pa_cons (pv 3) (pa_cons (pv 6) (pa_cons pe_non pa_nil))))) pe_str (nomark _)))).pt (pss_one (ps_ret pe_bl)) pss_nil)
        (pss_one (ps_if (pt_cmpR op_ne (pe_call cR.F hr (by rfl) cR.g cR.kp cR.b .nil pass0 (pa_cons pe_int (pa_cons (pv 3) (pa_cons pe_str (pa_cons (pv 7) pa_nil))))) pe_str (nomark _)) (pss_one (ps_ret pe_bl)) pss_nil))))))))))
      (pss_one (ps_ret pe_bl))), ?_⟩
    refine q_asgL (xs := rowL a 0 1000 0) (el_lst (ea_cons (ev_var rfl) (ea_cons ev_c (ea_cons ev_c (ea_cons ev_c ea_nil)))) (by show 4 ≤ 100000; decide)) fun r H1 hr0 e1 h1 => ?_
    have row1 : Row K H1 r := ⟨a, 0, 1000, 0, ns, h1, sc.ex e1, Int.le_refl _⟩
    refine ⟨6, rfl, by decide, by decide, for_range (lo := 0) (n := (6 : Int).toNat) (fun i τ G => ∃ (u2 u3 u4 u5 u6 u7 : Option V), τ = [some (.ref a), some (.ref r), u2, u3, u4, u5, u6, u7] ∧ Row K G r) ⟨none, none, none, none, none, none, rfl, row1⟩ ?_ (fun τ G _ => k G)⟩
    rintro i τ G hi ⟨u2, u3, u4, u5, u6, u7, rfl, row⟩
    -- a tree, a spoilt one, odd values
    refine ⟨_, rfl, r, rfl, row, fun p xs fs G1 d1 hfree hp pf ok => ?_⟩
    refine ⟨_, rfl, _, rfl, r, p, xs, fs, rfl, d1.row, hp, pf, ok, fun l bad u G2 d2 hl tr hu => ⟨l, _, rfl, sq_of hl, rfl, _, _, rfl, _, _, rfl, rfl, ?_⟩⟩
    refine ⟨_, rfl, r, rfl, d2.row, fun pw G3 d3 sp bp => ⟨_, rfl, r, rfl, d3.row, fun wv G4 d4 sw bw => ⟨pw, wv, rfl, ?_⟩⟩⟩
    have sp4 : Sm G4 pw := Sm.dr sp d3.row d4
    have tr4 : Tr K G4 bad (some u) := Tr.dr (Tr.dr tr d2.row d3) d3.row d4
    have good1 : Tr K G1 (.ref p) none := good_tr hp pf ok
    have good4 : Tr K G4 (.ref p) none := Tr.dr (Tr.dr (Tr.dr good1 d1.row d2) d2.row d3) d3.row d4
    obtain ⟨dU, dp, shp, eqq⟩ := told (K := K) hu
    have row4 := d4.row
    -- 1
    refine draw (m := 5) (ev_var rfl) ev_c row4 (by decide) (by decide) fun n G5 hn hm d5 => ⟨_, rfl, _, rfl, _, rfl, n, bad, pw, wv, some u, rfl, Tr.dr tr4 row4 d5, .inl ⟨u, rfl, hn, by omega, fun l2 G6 e6 hl2 => ⟨_, rfl, by show 2 ≤ sizeLine; decide, fun l3 hl3 => ?_⟩⟩⟩
    have e7 : Ex G6 (upd G6 l3 (.lst [.str (Str.ofString "tree"), u])) := Ex.new hl3
    refine ⟨_, _, .lst (SqL.of (e7 _ _ hl2)) (.cons (.str _) (.cons (dp _) .nil)), .lst (SqL.of upd_same) (.cons (.str _) (.cons (dp _) .nil)), shp, shp, _, rfl, ?_⟩
    rw [eqq]
    refine iteF ?_
    have sp7 : Sm _ pw := (Sm.dr sp4 row4 d5).mono (e6.trans e7)
    have sw7 : Sm _ wv := (Sm.dr sw row4 d5).mono (e6.trans e7)
    have tr7 := (Tr.dr tr4 row4 d5).mono (e6.trans e7)
    have good7 := (Tr.dr good4 row4 d5).mono (e6.trans e7)
    have row7 := d5.row.ex (e6.trans e7)
    generalize upd G6 l3 (.lst [.str (Str.ofString "tree"), u]) = G7 at sp7 sw7 tr7 good7 row7 ⊢
    -- 2
    refine ⟨_, rfl, _, rfl, 3, .ref p, bad, .non, none, rfl, good7, .inr (.inl ⟨rfl, rfl, u, tr7, fun l4 G8 e8 hl4 => ⟨_, rfl, by show 2 ≤ sizeLine; decide, fun l5 hl5 => ?_⟩⟩)⟩
    have e9 : Ex G8 (upd G8 l5 (.lst [.str (Str.ofString "tree"), u])) := Ex.new hl5
    refine ⟨_, _, .lst (SqL.of (e9 _ _ hl4)) (.cons (.str _) (.cons (dp _) .nil)), .lst (SqL.of upd_same) (.cons (.str _) (.cons (dp _) .nil)), shp, shp, _, rfl, ?_⟩
    rw [eqq]
    refine iteF ?_
    have sp9 := sp7.mono (e8.trans e9)
    have sw9 := sw7.mono (e8.trans e9)
    have good9 := good7.mono (e8.trans e9)
    have row9 := row7.ex (e8.trans e9)
    generalize upd G8 l5 (.lst [.str (Str.ofString "tree"), u]) = G9 at sp9 sw9 good9 row9 ⊢
    -- 3
    refine ⟨by show 3 ≤ sizeLine; decide, fun l6 hl6 => ?_⟩
    have row10 := row9.ex (Ex.new (o := .lst [.int 0, .int 2, .int 4]) hl6)
    have ne6 : l6 ≠ r := row9.ne_new hl6
    refine draw (m := 3) (ev_var rfl) ev_c row10 (by decide) (by decide) fun n3 G10 hn3 hm3 d10 => ?_
    obtain ⟨m3, ha3, hm3⟩ : ∃ m3 : Int, atI [V.int 0, V.int 2, V.int 4] n3 = some (.int m3) ∧ (m3 = 0 ∨ m3 = 2 ∨ m3 = 4) := by
      have : n3 = 0 ∨ n3 = 1 ∨ n3 = 2 := by omega
      rcases this with rfl | rfl | rfl
      · exact ⟨0, rfl, .inl rfl⟩
      · exact ⟨2, rfl, .inr (.inl rfl)⟩
      · exact ⟨4, rfl, .inr (.inr rfl)⟩
    have sp10 := Sm.dr (sp9.mono (Ex.new (o := .lst [.int 0, .int 2, .int 4]) hl6)) row10 d10
    have sw10 := Sm.dr (sw9.mono (Ex.new (o := .lst [.int 0, .int 2, .int 4]) hl6)) row10 d10
    have good10 := Tr.dr (good9.mono (Ex.new (o := .lst [.int 0, .int 2, .int 4]) hl6)) row10 d10
    refine ⟨l6, _, n3, _, rfl, rfl, sq_of (d10.kp _ _ ne6 upd_same), ha3, _, rfl, _, rfl, _, rfl, m3, .ref p, pw, wv, none, rfl, good10, .inr (.inr (.inl ⟨rfl, hm3, sp10, bp, fun G11 e11 => ⟨rfl, _, rfl, iteF ?_⟩⟩))⟩
    have sp11 := sp10.mono e11
    have sw11 := sw10.mono e11
    have good11 := good10.mono e11
    have row11 := d10.row.ex e11
    -- 4
    have last : ∀ G12, Sm G12 wv → Tr K G12 (.ref p) none → Row K G12 r → tIfS (tTest (tOp rNe (tCall (spRef (K := K)) [] E0 (tCons (tC (.int 4)) (tCons (tVar 3) (tCons (tC (.str (Str.ofString "z"))) (tCons (tVar 7) tNil))))) (tC (.str (Str.ofString "words"))))) (tRet (tC (.bl false))) tNext
        { nx := fun τ G => ∃ (u2 u3 u4 u5 u6 u7 : Option V), τ = [some (.ref a), some (.ref r), u2, u3, u4, u5, u6, u7] ∧ Row K G r, rt := Q, bk := tRet (tC (.bl true)) { nx := fun _ H' => Q .non H', rt := Q }, ct := fun τ G => ∃ (u2 u3 u4 u5 u6 u7 : Option V), τ = [some (.ref a), some (.ref r), u2, u3, u4, u5, u6, u7] ∧ Row K G r }
        ([some (.ref a), some (.ref r), some (.int (0 + (i : Int))), some (.ref p), some bad, some u, some pw, some wv] : L2.St) G12 := by
      intro G12 sw12 good12 row12
      refine ⟨_, rfl, _, rfl, 4, .ref p, .str (Str.ofString "z"), wv, none, rfl, good12, .inr (.inr (.inr (.inr ⟨rfl, rfl, .str _ (by decide), by decide +kernel, sw12, bw, fun G13 e13 => ⟨rfl, _, rfl, iteF ?_⟩⟩)))⟩
      exact ⟨_, _, _, _, _, _, rfl, row12.ex e13⟩
    refine ev_op (z := .bl (!decide (pw = .str (Str.ofString "")))) (ev_var (i := 6) rfl) ev_c (rv_neSm sp11 (by decide +kernel)) G11 (Ex.refl _) _ fun G12 e12 => ⟨_, rfl, ?_⟩
    have sp12 := sp11.mono e12
    have sw12 := sw11.mono e12
    have good12 := good11.mono e12
    have row12 := row11.ex e12
    by_cases c : pw = .str (Str.ofString "")
    · rw [decide_eq_true c]
      refine iteF (iteF ?_)
      exact last G12 sw12 good12 row12
    · rw [decide_eq_false c]
      refine iteT ?_
      have bf : isFolderV pw = false := by
        cases pw with
        | str x =>
          have h1 : pathB x = false := bp
          have h2 : ¬ x = Str.ofString "" := fun z => c (by rw [z])
          show (pathB x || decide (x = Str.ofString "")) = false
          rw [h1, decide_eq_false h2]
          rfl
        | _ => rfl
      refine ⟨_, rfl, _, rfl, 1, .ref p, pw, .non, none, rfl, good12, .inr (.inr (.inr (.inl ⟨rfl, rfl, sp12, bf, fun G13 e13 => ⟨rfl, _, rfl, iteF ?_⟩⟩)))⟩
      exact last G13 (sw12.mono e13) (good12.mono e13) (row12.ex e13)
end
end Bl
namespace Bl
open PySem PySem.Spec PyProof.Rows L2 Bk Bm Evl Be Bp TL
theorem exm_at {K : PySem.W.Frag} {S T : Addr} {b : Bool} (h1 : PySem.W.subIn K (.ref T) (.type "BaseException") = some true) (h2 : PySem.W.isClsIn K T = true) (h3 : PySem.W.typeIn K (.ref T) = some (.type "type")) (h4 : PySem.W.subIn K (.ref S) (.ref T) = some b) :
    PySem.W.exmOne K (.ref S) (.ref T) = some b := by
  have e1 : (PySem.W.subIn K (.ref T) (.type "BaseException") == some true) = true := by
    rw [h1]
    rfl
  have e2 : ((PySem.W.clsIn K T).isSome && PySem.W.typeIn K (.ref T) == some (.type "type")) = true := by
    have h2' : (PySem.W.clsIn K T).isSome = true := h2
    rw [h2', h3]
    rfl
  show (if (PySem.W.subIn K (.ref T) (.type "BaseException") == some true) = true then (if ((PySem.W.clsIn K T).isSome && PySem.W.typeIn K (.ref T) == some (.type "type")) = true then PySem.W.subIn K (.ref S) (.ref T) else none) else none) = some b
  rw [if_pos e1, if_pos e2]
  exact h4
section
variable {l : PySem.W.OpenLaw} {w : World} {K : PySem.W.Frag} {h : Heap} {mg : Str → Option Value}
theorem all_mk {fa Ct fI Cp Cf Cw fHS f0 f1 f2 f3 f4 f5 f6 f7 f8 f9 f10 f11 f12 f13 f14 f15 f16 f17 f18 f19 f20 f21 f22 f23 f24 : Addr} {odI anI odHS anHS od0 an0 od1 an1 od2 an2 od3 an3 od4 an4 od5 an5 od6 an6 od7 an7 od8 an8 od9 an9 od10 an10 od11 an11 od12 an12 od13 an13 od14 an14 od15 an15 od16 an16 od17 an17 od18 an18 od19 an19 od20 an20 od21 an21 od22 an22 od23 an23 od24 an24 : Option Addr} {slI slHS sl0 sl1 sl2 sl3 sl4 sl5 sl6 sl7 sl8 sl9 sl10 sl11 sl12 sl13 sl14 sl15 sl16 sl17 sl18 sl19 sl20 sl21 sl22 sl23 sl24 : Array (Option Value)} {ocI kVI dcI pmI cdI ctI ocHS kVHS dcHS pmHS cdHS ctHS oc0 kV0 dc0 pm0 cd0 ct0 oc1 kV1 dc1 pm1 cd1 ct1 oc2 kV2 dc2 pm2 cd2 ct2 oc3 kV3 dc3 pm3 cd3 ct3 oc4 kV4 dc4 pm4 cd4 ct4 oc5 kV5 dc5 pm5 cd5 ct5 oc6 kV6 dc6 pm6 cd6 ct6 oc7 kV7 dc7 pm7 cd7 ct7 oc8 kV8 dc8 pm8 cd8 ct8 oc9 kV9 dc9 pm9 cd9 ct9 oc10 kV10 dc10 pm10 cd10 ct10 oc11 kV11 dc11 pm11 cd11 ct11 oc12 kV12 dc12 pm12 cd12 ct12 oc13 kV13 dc13 pm13 cd13 ct13 oc14 kV14 dc14 pm14 cd14 ct14 oc15 kV15 dc15 pm15 cd15 ct15 oc16 kV16 dc16 pm16 cd16 ct16 oc17 kV17 dc17 pm17 cd17 ct17 oc18 kV18 dc18 pm18 cd18 ct18 oc19 kV19 dc19 pm19 cd19 ct19 oc20 kV20 dc20 pm20 cd20 ct20 oc21 kV21 dc21 pm21 cd21 ct21 oc22 kV22 dc22 pm22 cd22 ct22 oc23 kV23 dc23 pm23 cd23 ct23 oc24 kV24 dc24 pm24 cd24 ct24 : Value} {nmT qT : Str} {NT : Addr} {bsT bmT : List Value} {snT : List Str} {subT : List Value} {abT : Bool} {colT : Option Bool} {ddT : Option Addr} {m0 m1 m2 m3 m5 : Option Value} {tk1 tk2 tk3 tk4 : Tok} (X : K.In h) (G : h.Ns mainGlobals mg) (hfa : mg "law" = some (.ref fa))
    (aHS : PySem.W.nsIn K mainGlobals "has_signs" = some (some (.ref fHS)))
    (lHS : K.lookup fHS = some ⟨ocHS, odHS, .func (PySem.W.fnOf "has_signs" "has_signs" (defArgs sHas) (defBody sHas) (defScope sHas) .none kVHS dcHS pmHS anHS cdHS ctHS), slHS⟩)
    (cHS : PySem.W.codeIn K cdHS "has_signs" = true)
    (kHS : PySem.W.keepIn K (.ref fHS) = true)
    (a0 : PySem.W.nsIn K mainGlobals "is_name" = some (some (.ref f0)))
    (l0 : K.lookup f0 = some ⟨oc0, od0, .func (PySem.W.fnOf "is_name" "is_name" (defArgs sIsName) (defBody sIsName) (defScope sIsName) .none kV0 dc0 pm0 an0 cd0 ct0), sl0⟩)
    (c0 : PySem.W.codeIn K cd0 "is_name" = true)
    (k0 : PySem.W.keepIn K (.ref f0) = true)
    (a1 : PySem.W.nsIn K mainGlobals "is_path" = some (some (.ref f1)))
    (l1 : K.lookup f1 = some ⟨oc1, od1, .func (PySem.W.fnOf "is_path" "is_path" (defArgs sIsPath) (defBody sIsPath) (defScope sIsPath) .none kV1 dc1 pm1 an1 cd1 ct1), sl1⟩)
    (c1 : PySem.W.codeIn K cd1 "is_path" = true)
    (k1 : PySem.W.keepIn K (.ref f1) = true)
    (a2 : PySem.W.nsIn K mainGlobals "is_folder" = some (some (.ref f2)))
    (l2 : K.lookup f2 = some ⟨oc2, od2, .func (PySem.W.fnOf "is_folder" "is_folder" (defArgs sIsFolder) (defBody sIsFolder) (defScope sIsFolder) .none kV2 dc2 pm2 an2 cd2 ct2), sl2⟩)
    (c2 : PySem.W.codeIn K cd2 "is_folder" = true)
    (k2 : PySem.W.keepIn K (.ref f2) = true)
    (a3 : PySem.W.nsIn K mainGlobals "is_text" = some (some (.ref f3)))
    (l3 : K.lookup f3 = some ⟨oc3, od3, .func (PySem.W.fnOf "is_text" "is_text" (defArgs sIsText) (defBody sIsText) (defScope sIsText) .none kV3 dc3 pm3 an3 cd3 ct3), sl3⟩)
    (c3 : PySem.W.codeIn K cd3 "is_text" = true)
    (k3 : PySem.W.keepIn K (.ref f3) = true)
    (a4 : PySem.W.nsIn K mainGlobals "is_file" = some (some (.ref f4)))
    (l4 : K.lookup f4 = some ⟨oc4, od4, .func (PySem.W.fnOf "is_file" "is_file" (defArgs sIsFile) (defBody sIsFile) (defScope sIsFile) .none kV4 dc4 pm4 an4 cd4 ct4), sl4⟩)
    (c4 : PySem.W.codeIn K cd4 "is_file" = true)
    (k4 : PySem.W.keepIn K (.ref f4) = true)
    (a5 : PySem.W.nsIn K mainGlobals "lies_within" = some (some (.ref f5)))
    (l5 : K.lookup f5 = some ⟨oc5, od5, .func (PySem.W.fnOf "lies_within" "lies_within" (defArgs sLies) (defBody sLies) (defScope sLies) .none kV5 dc5 pm5 an5 cd5 ct5), sl5⟩)
    (c5 : PySem.W.codeIn K cd5 "lies_within" = true)
    (k5 : PySem.W.keepIn K (.ref f5) = true)
    (a6 : PySem.W.nsIn K mainGlobals "may_follow" = some (some (.ref f6)))
    (l6 : K.lookup f6 = some ⟨oc6, od6, .func (PySem.W.fnOf "may_follow" "may_follow" (defArgs sFollow) (defBody sFollow) (defScope sFollow) .none kV6 dc6 pm6 an6 cd6 ct6), sl6⟩)
    (c6 : PySem.W.codeIn K cd6 "may_follow" = true)
    (k6 : PySem.W.keepIn K (.ref f6) = true)
    (a7 : PySem.W.nsIn K mainGlobals "check_path" = some (some (.ref f7)))
    (l7 : K.lookup f7 = some ⟨oc7, od7, .func (PySem.W.fnOf "check_path" "check_path" (defArgs sCkPath) (defBody sCkPath) (defScope sCkPath) .none kV7 dc7 pm7 an7 cd7 ct7), sl7⟩)
    (c7 : PySem.W.codeIn K cd7 "check_path" = true)
    (k7 : PySem.W.keepIn K (.ref f7) = true)
    (a8 : PySem.W.nsIn K mainGlobals "check_folder" = some (some (.ref f8)))
    (l8 : K.lookup f8 = some ⟨oc8, od8, .func (PySem.W.fnOf "check_folder" "check_folder" (defArgs sCkFolder) (defBody sCkFolder) (defScope sCkFolder) .none kV8 dc8 pm8 an8 cd8 ct8), sl8⟩)
    (c8 : PySem.W.codeIn K cd8 "check_folder" = true)
    (k8 : PySem.W.keepIn K (.ref f8) = true)
    (a9 : PySem.W.nsIn K mainGlobals "check_words" = some (some (.ref f9)))
    (l9 : K.lookup f9 = some ⟨oc9, od9, .func (PySem.W.fnOf "check_words" "check_words" (defArgs sCkWords) (defBody sCkWords) (defScope sCkWords) .none kV9 dc9 pm9 an9 cd9 ct9), sl9⟩)
    (c9 : PySem.W.codeIn K cd9 "check_words" = true)
    (k9 : PySem.W.keepIn K (.ref f9) = true)
    (a10 : PySem.W.nsIn K mainGlobals "check_tree" = some (some (.ref f10)))
    (l10 : K.lookup f10 = some ⟨oc10, od10, .func (PySem.W.fnOf "check_tree" "check_tree" (defArgs sCkTree) (defBody sCkTree) (defScope sCkTree) .none kV10 dc10 pm10 an10 cd10 ct10), sl10⟩)
    (c10 : PySem.W.codeIn K cd10 "check_tree" = true)
    (k10 : PySem.W.keepIn K (.ref f10) = true)
    (a11 : PySem.W.nsIn K mainGlobals "text_at" = some (some (.ref f11)))
    (l11 : K.lookup f11 = some ⟨oc11, od11, .func (PySem.W.fnOf "text_at" "text_at" (defArgs sTextAt) (defBody sTextAt) (defScope sTextAt) .none kV11 dc11 pm11 an11 cd11 ct11), sl11⟩)
    (c11 : PySem.W.codeIn K cd11 "text_at" = true)
    (k11 : PySem.W.keepIn K (.ref f11) = true)
    (a12 : PySem.W.nsIn K mainGlobals "names_in" = some (some (.ref f12)))
    (l12 : K.lookup f12 = some ⟨oc12, od12, .func (PySem.W.fnOf "names_in" "names_in" (defArgs sNamesIn) (defBody sNamesIn) (defScope sNamesIn) .none kV12 dc12 pm12 an12 cd12 ct12), sl12⟩)
    (c12 : PySem.W.codeIn K cd12 "names_in" = true)
    (k12 : PySem.W.keepIn K (.ref f12) = true)
    (a13 : PySem.W.nsIn K mainGlobals "put" = some (some (.ref f13)))
    (l13 : K.lookup f13 = some ⟨oc13, od13, .func (PySem.W.fnOf "put" "put" (defArgs sPut) (defBody sPut) (defScope sPut) .none kV13 dc13 pm13 an13 cd13 ct13), sl13⟩)
    (c13 : PySem.W.codeIn K cd13 "put" = true)
    (k13 : PySem.W.keepIn K (.ref f13) = true)
    (a14 : PySem.W.nsIn K mainGlobals "taken" = some (some (.ref f14)))
    (l14 : K.lookup f14 = some ⟨oc14, od14, .func (PySem.W.fnOf "taken" "taken" (defArgs Bp.sTaken) (defBody Bp.sTaken) (defScope Bp.sTaken) .none kV14 dc14 pm14 an14 cd14 ct14), sl14⟩)
    (c14 : PySem.W.codeIn K cd14 "taken" = true)
    (k14 : PySem.W.keepIn K (.ref f14) = true)
    (a15 : PySem.W.nsIn K mainGlobals "differing" = some (some (.ref f15)))
    (l15 : K.lookup f15 = some ⟨oc15, od15, .func (PySem.W.fnOf "differing" "differing" (defArgs sDiff) (defBody sDiff) (defScope sDiff) .none kV15 dc15 pm15 an15 cd15 ct15), sl15⟩)
    (c15 : PySem.W.codeIn K cd15 "differing" = true)
    (k15 : PySem.W.keepIn K (.ref f15) = true)
    (a16 : PySem.W.nsIn K mainGlobals "_law_taken" = some (some (.ref f16)))
    (l16 : K.lookup f16 = some ⟨oc16, od16, .func (PySem.W.fnOf "_law_taken" "_law_taken" (defArgs Bl.sTaken) (defBody Bl.sTaken) (defScope Bl.sTaken) .none kV16 dc16 pm16 an16 cd16 ct16), sl16⟩)
    (c16 : PySem.W.codeIn K cd16 "_law_taken" = true)
    (k16 : PySem.W.keepIn K (.ref f16) = true)
    (a17 : PySem.W.nsIn K mainGlobals "_law_one" = some (some (.ref f17)))
    (l17 : K.lookup f17 = some ⟨oc17, od17, .func (PySem.W.fnOf "_law_one" "_law_one" (defArgs sOne) (defBody sOne) (defScope sOne) .none kV17 dc17 pm17 an17 cd17 ct17), sl17⟩)
    (c17 : PySem.W.codeIn K cd17 "_law_one" = true)
    (k17 : PySem.W.keepIn K (.ref f17) = true)
    (a18 : PySem.W.nsIn K mainGlobals "_law_words" = some (some (.ref f18)))
    (l18 : K.lookup f18 = some ⟨oc18, od18, .func (PySem.W.fnOf "_law_words" "_law_words" (defArgs sWords) (defBody sWords) (defScope sWords) .none kV18 dc18 pm18 an18 cd18 ct18), sl18⟩)
    (c18 : PySem.W.codeIn K cd18 "_law_words" = true)
    (k18 : PySem.W.keepIn K (.ref f18) = true)
    (a19 : PySem.W.nsIn K mainGlobals "_law_tree" = some (some (.ref f19)))
    (l19 : K.lookup f19 = some ⟨oc19, od19, .func (PySem.W.fnOf "_law_tree" "_law_tree" (defArgs sTree) (defBody sTree) (defScope sTree) .none kV19 dc19 pm19 an19 cd19 ct19), sl19⟩)
    (c19 : PySem.W.codeIn K cd19 "_law_tree" = true)
    (k19 : PySem.W.keepIn K (.ref f19) = true)
    (a20 : PySem.W.nsIn K mainGlobals "_law_odd_path" = some (some (.ref f20)))
    (l20 : K.lookup f20 = some ⟨oc20, od20, .func (PySem.W.fnOf "_law_odd_path" "_law_odd_path" (defArgs sOddP) (defBody sOddP) (defScope sOddP) .none kV20 dc20 pm20 an20 cd20 ct20), sl20⟩)
    (c20 : PySem.W.codeIn K cd20 "_law_odd_path" = true)
    (k20 : PySem.W.keepIn K (.ref f20) = true)
    (a21 : PySem.W.nsIn K mainGlobals "_law_odd_words" = some (some (.ref f21)))
    (l21 : K.lookup f21 = some ⟨oc21, od21, .func (PySem.W.fnOf "_law_odd_words" "_law_odd_words" (defArgs sOddW) (defBody sOddW) (defScope sOddW) .none kV21 dc21 pm21 an21 cd21 ct21), sl21⟩)
    (c21 : PySem.W.codeIn K cd21 "_law_odd_words" = true)
    (k21 : PySem.W.keepIn K (.ref f21) = true)
    (a22 : PySem.W.nsIn K mainGlobals "_law_odd_tree" = some (some (.ref f22)))
    (l22 : K.lookup f22 = some ⟨oc22, od22, .func (PySem.W.fnOf "_law_odd_tree" "_law_odd_tree" (defArgs sOddT) (defBody sOddT) (defScope sOddT) .none kV22 dc22 pm22 an22 cd22 ct22), sl22⟩)
    (c22 : PySem.W.codeIn K cd22 "_law_odd_tree" = true)
    (k22 : PySem.W.keepIn K (.ref f22) = true)
    (a23 : PySem.W.nsIn K mainGlobals "_law_refused" = some (some (.ref f23)))
    (l23 : K.lookup f23 = some ⟨oc23, od23, .func (PySem.W.fnOf "_law_refused" "_law_refused" (defArgs sRef) (defBody sRef) (defScope sRef) .none kV23 dc23 pm23 an23 cd23 ct23), sl23⟩)
    (c23 : PySem.W.codeIn K cd23 "_law_refused" = true)
    (k23 : PySem.W.keepIn K (.ref f23) = true)
    (a24 : PySem.W.nsIn K mainGlobals "law" = some (some (.ref f24)))
    (l24 : K.lookup f24 = some ⟨oc24, od24, .func (PySem.W.fnOf "law" "law" (defArgs sLaw) (defBody sLaw) (defScope sLaw) .none kV24 dc24 pm24 an24 cd24 ct24), sl24⟩)
    (c24 : PySem.W.codeIn K cd24 "law" = true)
    (k24 : PySem.W.keepIn K (.ref f24) = true)
    (aT : PySem.W.nsIn K mainGlobals "BadTree" = some (some (.ref Ct)))
    (xT : K.lookup Ct = some (excClassObj nmT qT Ct NT bsT bmT true snT subT abT colT ddT m0 m1 m2 m3 m5 "ValueError.__new__"))
    (rT : PySem.HandSPX.refsVE bmT = true)
    (saT : PySem.W.findIn K (.ref Ct) "__setattr__" = some (some (.builtin "object.__setattr__")))
    (gaT : PySem.W.findIn K (.ref Ct) "__getattribute__" = some (some (.builtin "BaseException.__getattribute__")))
    (ggT : PySem.W.findIn K (.ref Ct) "__getattr__" = some none)
    (nbT : PySem.W.findIn K (.ref Ct) "index" = some none)
    (iT : PySem.W.findIn K (.ref Ct) "__init__" = some (some (.ref fI)))
    (tI : PySem.W.typeIn K (.ref fI) = some (.type "function"))
    (lI : K.lookup fI = some ⟨ocI, odI, .func (PySem.W.fnOf "__init__" "BadTree.__init__" (defArgs sBtI) (defBody sBtI) (defScope sBtI) .none kVI dcI pmI anI cdI ctI), slI⟩)
    (cI : PySem.W.codeIn K cdI "BadTree.__init__" = true)
    (kI : PySem.W.keepIn K (.ref fI) = true)
    (hdT : PySem.W.hasDictIn K Ct = true)
    (kkT : PySem.W.keepIn K (.ref Ct) = true)
    (bbT : PySem.W.subIn K (.ref Ct) (.type "BaseException") = some true)
    (tyT : PySem.W.typeIn K (.ref Ct) = some (.type "type"))
    (icT : PySem.W.isClsIn K Ct = true)
    (aP : PySem.W.nsIn K mainGlobals "BadPath" = some (some (.ref Cp)))
    (qP : PySem.W.excIn K Cp vTail "ValueError.__new__" = true)
    (kkP : PySem.W.keepIn K (.ref Cp) = true)
    (bbP : PySem.W.subIn K (.ref Cp) (.type "BaseException") = some true)
    (tyP : PySem.W.typeIn K (.ref Cp) = some (.type "type"))
    (icP : PySem.W.isClsIn K Cp = true)
    (aF : PySem.W.nsIn K mainGlobals "BadFolder" = some (some (.ref Cf)))
    (qF : PySem.W.excIn K Cf vTail "ValueError.__new__" = true)
    (kkF : PySem.W.keepIn K (.ref Cf) = true)
    (bbF : PySem.W.subIn K (.ref Cf) (.type "BaseException") = some true)
    (tyF : PySem.W.typeIn K (.ref Cf) = some (.type "type"))
    (icF : PySem.W.isClsIn K Cf = true)
    (aW : PySem.W.nsIn K mainGlobals "BadWords" = some (some (.ref Cw)))
    (qW : PySem.W.excIn K Cw vTail "ValueError.__new__" = true)
    (kkW : PySem.W.keepIn K (.ref Cw) = true)
    (bbW : PySem.W.subIn K (.ref Cw) (.type "BaseException") = some true)
    (tyW : PySem.W.typeIn K (.ref Cw) = some (.type "type"))
    (icW : PySem.W.isClsIn K Cw = true)
    (stt : PySem.W.subIn K (.ref Ct) (.ref Ct) = some true)
    (spt : PySem.W.subIn K (.ref Cp) (.ref Ct) = some false)
    (sft : PySem.W.subIn K (.ref Cf) (.ref Ct) = some false)
    (swt : PySem.W.subIn K (.ref Cw) (.ref Ct) = some false)
    (spp : PySem.W.subIn K (.ref Cp) (.ref Cp) = some true)
    (sfp : PySem.W.subIn K (.ref Cf) (.ref Cp) = some false)
    (swp : PySem.W.subIn K (.ref Cw) (.ref Cp) = some false)
    (sff : PySem.W.subIn K (.ref Cf) (.ref Cf) = some true)
    (swf : PySem.W.subIn K (.ref Cw) (.ref Cf) = some false)
    (sww : PySem.W.subIn K (.ref Cw) (.ref Cw) = some true)
    (z0 : PySem.W.nsIn K mainGlobals "len" = some none)
    (z1 : PySem.W.nsIn K mainGlobals "all" = some none)
    (z2 : PySem.W.nsIn K mainGlobals "any" = some none)
    (z3 : PySem.W.nsIn K mainGlobals "isinstance" = some none)
    (z4 : PySem.W.nsIn K mainGlobals "str" = some none)
    (z5 : PySem.W.nsIn K mainGlobals "tuple" = some none)
    (z6 : PySem.W.nsIn K mainGlobals "list" = some none)
    (z7 : PySem.W.nsIn K mainGlobals "int" = some none)
    (z8 : PySem.W.nsIn K mainGlobals "range" = some none)
    (z9 : PySem.W.nsIn K mainGlobals "enumerate" = some none)
    (v0 : PySem.W.nsIn K mainGlobals "MOST_NAMES" = some (some (.int 3 tk1)))
    (v1 : PySem.W.nsIn K mainGlobals "LONGEST_NAME" = some (some (.int 6 tk2)))
    (v2 : PySem.W.nsIn K mainGlobals "LONGEST_TEXT" = some (some (.int 200 tk3)))
    (v3 : PySem.W.nsIn K mainGlobals "MOST_FILES" = some (some (.int 20 tk4)))
    : ∃ fd : FuncData, (∀ (s : Shared) (v : Value), BindsTo s fd ⟨[v], []⟩ [("_law_script", v)]) ∧ ∀ base : Heap, K.In base → base.Ns mainGlobals mg → FnOk l.prog w K mg base CX0 7 fa fd ["_law_script"] (spLaw K) := by
  have e := hfa.symm.trans (PySem.W.mg_of X G a24)
  cases e
  have T : Gv mg := ⟨PySem.W.mg_none_of X G z0, PySem.W.mg_none_of X G z1, PySem.W.mg_none_of X G z2, PySem.W.mg_none_of X G z3, PySem.W.mg_none_of X G z4, PySem.W.mg_none_of X G z5, PySem.W.mg_none_of X G z6, PySem.W.mg_none_of X G z7, PySem.W.mg_none_of X G z8, PySem.W.mg_none_of X G z9, ⟨_, PySem.W.mg_of X G v0⟩, ⟨_, PySem.W.mg_of X G v1⟩, ⟨_, PySem.W.mg_of X G v2⟩, ⟨_, PySem.W.mg_of X G v3⟩⟩
  have FHS := fun_mk (st := sHas) lHS cHS kHS
  have bHS := FHS.binds (ps := ["value", "most"]) fun _ _ _ _ _ _ us hl => match us, hl with | [_, _], _ => rfl
  have F0 := fun_mk (st := sIsName) l0 c0 k0
  have b0 := F0.binds (ps := ["word"]) fun _ _ _ _ _ _ us hl => match us, hl with | [_], _ => rfl
  have F1 := fun_mk (st := sIsPath) l1 c1 k1
  have b1 := F1.binds (ps := ["value"]) fun _ _ _ _ _ _ us hl => match us, hl with | [_], _ => rfl
  have F2 := fun_mk (st := sIsFolder) l2 c2 k2
  have b2 := F2.binds (ps := ["value"]) fun _ _ _ _ _ _ us hl => match us, hl with | [_], _ => rfl
  have F3 := fun_mk (st := sIsText) l3 c3 k3
  have b3 := F3.binds (ps := ["value"]) fun _ _ _ _ _ _ us hl => match us, hl with | [_], _ => rfl
  have F4 := fun_mk (st := sIsFile) l4 c4 k4
  have b4 := F4.binds (ps := ["value"]) fun _ _ _ _ _ _ us hl => match us, hl with | [_], _ => rfl
  have F5 := fun_mk (st := sLies) l5 c5 k5
  have b5 := F5.binds (ps := ["path", "folder"]) fun _ _ _ _ _ _ us hl => match us, hl with | [_, _], _ => rfl
  have F6 := fun_mk (st := sFollow) l6 c6 k6
  have b6 := F6.binds (ps := ["path", "files"]) fun _ _ _ _ _ _ us hl => match us, hl with | [_, _], _ => rfl
  have F7 := fun_mk (st := sCkPath) l7 c7 k7
  have b7 := F7.binds (ps := ["value"]) fun _ _ _ _ _ _ us hl => match us, hl with | [_], _ => rfl
  have F8 := fun_mk (st := sCkFolder) l8 c8 k8
  have b8 := F8.binds (ps := ["value"]) fun _ _ _ _ _ _ us hl => match us, hl with | [_], _ => rfl
  have F9 := fun_mk (st := sCkWords) l9 c9 k9
  have b9 := F9.binds (ps := ["value"]) fun _ _ _ _ _ _ us hl => match us, hl with | [_], _ => rfl
  have F10 := fun_mk (st := sCkTree) l10 c10 k10
  have b10 := F10.binds (ps := ["value"]) fun _ _ _ _ _ _ us hl => match us, hl with | [_], _ => rfl
  have F11 := fun_mk (st := sTextAt) l11 c11 k11
  have b11 := F11.binds (ps := ["tree", "path"]) fun _ _ _ _ _ _ us hl => match us, hl with | [_, _], _ => rfl
  have F12 := fun_mk (st := sNamesIn) l12 c12 k12
  have b12 := F12.binds (ps := ["tree", "folder"]) fun _ _ _ _ _ _ us hl => match us, hl with | [_, _], _ => rfl
  have F13 := fun_mk (st := sPut) l13 c13 k13
  have b13 := F13.binds (ps := ["tree", "path", "text"]) fun _ _ _ _ _ _ us hl => match us, hl with | [_, _, _], _ => rfl
  have F14 := fun_mk (st := Bp.sTaken) l14 c14 k14
  have b14 := F14.binds (ps := ["tree", "path"]) fun _ _ _ _ _ _ us hl => match us, hl with | [_, _], _ => rfl
  have F15 := fun_mk (st := sDiff) l15 c15 k15
  have b15 := F15.binds (ps := ["one", "other"]) fun _ _ _ _ _ _ us hl => match us, hl with | [_, _], _ => rfl
  have F16 := fun_mk (st := Bl.sTaken) l16 c16 k16
  have b16 := F16.binds (ps := ["_law_row", "_law_many"]) fun _ _ _ _ _ _ us hl => match us, hl with | [_, _], _ => rfl
  have F17 := fun_mk (st := sOne) l17 c17 k17
  have b17 := F17.binds (ps := ["_law_row", "_law_things"]) fun _ _ _ _ _ _ us hl => match us, hl with | [_, _], _ => rfl
  have F18 := fun_mk (st := sWords) l18 c18 k18
  have b18 := F18.binds (ps := ["_law_row"]) fun _ _ _ _ _ _ us hl => match us, hl with | [_], _ => rfl
  have F19 := fun_mk (st := sTree) l19 c19 k19
  have b19 := F19.binds (ps := ["_law_row"]) fun _ _ _ _ _ _ us hl => match us, hl with | [_], _ => rfl
  have F20 := fun_mk (st := sOddP) l20 c20 k20
  have b20 := F20.binds (ps := ["_law_row"]) fun _ _ _ _ _ _ us hl => match us, hl with | [_], _ => rfl
  have F21 := fun_mk (st := sOddW) l21 c21 k21
  have b21 := F21.binds (ps := ["_law_row"]) fun _ _ _ _ _ _ us hl => match us, hl with | [_], _ => rfl
  have F22 := fun_mk (st := sOddT) l22 c22 k22
  have b22 := F22.binds (ps := ["_law_row", "_law_tree_here"]) fun _ _ _ _ _ _ us hl => match us, hl with | [_, _], _ => rfl
  have F23 := fun_mk (st := sRef) l23 c23 k23
  have b23 := F23.binds (ps := ["_law_kind", "_law_tree_here", "_law_one_here", "_law_other"]) fun _ _ _ _ _ _ us hl => match us, hl with | [_, _, _, _], _ => rfl
  have F24 := fun_mk (st := sLaw) l24 c24 k24
  have b24 := F24.binds (ps := ["_law_script"]) fun _ _ _ _ _ _ us hl => match us, hl with | [_], _ => rfl
  have FI := fun_mk (st := sBtI) lI cI kI
  have bI := FI.binds (ps := ["self", "index"]) fun _ _ _ _ _ _ us hl => match us, hl with | [_, _], _ => rfl
  have oT : OexC K Ct := ⟨⟨_, _, _, _, _, _, _, _, _, _, _, _, _, _, _, xT, rT⟩, saT, bbT, tyT, kkT⟩
  have xc : Exs K mg Ct fI Cp Cf Cw := ⟨⟨PySem.W.mg_of X G aT, oT, ⟨gaT, ggT, bbT, hdT⟩, nbT, iT, tI⟩, ⟨PySem.W.mg_of X G aP, qP, kkP, bbP, tyP⟩, ⟨PySem.W.mg_of X G aF, qF, kkF, bbF, tyF⟩, ⟨PySem.W.mg_of X G aW, qW, kkW, bbW, tyW⟩,
    exm_at bbT icT tyT stt, exm_at bbT icT tyT spt, exm_at bbT icT tyT sft, exm_at bbT icT tyT swt, exm_at bbP icP tyP spp, exm_at bbP icP tyP sfp, exm_at bbP icP tyP swp, exm_at bbF icF tyF sff, exm_at bbF icF tyF swf, exm_at bbW icW tyW sww⟩
  refine ⟨PySem.W.fnOf "law" "law" (defArgs sLaw) (defBody sLaw) (defScope sLaw) .none kV24 dc24 pm24 an24 cd24 ct24, fun s v => .of_eq rfl, fun base _ _ => ?_⟩
  have cName : Cal l.prog w K mg base CX0 1 "is_name" ["word"] spName := ⟨f0, _, ok_name F0 T, PySem.W.mg_of X G a0, k0, b0⟩
  have cPath : Cal l.prog w K mg base CX0 2 "is_path" ["value"] (spPath (K := K)) := ⟨f1, _, ok_path F1 T cName, PySem.W.mg_of X G a1, k1, b1⟩
  have cFolder : Cal l.prog w K mg base CX0 3 "is_folder" ["value"] spFolder := ⟨f2, _, ok_folder F2 cPath, PySem.W.mg_of X G a2, k2, b2⟩
  have cHas : Cal l.prog w K mg base CX0 1 "has_signs" ["value", "most"] (spHas (K := K)) := ⟨fHS, _, ok_has FHS T, PySem.W.mg_of X G aHS, kHS, bHS⟩
  have cText : Cal l.prog w K mg base CX0 2 "is_text" ["value"] (spText (K := K)) := ⟨f3, _, ok_text F3 T cHas, PySem.W.mg_of X G a3, k3, b3⟩
  have cFile : Cal l.prog w K mg base CX0 3 "is_file" ["value"] (spFile (K := K)) := ⟨f4, _, ok_file F4 T cPath cText, PySem.W.mg_of X G a4, k4, b4⟩
  have cLies : Cal l.prog w K mg base CX0 1 "lies_within" ["path", "folder"] spLies := ⟨f5, _, ok_lies F5, PySem.W.mg_of X G a5, k5, b5⟩
  have cFollow : Cal l.prog w K mg base CX0 2 "may_follow" ["path", "files"] (spFollow (K := K)) := ⟨f6, _, ok_follow F6 T cLies, PySem.W.mg_of X G a6, k6, b6⟩
  have cCkP : Cal l.prog w K mg base (L2.CX l.prog w) 3 "check_path" ["value"] (spCk Cp isPathV) := ⟨f7, _, ok_ckPath F7 xc.path cPath, PySem.W.mg_of X G a7, k7, b7⟩
  have cCkF : Cal l.prog w K mg base (L2.CX l.prog w) 4 "check_folder" ["value"] (spCk Cf isFolderV) := ⟨f8, _, ok_ckFolder F8 xc.folder cFolder, PySem.W.mg_of X G a8, k8, b8⟩
  have cCkW : Cal l.prog w K mg base (L2.CX l.prog w) 3 "check_words" ["value"] (spCk Cw isTextV) := ⟨f9, _, ok_ckWords F9 xc.words cText, PySem.W.mg_of X G a9, k9, b9⟩
  have cCkT : Cal l.prog w K mg base (L2.CX l.prog w) 4 "check_tree" ["value"] (spCkTree (K := K) Ct) := ⟨f10, _, ok_ckTree F10 T xc.tree (ok_btI FI) bI cFile cFollow, PySem.W.mg_of X G a10, k10, b10⟩
  have cTextAt : Cal l.prog w K mg base (L2.CX l.prog w) 5 "text_at" ["tree", "path"] (spR2 (K := K) Ct Cp isPathV) := ⟨f11, _, ok_textAt F11 cCkT cCkP, PySem.W.mg_of X G a11, k11, b11⟩
  have cNames : Cal l.prog w K mg base (L2.CX l.prog w) 5 "names_in" ["tree", "folder"] (spR2 (K := K) Ct Cf isFolderV) := ⟨f12, _, ok_namesIn F12 cCkT cCkF, PySem.W.mg_of X G a12, k12, b12⟩
  have cPut : Cal l.prog w K mg base (L2.CX l.prog w) 5 "put" ["tree", "path", "text"] (spR3 (K := K) Ct Cp Cw) := ⟨f13, _, ok_put F13 cCkT cCkP cCkW, PySem.W.mg_of X G a13, k13, b13⟩
  have cTaken : Cal l.prog w K mg base (L2.CX l.prog w) 5 "taken" ["tree", "path"] (spR2 (K := K) Ct Cp isPathV) := ⟨f14, _, Bp.ok_taken F14 cCkT cCkP, PySem.W.mg_of X G a14, k14, b14⟩
  have cDiff : Cal l.prog w K mg base (L2.CX l.prog w) 5 "differing" ["one", "other"] (spRD (K := K) Ct) := ⟨f15, _, ok_diff F15 cCkT, PySem.W.mg_of X G a15, k15, b15⟩
  have dT : Cal l.prog w K mg base CX0 1 "_law_taken" ["_law_row", "_law_many"] (spTaken (K := K)) := ⟨f16, _, Bl.ok_taken F16 T, PySem.W.mg_of X G a16, k16, b16⟩
  have dO : Cal l.prog w K mg base CX0 2 "_law_one" ["_law_row", "_law_things"] (spOne (K := K)) := ⟨f17, _, ok_one F17 T dT, PySem.W.mg_of X G a17, k17, b17⟩
  have dW : Cal l.prog w K mg base CX0 3 "_law_words" ["_law_row"] (spWords (K := K)) := ⟨f18, _, ok_words F18 T dT dO, PySem.W.mg_of X G a18, k18, b18⟩
  have dTr : Cal l.prog w K mg base CX0 4 "_law_tree" ["_law_row"] (spTree (K := K)) := ⟨f19, _, ok_tree F19 T dT dW, PySem.W.mg_of X G a19, k19, b19⟩
  have dOP : Cal l.prog w K mg base CX0 2 "_law_odd_path" ["_law_row"] (spOdd (K := K) isPathV) := ⟨f20, _, ok_oddP F20 T dT, PySem.W.mg_of X G a20, k20, b20⟩
  have dOW : Cal l.prog w K mg base CX0 2 "_law_odd_words" ["_law_row"] (spOdd (K := K) isTextV) := ⟨f21, _, ok_oddW F21 T dT, PySem.W.mg_of X G a21, k21, b21⟩
  have dOT : Cal l.prog w K mg base CX0 3 "_law_odd_tree" ["_law_row", "_law_tree_here"] (spOddT (K := K)) := ⟨f22, _, ok_oddT F22 T dT dOP dOW, PySem.W.mg_of X G a22, k22, b22⟩
  have dR : Cal l.prog w K mg base CX0 6 "_law_refused" ["_law_kind", "_law_tree_here", "_law_one_here", "_law_other"] (spRef (K := K)) := ⟨f23, _, ok_ref F23 xc cTextAt cNames cTaken cDiff cPut, PySem.W.mg_of X G a23, k23, b23⟩
  exact ok_law F24 T dT dTr dOT dOP dOW dR
end
theorem walk {l : PySem.W.OpenLaw} {q : Program} {loose : List Str} {XP : (Str → Option Value) → Heap → Prop} {YP : World → Heap → Prop} {d : DefRec} {K : Params → PySem.W.Frag} (hn : l.most = some 63) (hdf : d.params.defaults = [])
    (hY : ∀ (w : World) (h : Heap), YP w h → (K w.params).In h)
    (F : ∀ (w : World) (mg : Str → Option Value) (fa : Addr) (h : Heap), (K w.params).In h → h.Ns mainGlobals mg → mg d.name = some (.ref fa) →
      ∃ fd : FuncData, (∀ (s : Shared) (u : Value), BindsTo s fd ⟨[u], []⟩ [("_law_script", u)]) ∧ ∀ base : Heap, (K w.params).In base → base.Ns mainGlobals mg → FnOk l.prog w (K w.params) mg base CX0 7 fa fd ["_law_script"] (spLaw (K w.params))) :
    PySem.W.WalkO q loose XP YP l.row.toRowW d [] (fun f vs => PySem.call f vs) :=
  L2.walk_of (n := 63) (k := 7) (x := "_law_script") (CX := fun _ => CX0) (sp := fun w => spLaw (K w.params)) hn (by decide) hdf ⟨rfl, by decide, by decide⟩ hY F (fun _ H a ns hl hO hS => by
    refine ⟨a, ns, rfl, ?_, fun _ => rfl⟩
    rcases hS with (h | ⟨o, h⟩) | h
    · rcases hO a with z | ⟨o, xs, z⟩
      · rw [h] at z; cases z
      · rw [h] at z; cases z
    · exact .inl ⟨o, h⟩
    · exact .inr h) fun _ _ _ _ _ z => z
end Bl
open PySem PySem.W PyProof.Rows
set_option maxRecDepth 100000 in
set_option maxHeartbeats 0 in
theorem PySem.Challenge.cw_buildroom_k00_trees_refused_holds : PySem.Challenge.rw_buildroom_k00_trees_refused.Holds := by
  w_on; o_law; k_head; (case hw => w_witness2)
  k_fill
  refine Bl.walk (l := PySem.Challenge.rw_buildroom_k00_trees_refused) rfl rfl (fun w h Y => PySem.W.kIn_of Y) ?F
  case F =>
    intro w mg fa h KX G hmg
    refine' Bl.all_mk KX G hmg ?aHS ?lHS ?cHS ?kHS ?a0 ?l0 ?c0 ?k0 ?a1 ?l1 ?c1 ?k1 ?a2 ?l2 ?c2 ?k2 ?a3 ?l3 ?c3 ?k3 ?a4 ?l4 ?c4 ?k4 ?a5 ?l5 ?c5 ?k5 ?a6 ?l6 ?c6 ?k6 ?a7 ?l7 ?c7 ?k7 ?a8 ?l8 ?c8 ?k8 ?a9 ?l9 ?c9 ?k9 ?a10 ?l10 ?c10 ?k10 ?a11 ?l11 ?c11 ?k11 ?a12 ?l12 ?c12 ?k12 ?a13 ?l13 ?c13 ?k13 ?a14 ?l14 ?c14 ?k14 ?a15 ?l15 ?c15 ?k15 ?a16 ?l16 ?c16 ?k16 ?a17 ?l17 ?c17 ?k17 ?a18 ?l18 ?c18 ?k18 ?a19 ?l19 ?c19 ?k19 ?a20 ?l20 ?c20 ?k20 ?a21 ?l21 ?c21 ?k21 ?a22 ?l22 ?c22 ?k22 ?a23 ?l23 ?c23 ?k23 ?a24 ?l24 ?c24 ?k24 ?aT ?xT ?rT ?saT ?gaT ?ggT ?nbT ?iT ?tI ?lI ?cI ?kI ?hdT ?kkT ?bbT ?tyT ?icT ?aP ?qP ?kkP ?bbP ?tyP ?icP ?aF ?qF ?kkF ?bbF ?tyF ?icF ?aW ?qW ?kkW ?bbW ?tyW ?icW ?stt ?spt ?sft ?swt ?spp ?sfp ?swp ?sff ?swf ?sww ?z0 ?z1 ?z2 ?z3 ?z4 ?z5 ?z6 ?z7 ?z8 ?z9 ?v0 ?v1 ?v2 ?v3
    (case aHS => k_is)
    (case lHS => k_is)
    (case cHS => k_is)
    (case kHS => k_is)
    (case a0 => k_is)
    (case l0 => k_is)
    (case c0 => k_is)
    (case k0 => k_is)
    (case a1 => k_is)
    (case l1 => k_is)
    (case c1 => k_is)
    (case k1 => k_is)
    (case a2 => k_is)
    (case l2 => k_is)
    (case c2 => k_is)
    (case k2 => k_is)
    (case a3 => k_is)
    (case l3 => k_is)
    (case c3 => k_is)
    (case k3 => k_is)
    (case a4 => k_is)
    (case l4 => k_is)
    (case c4 => k_is)
    (case k4 => k_is)
    (case a5 => k_is)
    (case l5 => k_is)
    (case c5 => k_is)
    (case k5 => k_is)
    (case a6 => k_is)
    (case l6 => k_is)
    (case c6 => k_is)
    (case k6 => k_is)
    (case a7 => k_is)
    (case l7 => k_is)
    (case c7 => k_is)
    (case k7 => k_is)
    (case a8 => k_is)
    (case l8 => k_is)
    (case c8 => k_is)
    (case k8 => k_is)
    (case a9 => k_is)
    (case l9 => k_is)
    (case c9 => k_is)
    (case k9 => k_is)
    (case a10 => k_is)
    (case l10 => k_is)
    (case c10 => k_is)
    (case k10 => k_is)
    (case a11 => k_is)
    (case l11 => k_is)
    (case c11 => k_is)
    (case k11 => k_is)
    (case a12 => k_is)
    (case l12 => k_is)
    (case c12 => k_is)
    (case k12 => k_is)
    (case a13 => k_is)
    (case l13 => k_is)
    (case c13 => k_is)
    (case k13 => k_is)
    (case a14 => k_is)
    (case l14 => k_is)
    (case c14 => k_is)
    (case k14 => k_is)
    (case a15 => k_is)
    (case l15 => k_is)
    (case c15 => k_is)
    (case k15 => k_is)
    (case a16 => k_is)
    (case l16 => k_is)
    (case c16 => k_is)
    (case k16 => k_is)
    (case a17 => k_is)
    (case l17 => k_is)
    (case c17 => k_is)
    (case k17 => k_is)
    (case a18 => k_is)
    (case l18 => k_is)
    (case c18 => k_is)
    (case k18 => k_is)
    (case a19 => k_is)
    (case l19 => k_is)
    (case c19 => k_is)
    (case k19 => k_is)
    (case a20 => k_is)
    (case l20 => k_is)
    (case c20 => k_is)
    (case k20 => k_is)
    (case a21 => k_is)
    (case l21 => k_is)
    (case c21 => k_is)
    (case k21 => k_is)
    (case a22 => k_is)
    (case l22 => k_is)
    (case c22 => k_is)
    (case k22 => k_is)
    (case a23 => k_is)
    (case l23 => k_is)
    (case c23 => k_is)
    (case k23 => k_is)
    (case a24 => k_is)
    (case l24 => k_is)
    (case c24 => k_is)
    (case k24 => k_is)
    (case aT => k_is)
    (case xT => k_is)
    (case rT => rfl)
    (case saT => k_is)
    (case gaT => k_is)
    (case ggT => k_is)
    (case nbT => k_is)
    (case iT => k_is)
    (case tI => k_is)
    (case lI => k_is)
    (case cI => k_is)
    (case kI => k_is)
    (case hdT => k_is)
    (case kkT => k_is)
    (case bbT => k_is)
    (case tyT => k_is)
    (case icT => k_is)
    (case aP => k_is)
    (case qP => k_exc)
    (case kkP => k_is)
    (case bbP => k_is)
    (case tyP => k_is)
    (case icP => k_is)
    (case aF => k_is)
    (case qF => k_exc)
    (case kkF => k_is)
    (case bbF => k_is)
    (case tyF => k_is)
    (case icF => k_is)
    (case aW => k_is)
    (case qW => k_exc)
    (case kkW => k_is)
    (case bbW => k_is)
    (case tyW => k_is)
    (case icW => k_is)
    (case stt => first | rfl | k_is)
    (case spt => first | rfl | k_is)
    (case sft => first | rfl | k_is)
    (case swt => first | rfl | k_is)
    (case spp => first | rfl | k_is)
    (case sfp => first | rfl | k_is)
    (case swp => first | rfl | k_is)
    (case sff => first | rfl | k_is)
    (case swf => first | rfl | k_is)
    (case sww => first | rfl | k_is)
    (case z0 => k_is)
    (case z1 => k_is)
    (case z2 => k_is)
    (case z3 => k_is)
    (case z4 => k_is)
    (case z5 => k_is)
    (case z6 => k_is)
    (case z7 => k_is)
    (case z8 => k_is)
    (case z9 => k_is)
    (case v0 => k_is)
    (case v1 => k_is)
    (case v2 => k_is)
    (case v3 => k_is)
