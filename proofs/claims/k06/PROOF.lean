import PyProof.Rows.All
import Wide.All
import OpenK.AllK
import Wide.FinOn
import PyProof.EqAt
import PyProof.EqKinds
import PyProof.TupleCall
import HandS.Base
import HandS.Call
import HandS.Exc
import HandS.TryMany
import HandS.ExcOwn
import PyProof.Draws
import KE.GoesMore
import KE.GoesEnum
import HandS.List
import HandS.Dict
import HandS.Iter
import PyProof.NeKinds
import HandS.Text
import HandS.ForMost
import HandS.TryOnly
import HandS.WordsExc
import HandS.IsInst
import HandS.Walk
import HandS.TupAny
import HandS.ExcInit
import HandS.ExcField
import HandS.Evl
import HandS.Property
import HandS.OwnEq
import HandS.TupMul
import HandS.RepeatKit
import HandS.More
import HandS.Zip
import PyProof.InstSpecial
import KE.KDictPairs
import HandS.Head0
import HandS.Head1
import HandS.Head2
import HandS.HeadEnd
import HandS.HeadHook1
import HandS.HeadHook2
import HandS.HeadHook3
import PySem.Challenge.RW_buildroom_k06_questions_refused
import PyProof.StrBlock2
import KE.DataEq
import HandS.DictComp
import HandS.Deep
import PyProof.P3In
set_option Elab.async false
set_option linter.all false
set_option maxRecDepth 100000
set_option maxHeartbeats 8000000
namespace Bk
open PySem PySem.Spec PyProof.Rows L2

/-! ## try with several clauses, some of them «as n» -/
abbrev Cl := Value × Option Nat × (Addr → Value → Option Addr → TS)
def clEnds (n : Option Nat) (D : Ends) : Ends := match n with
  | none => D
  | some i => { nx := fun τ G => D.nx (τ.set i none) G, rt := D.rt, bk := fun τ G => D.bk (τ.set i none) G, ct := fun τ G => D.ct (τ.set i none) G }
def clSlots (n : Option Nat) (τ : L2.St) (a : Addr) : L2.St := match n with
  | none => τ
  | some i => τ.set i (some (.ref a))
def wMix (K : PySem.W.Frag) (Wo : WX) (D : Ends) : List Cl → WX
  | [] => Wo
  | (c, n, ts) :: r => fun cls d τ G => ∃ b, PySem.W.exmOne K cls c = some b ∧
      (b = true → ∀ a, G a = none → ts a cls d (clEnds n D) (clSlots n τ a) G) ∧ (b = false → wMix K Wo D r cls d τ G)
inductive HMix (X : Cx) : List ExceptHandler → List Cl → Prop
  | nil : HMix X [] []
  | bare {x : Str} {c : Value} {ts : Addr → Value → Option Addr → TS} {b0 : Stmt} {bs : List Stmt} {q1 q2 : Pos} {hs : List ExceptHandler} {l : List Cl} (hc : Names X x c)
      (su : ∀ (a : Addr) (oe : Obj) (cls : Value) (d : Option Addr) (pn : List (Addr × Obj)), Zc cls d oe → (∃ vs, oe.data = .fields vs) → PSs (X.suite a ((a, oe) :: pn)) (b0 :: bs) (ts a cls d)) (r : HMix X hs l) :
      HMix X (.ExceptHandler (some (.Name x q1)) none (b0 :: bs) q2 :: hs) ((c, none, ts) :: l)
  | named {x n : Str} {i : Nat} {c : Value} {ts : Addr → Value → Option Addr → TS} {b0 : Stmt} {bs : List Stmt} {q1 q2 : Pos} {hs : List ExceptHandler} {l : List Cl} (hc : Names X x c)
      (hi : X.N[i]? = some n) (hl : X.env.kindOf n = some .local)
      (su : ∀ (a : Addr) (oe : Obj) (cls : Value) (d : Option Addr) (pn : List (Addr × Obj)), Zc cls d oe → (∃ vs, oe.data = .fields vs) → PSs (X.suite a ((a, oe) :: pn)) (b0 :: bs) (ts a cls d)) (r : HMix X hs l) :
      HMix X (.ExceptHandler (some (.Name x q1)) (some n) (b0 :: bs) q2 :: hs) ((c, some i, ts) :: l)
section
variable {X : Cx} {body : List Stmt} {h0 : ExceptHandler} {hs : List ExceptHandler} {l : List Cl} {pos : Pos} {tb : WX → TS} {Wo : WX}
theorem ps_try_mix (st : X.stack = X.env :: X.outer) (fr : X.env.frame = some X.env.locals) (nd : X.N.Nodup) (tk : Takes X Wo)
    (hb : ∀ (W : WX) (pn : List (Addr × Obj)) (xe : Value → Shared → Prop), Takes (X.tr pn xe) W → PassesOwn (model X.prog X.w) X.A X.env xe → PSs (X.tr pn xe) body (tb W))
    (hh : HMix X (h0 :: hs) l) : PS X (.Try body (h0 :: hs) [] [] pos) (fun D τ G => tb (wMix X.K Wo D l) D τ G) := by
  refine ⟨fun pins s τ G D I h => ?_⟩
  have ok := I.ok
  have fram : X.A.frames = some (X.env :: X.outer) := by rw [ok.frames, st]
  refine wpAny_Try_except ?_
  refine wpAny_mono ((hb (wMix X.K Wo D l) (X.pn ++ pins) (fun e s1 => wpAny (model X.prog X.w) X.A (noteFrame e X.env) (fun _ s2 =>
    wpAny (model X.prog X.w) X.A (setFlight e none) (fun _ s3 => wpAny (model X.prog X.w) X.A (handleBy e X.env (h0 :: hs)) (SP X pins D) X.xe s3) X.xe s2) X.xe s1)
    (fun u s' xx => ?caught) PassesOwn.looking).run [] s τ G D (I.toTry _) h) (fun f s1 sp => ?through) (fun e s1 z => z)
  case through =>
    cases f with
    | next =>
      obtain ⟨τ', G', J, q⟩ := sp
      exact wpAny_execs_nil ⟨τ', G', J.ofTry ok, q⟩
    | brk => obtain ⟨τ', G', J, q⟩ := sp; exact ⟨τ', G', J.ofTry ok, q⟩
    | cont => obtain ⟨τ', G', J, q⟩ := sp; exact ⟨τ', G', J.ofTry ok, q⟩
    | ret u => obtain ⟨v, τ', G', J, r, q⟩ := sp; exact ⟨v, τ', G', J.ofTry ok, r, q⟩
  case caught =>
    obtain ⟨a, B, sI, pins1, τ1, G1, cls, d, rfl, J0, nb, up, sky, na, os, ag, w⟩ := xx
    have J : Inv X pins τ1 G1 sI := J0.ofTry ok
    have sky1 : Sky B (X.env :: X.outer) a (Zc cls d) X.env.locals s'.heap := by rw [← st]; exact sky
    show wpAny (model X.prog X.w) X.A (noteFrame (.ref a) X.env) _ _ _
    refine Sky.land Zc.steady fram fr sky1 fun g3 fl3 up3 => ?_
    have J3 : Inv X pins τ1 G1 { s' with heap := g3 } := J.landed nb fl3.1 (up.trans up3) os ag
    obtain ⟨o3, v3, e3, z3, d3⟩ := fl3.there
    have nofr : a ∉ frs (X.env :: X.outer) := fun hm => by
      obtain ⟨_, o', e', hn⟩ := fl3.2.2.1.mem hm
      rw [e3] at e'
      cases e'
      exact hn _ d3
    have nL : a ≠ X.env.locals := fun z => nofr (List.mem_filterMap.mpr ⟨X.env, List.mem_cons_self, by rw [fr, z]⟩)
    have nF : a ∉ X.fs := fun hm => by
      obtain ⟨e, he, q⟩ := List.mem_filterMap.mp hm
      exact nofr (List.mem_filterMap.mpr ⟨e, List.mem_cons_of_mem _ he, q⟩)
    have S3 := J3.suite e3 d3 na nL nF
    have typ : PySem.W.Looks (model X.prog X.w) g3 (typeOf (.ref a)) cls := fun A Q E s k q => wpAny_typeOf_ref (k _ _ e3) (by rw [z3.1]; exact q)
    have named : ∀ {x : Str} {c : Value} {np : Pos} {Q E : Value → Shared → Prop}, Names X x c → Q c { s' with heap := g3 } →
        wpAny (model X.prog X.w) (X.A.mark (some (.ref a))) (eval (.Name x np) X.env) Q E { s' with heap := g3 } := fun {x c np Q E} hc q => by
      obtain ⟨hg, hdbg, hm | ⟨hm, hv, hnn⟩⟩ := hc
      · exact ld_glob (X := X.suite a ((a, o3) :: (X.pn ++ pins))) S3 hg hm q hdbg
      · exact ld_blt (X := X.suite a ((a, o3) :: (X.pn ++ pins))) S3 hg hm hv q hnn hdbg
    have go : ∀ {hs1 : List ExceptHandler} {l1 : List Cl}, HMix X hs1 l1 → wMix X.K Wo D l1 cls d τ1 G1 →
        wpAny (model X.prog X.w) X.A (handleBy (.ref a) X.env hs1) (SP X pins D) X.xe { s' with heap := g3 } := by
      intro hs1 l1 hk
      induction hk with
      | nil =>
        intro w
        refine wpAny_handleBy_nil ?_
        obtain ⟨k1, k2, k3, oe, vs, T, oT, ts', he, hz, hd, h1, hr⟩ := id fl3
        unfold PySem.passOn
        refine wpAny_bind (wpAny_field he hd h1 ?_)
        rw [if_neg (show ¬ ((Value.ref T == Value.none) = true) from by simp)]
        have fin : wpAny (model X.prog X.w) X.A (setFlight (.ref a) X.env.frame) (fun _ s4 => wpAny (model X.prog X.w) X.A (throw (.ref a) : Sem Flow) (SP X pins D) X.xe s4) X.xe { s' with heap := g3 } := by
          rw [fr]
          refine HandSPX.setFlight_upZ fl3 fun g4 hh4 up4 => wpAny_throw (tk _ _ ?_)
          exact ⟨a, B, sI, pins, τ1, G1, cls, d, rfl, J, nb, (up.trans up3).trans up4, .inr (.inr (by rw [st]; exact hh4)), na, os, ag, w⟩
        first
          | exact wpAny_bind (wpAny_pure (wpAny_bind fin))
          | exact wpAny_bind fin
      | @bare x c ts b0 bs q1 q2 hs2 l2 hc su r ih =>
        rintro ⟨b, hb1, yes, no⟩
        have LM := PySem.W.exm_one (M := model X.prog X.w) (J3.kIn) typ hb1
        refine wpAny_handleBy_cons (codeAny_handlers_test ?_) (by intro q; cases q)
        refine named hc (LM.here ?_)
        cases b with
        | false =>
          show wpAny _ X.A (handleBy (.ref a) X.env hs2) _ _ _
          exact ih (no rfl)
        | true =>
          refine codeAny_handlers_suite ?_
          refine HandSPX.lands_againZ fl3 fun g4 fl4 up4 => ?_
          have J4 : Inv X pins τ1 G1 { s' with heap := g4 } := J.landed nb fl4.1 ((up.trans up3).trans up4) os ag
          obtain ⟨o4, v4, e4, z4, d4⟩ := fl4.there
          have S4 := J4.suite e4 d4 na nL nF
          refine wpAny_mono ((su a o4 cls d (X.pn ++ pins) z4 ⟨_, d4⟩).run [] _ _ G1 _ S4 (yes rfl a na)) (fun f s6 sp => ?_) (fun _ _ z => False.elim z)
          cases f with
          | next => obtain ⟨t6, G6, S6, q6⟩ := sp; exact ⟨_, _, S6.unsuite ok, q6⟩
          | brk => obtain ⟨t6, G6, S6, q6⟩ := sp; exact ⟨_, _, S6.unsuite ok, q6⟩
          | cont => obtain ⟨t6, G6, S6, q6⟩ := sp; exact ⟨_, _, S6.unsuite ok, q6⟩
          | ret u => obtain ⟨v6, t6, G6, S6, r6, q6⟩ := sp; exact ⟨_, _, _, S6.unsuite ok, r6, q6⟩
      | @named x n i c ts b0 bs q1 q2 hs2 l2 hc hi hl su r ih =>
        rintro ⟨b, hb1, yes, no⟩
        have LM := PySem.W.exm_one (M := model X.prog X.w) (J3.kIn) typ hb1
        refine wpAny_handleBy_cons (codeAny_handlers_test ?_) (by intro q; cases q)
        refine named hc (LM.here ?_)
        cases b with
        | false =>
          show wpAny _ X.A (handleBy (.ref a) X.env hs2) _ _ _
          exact ih (no rfl)
        | true =>
          refine codeAny_handlers_suite_as ?_
          refine HandSPX.lands_againZ fl3 fun g4 fl4 up4 => ?_
          have J4 : Inv X pins τ1 G1 { s' with heap := g4 } := J.landed nb fl4.1 ((up.trans up3).trans up4) os ag
          obtain ⟨o4, v4, e4, z4, d4⟩ := fl4.there
          have S4 := J4.suite e4 d4 na nL nF
          refine store_ok (X := X.suite a ((a, o4) :: (X.pn ++ pins))) (v := .ref a) S4 nd hi (.inl hl) rfl (fun s5 S5 => ?_) (.inr hl)
          refine wpAny_mono ((su a o4 cls d (X.pn ++ pins) z4 ⟨_, d4⟩).run [] s5 _ G1 _ S5 (yes rfl a na)) (fun f s6 sp => ?_) (fun _ _ z => False.elim z)
          have fin : ∀ {t6 : L2.St} {G6 : Hp} {Q : Shared → Prop}, Inv (X.suite a ((a, o4) :: (X.pn ++ pins))) [] t6 G6 s6 → (∀ s7, Inv X pins (t6.set i none) G6 s7 → Q s7) →
              wpAny (model X.prog X.w) X.A (do bindName X.env n .none; unbindBehindTheSuite X.env n q2) (fun _ s7 => Q s7) X.xe s6 := fun {t6 G6 Q} S6 hq => gone_ok (S6.unsuite ok) nd hi hl hq
          cases f with
          | next => obtain ⟨t6, G6, S6, q6⟩ := sp; exact fin S6 fun s7 J7 => ⟨_, _, J7, q6⟩
          | brk => obtain ⟨t6, G6, S6, q6⟩ := sp; exact fin S6 fun s7 J7 => ⟨_, _, J7, q6⟩
          | cont => obtain ⟨t6, G6, S6, q6⟩ := sp; exact fin S6 fun s7 J7 => ⟨_, _, J7, q6⟩
          | ret u => obtain ⟨v6, t6, G6, S6, r6, q6⟩ := sp; exact fin S6 fun s7 J7 => ⟨_, _, _, J7, r6, q6⟩
    exact go hh w
end

/-! ## f(e, ..) where f is any expression that gives a def -/
structure CanCall (X : Cx) (CX : CXT) (k : Nat) (f : Addr) (sp : Sp) : Prop where
  ex : ∃ (fd : FuncData) (ps : List Str), FnOk X.prog X.w X.K X.mg X.base CX k f fd ps sp ∧ PySem.W.keepIn X.K (.ref f) = true ∧ Binds X.K fd ps []
/-- the promise goes with the address: S f sp -/
def tCallE (S : Addr → Sp → Prop) (E : L2.St → XK) (tf : TE) (t : TA) : TE := fun σ H Q => tf σ H fun y H1 => ∃ f sp, y = .ref f ∧ S f sp ∧ t σ H1 fun vs H2 => sp vs H2 Q (E σ)
section
variable {X : Cx} {CX : CXT} {k : Nat} {S : Addr → Sp → Prop} {E : L2.St → XK} {fe e : Expr} {es : List Expr} {tf : TE} {t : TA} {pos : Pos}
theorem pe_callE (hf : PE X fe tf) (A : ∀ f sp, S f sp → CanCall X CX k f sp) (hr : Room k X.A) (hx : ∀ σ, PassesAt CX X σ (E σ)) (ha : PA X (e :: es) t)
    (ht : eval (.Call fe (e :: es) [] pos) X.env = (do callWith pos (← eval fe X.env) [] (backTo pos (starEach (e :: es) X.env)) (backToKw pos (keywordEach [] X.env))) := by rfl)
    (he : starEach (e :: es) X.env = (false, eval e X.env) :: starEach es X.env := by rfl) (hpl : (backTo pos (starEach es X.env)).any (·.1) = false := by rfl) :
    PE X (.Call fe (e :: es) [] pos) (tCallE S E tf t) := by
  refine ⟨fun pins s σ H Q I h => ?_⟩
  rw [ht]
  refine wpAny_bind (thn (hf.run pins s σ H _ I h) fun u s1 q1 => ?_)
  obtain ⟨y, H1, I1, ry, f, sp, ey, hs, q⟩ := q1
  subst ey
  cases ry
  obtain ⟨fd, ps, F, hk, hb⟩ := (A f sp hs).ex
  refine PySem.W.callWith_K (h₀ := X.base) I.ok.mod.kin hk (thn (ha.run pos pins s1 σ H1 _ I1 q) fun us s2 q2 => ?_) he hpl
  obtain ⟨vs, H2, I2, r, q3⟩ := q2
  exact ⟨I2.kIn, run_fnS F hr hb (hx σ) I2 r q3⟩
end
end Bk
namespace Bk
open PySem PySem.Spec PyProof.Rows L2

/-! ## for i, x in enumerate(a tuple) -/
set_option maxHeartbeats 4000000 in
theorem enum_new1 {v : Value} {o : Obj} {G : Heap → Prop} (B : Begins v o G) :
    Meets (Builtin.«enumerate.__new__» ⟨[.type "enumerate", v], []⟩) (fun _ R s => G s.heap ∧
      R (.ok (.ret (.ref (s.heap.push o).objs.size))) { s with heap := (s.heap.push o).push { cls := .type "enumerate", data := .fields #[.none, .bool false, .ref s.heap.objs.size, rawInt 0, .none, .none] } }) :=
  .of_wp fun prog w A R s h => by
    obtain ⟨hp, g, d, tk, os⟩ := s
    obtain ⟨h1, h⟩ := h
    have hsub := sub_enumerate
    have it0 : ∀ {A' : Around} {E : Value → Shared → Prop} {Q : Value → Shared → Prop}, Q (.ref hp.objs.size) ⟨hp.push o, g, d, tk, os⟩ → wpAny (model prog w) A' (pyIter v) Q E ⟨hp, g, d, tk, os⟩ :=
      fun q => B.iter prog w _ _ ⟨hp, g, d, tk, os⟩ _ h1 q
    wp_walk using it0
    refine wpAny_stack_any fun st => wpAny_pure ?_
    split
    · rename_i c _ _ _ _ _
      cases (c == Value.type "enumerate") <;> (wp_walk using it0; exact ⟨_, rfl, h⟩)
    · wp_walk using it0
      exact ⟨_, rfl, h⟩
section
variable {prog : Program} {w : World} {A : Around} {E : Value → Shared → Prop} {s : Shared}
theorem enum_call1 {v : Value} {o : Obj} {G : Heap → Prop} {Q : Value → Shared → Prop} (B : Begins v o G) (h1 : G s.heap)
    (h : ∀ g, IsEnum g (s.heap.objs.size + 1) s.heap.objs.size 0 .none → g.get? s.heap.objs.size = some o → g.objs.size = s.heap.objs.size + 2 →
      (∀ b o, s.heap.get? b = some o → g.get? b = some o) → Q (.ref (s.heap.objs.size + 1)) { s with heap := g }) :
    wpAny (model prog w) A (call (.type "enumerate") [v]) Q E s := by
  refine callType_new F.called_enumerate (by decide) (F.typeCall_enumerate_1 _) (F.newCall_enumerate_1 _) (fun obj => F.args_object_init_2 obj _) F.entry_enumerate_new (enum_new1 B) ⟨h1, ?_⟩
  have z : (s.heap.push o).objs.size = s.heap.objs.size + 1 := Heap.size_push ..
  show _ ∧ _
  rw [z]
  have e0 := Heap.get?_push_size (s.heap.push o) (o := { cls := .type "enumerate", data := .fields #[.none, .bool false, .ref s.heap.objs.size, rawInt 0, .none, .none] }) rfl
  rw [z] at e0
  exact ⟨⟨_, e0, rfl⟩, h _ e0 (Heap.get?_push_of_some _ (Heap.get?_push_size _ B.free)) (by rw [Heap.size_push, z]) fun b o x => Heap.get?_push_of_some _ (Heap.get?_push_of_some _ x)⟩
end
/-- the tuple at a, each item in a new pair -/
def ItEt (K : PySem.W.Frag) (a : Addr) : It :=
  ⟨fun i G => ∃ (xs : List V) (x : V), SqT K G a xs ∧ xs[i]? = some x,
   fun i G v G' => ∃ T x, v = .ref T ∧ G T = none ∧ G' = upd G T (.tup [.int (i : Nat), x]) ∧ ∀ xs, SqT K G a xs → xs[i]? = some x,
   fun i G => ∃ xs : List V, SqT K G a xs ∧ xs.length ≤ i⟩
theorem turn_enumT {P : Program} {w : World} {K : PySem.W.Frag} {elts : List Expr} {kk : Nat} {tpos : Pos} (a e it : Addr) (hai : a ≠ it) (hea : e ≠ a) :
    Turn P w K (.Tuple elts kk tpos) (ItEt K a) [e, it] e (fun i g => (∃ old, IsEnum g e it ((i : Nat) : Int) old) ∧ g.IsTupleIter it a i ∧ e ≠ it) where
  mem := by simp
  obj := fun i g st b hb => by
    obtain ⟨⟨old, he⟩, ⟨o, ho, hc, hd⟩, _⟩ := st
    have two : b = e ∨ b = it := by simpa using hb
    rcases two with z | z
    · rw [z]; exact ⟨_, he, fun v q => nomatch q⟩
    · rw [z]; exact ⟨o, ho, fun v q => by rw [hd] at q; cases q⟩
  keep := fun i g g' st k => let ⟨⟨old, he⟩, hi, hne⟩ := st; ⟨⟨old, k e (by simp) _ he⟩, hi.at fun o q => k it (by simp) o q, hne⟩
  item := by
    intro X eP ew eK hc i pins s τ G E I hf st hg
    subst eP ew eK
    obtain ⟨⟨old, he⟩, hit, hne⟩ := st
    obtain ⟨xs, x, hq, hx⟩ := hg
    obtain ⟨its, rv, p, hz⟩ := I.tuple hq
    obtain ⟨u, hu, ru⟩ := rv.get hx
    have hel : e < s.heap.objs.size := Heap.lt_size he
    have hil : it < s.heap.objs.size := by obtain ⟨_, q, _⟩ := hit; exact Heap.lt_size q
    have lt : i < its.toArray.size := by
      have l1 := (List.getElem?_eq_some_iff.mp hu).1
      simpa using l1
    have tup : s.heap.IsTuple a its.toArray := p
    refine wpAny_pyNext_enum_itemD (Draws.tuple (show X.A.in1.handled = none from I.ok.hd hc) it a hai its.toArray) he ⟨hit, tup⟩ lt hne (by simp [hne, hea]) fun y g' tk hy ho hst hT hsz hk => ?_
    obtain rfl : u = y := by
      have h1 : its.toArray[i]? = some u := by simpa using hu
      exact Option.some.inj (h1.symm.trans hy)
    refine ⟨_, rfl, wpAny_letOwnedTupleGo_enum (s := { s with heap := g', toks := tk + 1 }) ho fun g2 he2 sb => ?_⟩
    have hT2 : g2.get? s.heap.objs.size = some { cls := .type "tuple", data := .seq #[.int i tk, u] } := (sb.2 _ (Nat.ne_of_gt hel)).trans hT
    have new : ObjOk X.prog X.w (upd G s.heap.objs.size (.tup [.int (i : Nat), x])) g2 s.heap.objs.size (.tup [.int (i : Nat), x]) :=
      ⟨by show 2 ≤ sizeLine; decide, [.int i tk, u], .cons ⟨_, rfl⟩ (.cons ru .nil), ⟨_, hT2, rfl, _, rfl⟩⟩
    have I1 : Inv X pins τ (upd G s.heap.objs.size (.tup [.int (i : Nat), x])) { s with heap := g2, toks := tk + 1 } :=
      I.turnedNew (ch := [e, it]) (fun b ob hb q => (sb.2 b (fun z => hb (by simp [z]))).trans (hk b ob (fun z => hb (by simp [z])) (fun z => hb (by simp [z])) q)) hf (Nat.le_refl _) new
    refine ⟨.ref s.heap.objs.size, _, I1, rfl, ⟨_, x, rfl, I.hok.fresh (Nat.le_refl _), rfl, fun ys hy => by rw [I.tuple_inj hy hq]; exact hx⟩, ⟨⟨u, ?_⟩, hst.1.at fun o q => (sb.2 it (Ne.symm hne)).trans q, hne⟩, fun b hb => ?_⟩
    · have e1 : ((i + 1 : Nat) : Int) = (i : Int) + 1 := by omega
      rw [e1]
      exact he2
    · have two : b = e ∨ b = it := by simpa using hb
      have lt2 : b < s.heap.objs.size := by
        rcases two with z | z
        · rw [z]; exact hel
        · rw [z]; exact hil
      rw [upd_ne (Nat.ne_of_lt lt2)]
      exact (hf b hb).1
  done := by
    intro X eP ew eK hc i pins s τ G E I hf st hg
    subst eP ew eK
    obtain ⟨⟨old, he⟩, hit, hne⟩ := st
    obtain ⟨xs, hq, hx⟩ := hg
    obtain ⟨its, rv, p, hz⟩ := I.tuple hq
    obtain ⟨f0, f1, f2, f3, f4, f5⟩ := hf it (by simp)
    have tup : s.heap.IsTuple a its.toArray := p
    have hl := rv.length
    have hT : s.TypeIs (.ref e) "enumerate" := ⟨_, he, rfl⟩
    unfold pyNext
    refine wpAny_bind (wpAny_attempt (wpAny_callSpecial?_slot (name := Str.ofString "__next__") hT F.slot_enumerate_next (wpAny_call_entry F.slot_enumerate_next hT F.entry_enumerate_next ?_ (F.args_enumerate_next_1 _))))
    show wpAny _ _ (field (.ref e) 2 >>= _) _ _ _
    refine wpAny_bind (wpAny_field he rfl (x := .ref it) rfl ?_)
    refine wpAny_bind (wpAny_nextOf_tuple_end (show X.A.in1.handled = none from I.ok.hd hc) hit tup (by simp; omega) fun g' x' eb hx' => ?_)
    obtain ⟨o, ho, hc'⟩ := hx'
    refine wpAny_bind (wpAny_isInstance (T := "StopIteration") (b := true) ⟨o, ho, hc'⟩ isSubtype_stop ?_)
    exact wpAny_pure ⟨rfl, I.turned (t' := s.toks) (fun b o hb q => eb b o hb q) f0 f1 f3 f4 f5⟩
  self := fun A i s Q E st h => let ⟨⟨_, he⟩, _⟩ := st; wpAny_pyIter_enum he h
def iEnumT (K : PySem.W.Frag) (ta : TA) : TI := fun τ G R => ta τ G fun vs G1 => ∃ a xs, vs = [.ref a] ∧ SqT K G1 a xs ∧ R (ItEt K a) G1
theorem pi_enumT {X : Cx} {e : Expr} {ta : TA} {p pos tpos : Pos} {elts : List Expr} {kk : Nat} (hg : Gl X "enumerate") (hm : X.mg "enumerate" = none) (ha : PA X [e] ta) (hs : starEach [e] X.env = [(false, eval e X.env)] := by rfl) :
    PI X (.Tuple elts kk tpos) (.Call (.Name "enumerate" p) [e] [] pos) (iEnumT X.K ta) := by
  refine ⟨fun pins s τ G R I h => ?_⟩
  refine Call_ (ld_blt I hg hm boot_enumerate (PyProof.Rows.callWith_type1 (thn (ha.run pos pins s τ G _ I h) fun us s1 q0 => ?_) hs rfl))
  obtain ⟨vs, G1, I1, r1, a, xs, ex, hq, q⟩ := q0
  subst ex
  cases r1 with
  | cons r rr =>
    cases rr
    cases r
    obtain ⟨its, rv, p', hz⟩ := I1.tuple hq
    have tup : s1.heap.IsTuple a its.toArray := p'
    have hlt : a < s1.heap.objs.size := by obtain ⟨o, eo, _⟩ := tup; exact Heap.lt_size eo
    refine enum_call1 (begins_tuple a its.toArray) tup fun g he hit hsz hk => wpAny_pyIter_enum he ?_
    have I2 : Inv X pins τ G1 { s1 with heap := g } := I1.kept (t' := s1.toks) hk
    refine ⟨s1.heap.objs.size + 1, [s1.heap.objs.size + 1, s1.heap.objs.size], _, _, G1, rfl, I2, turn_enumT a (s1.heap.objs.size + 1) s1.heap.objs.size (Nat.ne_of_lt hlt) (Nat.ne_of_gt (Nat.lt_succ_of_lt hlt)),
      ⟨⟨.none, he⟩, ⟨_, hit, rfl, rfl⟩, Nat.succ_ne_self _⟩, fun b hb => ?_, q⟩
    have two : b = s1.heap.objs.size + 1 ∨ b = s1.heap.objs.size := by simpa using hb
    have hle : s1.heap.objs.size ≤ b := by
      rcases two with z | z
      · rw [z]; exact Nat.le_add_right _ _
      · rw [z]; exact Nat.le_refl _
    exact I1.fpOk hle (I1.hok.fresh hle)
/-- over a tuple that the body leaves as it is -/
theorem for_enumT {K : PySem.W.Frag} {a : Addr} {xs : List V} {g : TG} {tb : TS} {D : Ends} {τ : L2.St} {G : Hp} (Pv : Nat → L2.St → Hp → Prop) (h0 : Pv 0 τ G) (hl : ∀ i τ G, i ≤ xs.length → Pv i τ G → SqT K G a xs)
    (step : ∀ i x τ G T, xs[i]? = some x → Pv i τ G → G T = none → g (.ref T) τ (upd G T (.tup [.int (i : Nat), x])) fun τ2 G2 => tb { D with nx := Pv (i + 1), ct := Pv (i + 1), bk := D.nx } τ2 G2)
    (last : ∀ τ G, Pv xs.length τ G → D.nx τ G) :
    ∃ W : Nat → Nat → L2.St → Hp → Prop, (∃ m, W 0 m τ G) ∧ ∀ i m τ G, W i m τ G → ((ItEt K a).stop i G ∧ D.nx τ G) ∨ ((ItEt K a).go i G ∧ ∃ N : L2.St → Hp → Prop,
      (∀ τ' G', N τ' G' → ∃ m', m' < m ∧ W (i + 1) m' τ' G') ∧ ∀ x G', (ItEt K a).yld i G x G' → g x τ G' fun τ2 G2 => tb { D with nx := N, ct := N, bk := D.nx } τ2 G2) := by
  refine ⟨fun i m τ G => m = xs.length - i ∧ i ≤ xs.length ∧ Pv i τ G, ⟨xs.length, by simp, Nat.zero_le _, h0⟩, ?_⟩
  rintro i m τ G ⟨rfl, hi, p⟩
  have q := hl i τ G hi p
  by_cases c : i < xs.length
  · refine .inr ⟨⟨xs, xs[i], q, by simp [c]⟩, Pv (i + 1), fun τ' G' p' => ⟨xs.length - (i + 1), by omega, rfl, c, p'⟩, fun x G' y => ?_⟩
    obtain ⟨T, z, rfl, hT, rfl, hz⟩ := y
    exact step i z τ G T (hz xs q) p hT
  · have e : i = xs.length := by omega
    subst e
    exact .inl ⟨⟨xs, q, Nat.le_refl _⟩, last τ G p⟩

/-! ## a dict against a text -/
theorem deq_str (l : Addr) (o : Obj) (b : Str) (u : Tok) (es : Array DictEntry) (n : Nat) (hd : o.data = .dict es n) (hc : o.cls = .type "dict") :
    Meets (Builtin.«dict.__eq__» ⟨[.ref l, .str b u], []⟩) (fun _ R s => s.heap.get? l = some o ∧ R (.ok (.ret .notImplemented)) s) :=
  .of_wp fun prog w A R s h => by
    obtain ⟨hp, g, d, tk, os⟩ := s
    obtain ⟨hl, h⟩ := h
    obtain ⟨c, dd, dt, sl⟩ := o
    dsimp only at hd hc
    subst hd hc
    have f1 := F.sub_str_dict
    wp_walk using PySem.AutoSeq1.wpAny_loadPart' hl
    exact ⟨_, rfl, h⟩
end Bk
namespace Bk
open PySem PySem.Spec PyProof.Rows L2
theorem dne_str (l : Addr) (o : Obj) (b : Str) (u : Tok) (es : Array DictEntry) (n : Nat) (hd : o.data = .dict es n) (hc : o.cls = .type "dict") :
    Meets (Builtin.«dict.__ne__» ⟨[.ref l, .str b u], []⟩) (fun _ R s => s.heap.get? l = some o ∧ R (.ok (.ret .notImplemented)) s) :=
  .of_wp fun prog w A R s h => by
    obtain ⟨hp, g, d, tk, os⟩ := s
    obtain ⟨hl, h⟩ := h
    obtain ⟨c, dd, dt, sl⟩ := o
    dsimp only at hd hc
    subst hd hc
    have f1 := F.sub_str_dict
    wp_walk using PySem.AutoSeq1.wpAny_loadPart' hl
    exact ⟨_, rfl, h⟩
theorem sne_dict (b : Str) (u : Tok) (l : Addr) (o : Obj) (es : Array DictEntry) (n : Nat) (hd : o.data = .dict es n) :
    Meets (Builtin.«str.__ne__» ⟨[.str b u, .ref l], []⟩) (fun _ R s => s.heap.get? l = some o ∧ R (.ok (.ret .notImplemented)) s) :=
  .of_wp fun prog w A R s h => by
    obtain ⟨hp, g, d, tk, os⟩ := s
    obtain ⟨hl, h⟩ := h
    obtain ⟨c, dd, dt, sl⟩ := o
    dsimp only at hd
    subst hd
    wp_walk using PySem.AutoSeq1.wpAny_loadPart' hl, wpAny_load hl
    exact ⟨_, rfl, h⟩
theorem seq_dict (b : Str) (u : Tok) (l : Addr) (o : Obj) (es : Array DictEntry) (n : Nat) (hd : o.data = .dict es n) :
    Meets (Builtin.«str.__eq__» ⟨[.str b u, .ref l], []⟩) (fun _ R s => s.heap.get? l = some o ∧ R (.ok (.ret .notImplemented)) s) :=
  .of_wp fun prog w A R s h => by
    obtain ⟨hp, g, d, tk, os⟩ := s
    obtain ⟨hl, h⟩ := h
    obtain ⟨c, dd, dt, sl⟩ := o
    dsimp only at hd
    subst hd
    wp_walk using PySem.AutoSeq1.wpAny_loadPart' hl, wpAny_load hl
    exact ⟨_, rfl, h⟩
section
variable {X : Cx}
/-- a tracked dict against a text -/
def rDS (c : Bool) : R2 := fun x y G Q => ∃ a kvs z, x = .ref a ∧ y = .str z ∧ G a = some (.dK kvs) ∧ Q (.bl c) G
theorem dict_obj {pins : List (Addr × Obj)} {τ : L2.St} {G : Hp} {s : Shared} {a : Addr} {kvs : List (Key × V)} (I : Inv X pins τ G s) (h : G a = some (.dK kvs)) :
    ∃ o es n, s.heap.get? a = some o ∧ o.data = .dict es n ∧ o.cls = .type "dict" := by
  obtain ⟨_, _, vs, _, o, es, ep, h1, h2, r⟩ := (show ObjOk X.prog X.w G s.heap a (.dK kvs) from I.hok a _ h)
  exact ⟨o, es, ep, h1, r.1, h2.1⟩
theorem op_ne_ds (hu : X.A.units < cLine) : OpR X (compareOp .NotEq) (rDS true) := by
  intro pins s τ G x y v u Q I rx ry h
  obtain ⟨a, kvs, z, rfl, rfl, ha, q⟩ := h
  cases rx
  obtain ⟨t, rfl⟩ := ry
  obtain ⟨o, es, n, ho, hd, hc⟩ := dict_obj I ha
  show wpAny _ _ (richCompare .NotEq _ _) _ _ s
  exact SeqAt.rc_ne_decline_or (k := false) ⟨o, ho, hc⟩ (typeIs_str s z t) (by decide) F.sub_str_dict F.slot_dict_ne F.slot_str_ne_refl
    (fun _ hq => call_meets F.slot_dict_ne ⟨o, ho, hc⟩ F.entry_dict_ne (F.args_dict_ne_2 _ _) (dne_str a o z t es n hd hc) ⟨ho, hq⟩)
    (fun _ hq => call_meets F.slot_str_ne_refl (typeIs_str s z t) F.entry_str_ne (F.args_str_ne_2 _ _) (sne_dict z t a o es n hd) ⟨ho, hq⟩)
    (fun _ hq => wpAny_of_eq (rfl : isSame (.ref a) (.str z t) = pure false) hq) (.inr hu) ⟨.bl true, G, I, rfl, q⟩
theorem op_eq_ds (hu : X.A.units < cLine) : OpR X (compareOp .Eq) (rDS false) := by
  intro pins s τ G x y v u Q I rx ry h
  obtain ⟨a, kvs, z, rfl, rfl, ha, q⟩ := h
  cases rx
  obtain ⟨t, rfl⟩ := ry
  obtain ⟨o, es, n, ho, hd, hc⟩ := dict_obj I ha
  show wpAny _ _ (richCompare .Eq _ _) _ _ s
  exact SeqAt.rc_eq_decline_or (k := false) ⟨o, ho, hc⟩ (typeIs_str s z t) (by decide) F.sub_str_dict F.slot_dict_eq F.slot_str_eq_refl
    (fun _ hq => call_meets F.slot_dict_eq ⟨o, ho, hc⟩ F.entry_dict_eq (F.args_dict_eq_2 _ _) (deq_str a o z t es n hd hc) ⟨ho, hq⟩)
    (fun _ hq => call_meets F.slot_str_eq_refl (typeIs_str s z t) F.entry_str_eq (F.args_str_eq_2 _ _) (seq_dict z t a o es n hd) ⟨ho, hq⟩)
    (fun _ hq => wpAny_of_eq (rfl : isSame (.ref a) (.str z t) = pure false) hq) (.inr hu) ⟨.bl false, G, I, rfl, q⟩
/-- of two rules for one operator either -/
theorem op_or {f : Value → Value → Sem Value} {r r' : R2} (h : OpR X f r) (h' : OpR X f r') : OpR X f (fun x y G Q => r x y G Q ∨ r' x y G Q) := by
  intro pins s τ G x y v u Q I rx ry q
  rcases q with q | q
  · exact h pins s τ G x y v u Q I rx ry q
  · exact h' pins s τ G x y v u Q I rx ry q
end
end Bk
/-! the mirror of buildroom.paths: what its checks say, over texts -/
namespace Bm
open PySem L2 TL
/-- [a, b, ..] below [c, ..] for single signs -/
theorem lt_one (a b : Nat) : decide (([a] : List Nat) < [b]) = decide (a < b) := by
  rw [Bool.eq_iff_iff, decide_eq_true_eq, decide_eq_true_eq]
  constructor
  · intro h
    cases h with
    | rel h => exact h
    | cons h => cases h
  · intro h
    exact List.Lex.rel h
def sgnN (c : Nat) : Bool := (decide (97 ≤ c) && decide (c ≤ 122)) || (decide (48 ≤ c) && decide (c ≤ 57))
def sgnT (c : Nat) : Bool := (decide (32 ≤ c) && decide (c ≤ 126)) || decide (c = 10)
def nameB (x : Str) : Bool := decide (1 ≤ x.length) && decide (x.length ≤ 6) && x.cps.toList.all sgnN
def partsOf (x : Str) : List Str := Txt.split x (Str.ofString "/")
def pathB (x : Str) : Bool := decide ((partsOf x).length ≤ 3) && (partsOf x).all nameB
def textB (x : Str) : Bool := decide (x.length ≤ 200) && x.cps.toList.all sgnT
def within (p f : Str) : Bool := decide (f = Str.ofString "") || Txt.startswith p (f ++ Str.ofString "/")
def isPathV : V → Bool
  | .str x => pathB x
  | _ => false
def isTextV : V → Bool
  | .str x => textB x
  | _ => false
def isFolderV : V → Bool
  | .str x => pathB x || decide (x = Str.ofString "")
  | _ => false
theorem spl_len {S : List Nat} : ∀ (l : List Nat) (k : Nat) (acc p : List Nat), p ∈ spl S k acc l → p.length ≤ acc.length + l.length
  | [], k, acc, p, h => by
    rw [spl_nil] at h
    have e : p = acc := by simpa using h
    subst e
    simp
  | c :: r, 0, acc, p, h => by
    by_cases q : pre S (c :: r) = true
    · rw [spl_hit q] at h
      rcases List.mem_cons.mp h with rfl | h
      · simp
      · have ih := spl_len r _ _ p h
        simp at ih ⊢
        omega
    · rw [spl_miss (by simpa using q)] at h
      have ih := spl_len r _ _ p h
      simp at ih ⊢
      omega
  | c :: r, k + 1, acc, p, h => by
    have h' : p ∈ spl S k acc r := h
    have ih := spl_len r _ _ p h'
    simp at ih ⊢
    omega
theorem str_len (x : Str) : (tl x).length = x.length := by simp [tl, Str.length]
theorem part_len {x p : Str} (h : p ∈ partsOf x) : p.length ≤ x.length := by
  have e := split_spl x (Str.ofString "/") (by decide) (kind_ok (by decide +kernel))
  have h1 : tl p ∈ (Txt.split x (Str.ofString "/")).map tl := List.mem_map.mpr ⟨p, h, rfl⟩
  rw [e] at h1
  have h2 := spl_len _ _ _ _ h1
  rw [str_len, str_len] at h2
  simpa using h2
example : pathB (Str.ofString "e/f/g") = true := by decide +kernel
example : pathB (Str.ofString "a/b/c/d") = false := by decide +kernel
end Bm
/-! more of what readings evaluate to -/
namespace Be
open PySem PySem.Spec PyProof.Rows L2 Bk Bm Evl
section
variable {K : PySem.W.Frag} {σ : L2.St} {H H' : Hp} {ta tb tc te tx : TE} {t u : TT} {x y z v : V} {r r' : R2}
theorem ev_chain {b1 b2 : Bool} (ha : Ev ta σ H x) (hb : Ev tb σ H y) (hr : RV r x y H (.bl b1)) (hc : b1 = true → Ev tc σ H z) (hr' : b1 = true → RV r' y z H (.bl b2)) : Ev (tChain r r' ta tb tc) σ H (.bl (b1 && b2)) := fun H1 e Q q =>
  ha H1 e _ fun H2 e2 => hb H2 (e.trans e2) _ fun H3 e3 => hr H3 ((e.trans e2).trans e3) _ fun H4 e4 => ⟨b1, rfl, by
    have e14 := (e2.trans e3).trans e4
    cases b1 with
    | false =>
      rw [if_neg (by decide)]
      exact q H4 e14
    | true =>
      rw [if_pos rfl]
      exact hc rfl H4 (e.trans e14) _ fun H5 e5 => hr' rfl H5 ((e.trans e14).trans e5) Q fun H6 e6 => q H6 ((e14.trans e5).trans e6)⟩
theorem ev_isL {xs ys : List V} (h : EvL te σ H xs) (e : xs = ys) : EvL te σ H ys := by
  rw [← e]
  exact h
theorem ev_and {a b : Bool} (h1 : Ev ta σ H (.bl a)) (h2 : a = true → Ev tb σ H (.bl b)) : Ev (tAndV ta tb) σ H (.bl (a && b)) := ev_andV h1 h2
/-- a comprehension over a text, no test -/
theorem el_lcS {j : Nat} {w : Str} {tl : TE} (f : Nat → V) (h : Ev tl σ H (.str w)) (hz : w.length ≤ 40000)
    (he : ∀ (c : Nat) H1, Ex H H1 → c ∈ w.cps.toList → Ev te (σ.set j (some (.str ⟨#[c]⟩))) H1 (f c)) : EvL (tLc (iStr tl) (gName j) tYes te [j]) σ H (w.cps.toList.map f) := fun H0 e Q q => h H0 e _ fun H1 e1 => ⟨w, rfl, fun D hD =>
  lc_it (walk_str (z := w)) (fun i G => Ex H1 G ∧ G D = some (.lst ((w.cps.toList.take i).map f))) ⟨Ex.new hD, upd_same⟩ (fun _ _ _ _ => trivial) (by
    rintro i v G G' hi ⟨s1, hd⟩ ⟨rfl, c, hc, rfl⟩
    have hl : w.cps.toList[i]? = some c := by simpa using hc
    have ee : (wipe σ [j]).set j (some (V.str ⟨#[c]⟩)) = σ.set j (some (V.str ⟨#[c]⟩)) := by
      show (σ.set j none).set j (some (V.str ⟨#[c]⟩)) = _
      rw [List.set_set]
    show wipe ((wipe σ [j]).set j (some (V.str ⟨#[c]⟩))) [j] = wipe σ [j] ∧ _
    rw [ee]
    refine ⟨by show (σ.set j _).set j none = σ.set j none; rw [List.set_set], ?_⟩
    unfold tYes
    dsimp only
    rw [if_pos rfl]
    refine he c G' ((e.trans e1).trans s1) (List.mem_of_getElem? hl) G' (Ex.refl _) _ fun G2 e2 => ⟨_, e2 D _ hd, sz_lt ?_, (s1.trans e2).mut hD, ?_⟩
    · rw [List.length_map]
      have h1 := List.length_take_le i w.cps.toList
      have h2 : w.cps.toList.length = w.length := by simp [Str.length]
      have h3 := List.length_take_le' i w.cps.toList
      omega
    · rw [upd_same, List.take_succ, hl]
      simp) (by
    rintro G ⟨s1, hd⟩
    refine q D G (fresh_back e1 hD) (e1.trans s1) ?_
    rw [hd]
    have h2 : w.cps.toList.length = w.cps.size := by simp
    rw [List.take_of_length_le (Nat.le_of_eq h2)])⟩
/-- over a list, no test -/
theorem el_lcN {j : Nat} {xs : List V} {tl : TE} (f : V → V) (h : EvL tl σ H xs) (hz : xs.length ≤ 40000)
    (he : ∀ (x : V) H1, Ex H H1 → x ∈ xs → Ev te (σ.set j (some x)) H1 (f x)) : EvL (tLc (iList K tl) (gName j) tYes te [j]) σ H (xs.map f) := fun H0 e Q q => h H0 e _ fun a H1 ha e1 hx => ⟨a, rfl, ⟨xs, sq_of hx⟩, fun D hD =>
  lc_it (walk_list (K := K) (a := a) (xs := xs)) (fun i G => Ex H1 G ∧ G D = some (.lst ((xs.take i).map f))) ⟨Ex.new hD, upd_same⟩ (fun i G _ p => sq_of (p.1 a _ hx)) (by
    rintro i v G G' hi ⟨s1, hd⟩ ⟨rfl, hl⟩
    have ee : (wipe σ [j]).set j (some v) = σ.set j (some v) := by
      show (σ.set j none).set j (some v) = _
      rw [List.set_set]
    show wipe ((wipe σ [j]).set j (some v)) [j] = wipe σ [j] ∧ _
    rw [ee]
    refine ⟨by show (σ.set j _).set j none = σ.set j none; rw [List.set_set], ?_⟩
    unfold tYes
    dsimp only
    rw [if_pos rfl]
    refine he v G' ((e.trans e1).trans s1) (List.mem_of_getElem? hl) G' (Ex.refl _) _ fun G2 e2 => ⟨_, e2 D _ hd, sz_lt ?_, (s1.trans e2).mut hD, ?_⟩
    · rw [List.length_map]
      have h3 := List.length_take_le' i xs
      omega
    · rw [upd_same, List.take_succ, hl]
      simp) (by
    rintro G ⟨s1, hd⟩
    refine q D G (fresh_back e1 hD) (e1.trans s1) ?_
    rw [hd, List.take_of_length_le (Nat.le_refl _)])⟩
/-- over a tuple, no test -/
theorem el_lcT {j : Nat} {a : Addr} {xs : List V} {tl : TE} (f : V → V) (h : Ev tl σ H (.ref a)) (hx : SqT K H a xs) (hz : xs.length ≤ 40000)
    (he : ∀ (x : V) H1, Ex H H1 → x ∈ xs → Ev te (σ.set j (some x)) H1 (f x)) : EvL (tLc (iTup K tl) (gName j) tYes te [j]) σ H (xs.map f) := fun H0 e Q q => h H0 e _ fun H1 e1 => ⟨a, rfl, ⟨xs, ex_t (e.trans e1) hx⟩, fun D hD =>
  lc_it (walk_tup (K := K) (a := a) (xs := xs)) (fun i G => Ex H1 G ∧ G D = some (.lst ((xs.take i).map f))) ⟨Ex.new hD, upd_same⟩ (fun i G _ p => ex_t ((e.trans e1).trans p.1) hx) (by
    rintro i v G G' hi ⟨s1, hd⟩ ⟨rfl, hl⟩
    have ee : (wipe σ [j]).set j (some v) = σ.set j (some v) := by
      show (σ.set j none).set j (some v) = _
      rw [List.set_set]
    show wipe ((wipe σ [j]).set j (some v)) [j] = wipe σ [j] ∧ _
    rw [ee]
    refine ⟨by show (σ.set j _).set j none = σ.set j none; rw [List.set_set], ?_⟩
    unfold tYes
    dsimp only
    rw [if_pos rfl]
    refine he v G' ((e.trans e1).trans s1) (List.mem_of_getElem? hl) G' (Ex.refl _) _ fun G2 e2 => ⟨_, e2 D _ hd, sz_lt ?_, (s1.trans e2).mut hD, ?_⟩
    · rw [List.length_map]
      have h3 := List.length_take_le' i xs
      omega
    · rw [upd_same, List.take_succ, hl]
      simp) (by
    rintro G ⟨s1, hd⟩
    refine q D G (fresh_back e1 hD) (e1.trans s1) ?_
    rw [hd, List.take_of_length_le (Nat.le_refl _)])⟩
theorem ev_all {bs : List Bool} (h : EvL te σ H (bs.map V.bl)) : Ev (tCB (rAll K) (tCons te tNil)) σ H (.bl (bs.all id)) := fun H1 e Q q =>
  h H1 e _ fun p H2 _ e2 h2 => ⟨p, bs, rfl, sq_of h2, q H2 e2⟩
theorem ev_any {bs : List Bool} (h : EvL te σ H (bs.map V.bl)) : Ev (tCB (rAny K) (tCons te tNil)) σ H (.bl (bs.any id)) := fun H1 e Q q =>
  h H1 e _ fun p H2 _ e2 h2 => ⟨p, bs, rfl, sq_of h2, q H2 e2⟩
theorem ev_lenS {w : Str} (h : Ev te σ H (.str w)) (hl : w.length ≤ 100000) : Ev (tCB (fun xs H Q => ∃ z, xs = [V.str z] ∧ z.length ≤ sizeLine ∧ Q (.int z.length) H) (tCons te tNil)) σ H (.int (w.length : Int)) := fun H1 e Q q =>
  h H1 e _ fun H2 e2 => ⟨w, rfl, sz_of hl, q H2 e2⟩
/-- what isinstance asks of any value of these programs -/
inductive Kd (K : PySem.W.Frag) (H : Hp) : V → String → Prop
  | mk {v : V} {n : String} (h : TyX K H v (.type n)) (k : n ∈ (["NoneType", "bool", "int", "str", "list", "tuple", "dict"] : List String)) : Kd K H v n
theorem kd_str (x : Str) : Kd K H (.str x) "str" := ⟨.base (.str x), by decide⟩
theorem kd_non : Kd K H .non "NoneType" := ⟨.base .non, by decide⟩
theorem kd_int (i : Int) : Kd K H (.int i) "int" := ⟨.base (.int i), by decide⟩
theorem kd_bl (b : Bool) : Kd K H (.bl b) "bool" := ⟨.base (.bl b), by decide⟩
theorem kd_lst {a : Addr} {xs : List V} (h : H a = some (.lst xs)) : Kd K H (.ref a) "list" := ⟨.base (.lst h), by decide⟩
theorem kd_tup {a : Addr} {xs : List V} (h : H a = some (.tup xs)) : Kd K H (.ref a) "tuple" := ⟨.base (.tup h), by decide⟩
theorem kd_dK {a : Addr} {kvs : List (Key × V)} (h : H a = some (.dK kvs)) : Kd K H (.ref a) "dict" := ⟨.base (.dK h), by decide⟩
theorem tyOf_mono {v : V} {T : Value} (e : Ex H H') (h : TyOf K H v T) : TyOf K H' v T := by
  cases h with
  | non => exact .non
  | bl b => exact .bl b
  | int i => exact .int i
  | str x => exact .str x
  | flt x => exact .flt x
  | lst h => exact .lst (e _ _ h)
  | frz h => exact .frz (e _ _ h)
  | tup h => exact .tup (e _ _ h)
  | dK h => exact .dK (e _ _ h)
  | dT h => exact .dT (e _ _ h)
  | ins h a b c d f => exact .ins (e _ _ h) a b c d f
theorem tyX_mono {v : V} {T : Value} (e : Ex H H') (h : TyX K H v T) : TyX K H' v T := by
  cases h with
  | base h => exact .base (tyOf_mono e h)
  | byt b => exact .byt b
  | set h => exact .set (e _ _ h)
  | kList h c => exact .kList h c
  | kTuple h c => exact .kTuple h c
  | kDict h c => exact .kDict h c
  | fTuple h => exact .fTuple (e _ _ h)
  | fDict h => exact .fDict (e _ _ h)
theorem Kd.mono {n : String} (e : Ex H H') (h : Kd K H v n) : Kd K H' v n := by
  obtain ⟨h, k⟩ := h
  exact ⟨tyX_mono e h, k⟩
theorem kd_kit {n m : String} (h : Kd K H v n) (hm : m = "str" ∨ m = "tuple") : PySem.W.kitOne K (.type n) (.type m) = some (decide (n = m)) := by
  obtain ⟨_, k⟩ := h
  simp only [List.mem_cons, List.not_mem_nil, or_false] at k
  rcases hm with rfl | rfl <;> rcases k with rfl | rfl | rfl | rfl | rfl | rfl | rfl <;> exact kit_ty (by decide +kernel)
theorem ev_isi {n m : String} (h : Ev te σ H v) (hc : Ev tx σ H (.ty m)) (k : Kd K H v n) (hm : m = "str" ∨ m = "tuple") : Ev (tCB (rIsi K) (tCons te (tCons tx tNil))) σ H (.bl (decide (n = m))) := fun H1 e Q q =>
  h H1 e _ fun H2 e2 => hc H2 (e.trans e2) _ fun H3 e3 => by
    obtain ⟨ty, kk⟩ := id (k.mono ((e.trans e2).trans e3))
    exact ⟨v, .ty m, .type n, .type m, _, rfl, .ty m, ty, kd_kit k hm, q H3 (e2.trans e3)⟩
/-- s.split(sep) -/
theorem el_split {w s : Str} (h : Ev te σ H (.str w)) (hs : Ev tx σ H (.str s)) (h0 : (s.length == 0) = false) (hl : w.length ≤ 100000) :
    EvL (tM1 (fun x xs H Q => ∃ a b, x = .str a ∧ xs = [.str b] ∧ (b.length == 0) = false ∧ a.length + 2 ≤ sizeLine ∧ rNewStrs (Txt.split a b) H Q) te tx) σ H ((Txt.split w s).map V.str) := fun H1 e Q q =>
  h H1 e _ fun H2 e2 => ⟨⟨w, rfl⟩, hs H2 (e.trans e2) _ fun H3 e3 => ⟨w, s, rfl, rfl, h0, Nat.le_trans (Nat.add_le_add_right hl 2) (by rw [sizeLine_eq]; decide), fun p hp => q p _ (fresh_back (e2.trans e3) hp) ((e2.trans e3).trans (Ex.new hp)) upd_same⟩⟩
/-- over a list that stands, no test -/
theorem el_lcA {j : Nat} {a : Addr} {xs : List V} {tl : TE} (f : V → V) (h : Ev tl σ H (.ref a)) (hx : SqL K H a xs) (hz : xs.length ≤ 40000)
    (he : ∀ (x : V) H1, Ex H H1 → x ∈ xs → Ev te (σ.set j (some x)) H1 (f x)) : EvL (tLc (iList K tl) (gName j) tYes te [j]) σ H (xs.map f) := fun H0 e Q q => h H0 e _ fun H1 e1 => ⟨a, rfl, ⟨xs, ex_l (e.trans e1) hx⟩, fun D hD =>
  lc_it (walk_list (K := K) (a := a) (xs := xs)) (fun i G => Ex H1 G ∧ G D = some (.lst ((xs.take i).map f))) ⟨Ex.new hD, upd_same⟩ (fun i G _ p => ex_l ((e.trans e1).trans p.1) hx) (by
    rintro i v G G' hi ⟨s1, hd⟩ ⟨rfl, hl⟩
    have ee : (wipe σ [j]).set j (some v) = σ.set j (some v) := by
      show (σ.set j none).set j (some v) = _
      rw [List.set_set]
    show wipe ((wipe σ [j]).set j (some v)) [j] = wipe σ [j] ∧ _
    rw [ee]
    refine ⟨by show (σ.set j _).set j none = σ.set j none; rw [List.set_set], ?_⟩
    unfold tYes
    dsimp only
    rw [if_pos rfl]
    refine he v G' ((e.trans e1).trans s1) (List.mem_of_getElem? hl) G' (Ex.refl _) _ fun G2 e2 => ⟨_, e2 D _ hd, sz_lt ?_, (s1.trans e2).mut hD, ?_⟩
    · rw [List.length_map]
      have h3 := List.length_take_le' i xs
      omega
    · rw [upd_same, List.take_succ, hl]
      simp) (by
    rintro G ⟨s1, hd⟩
    refine q D G (fresh_back e1 hD) (e1.trans s1) ?_
    rw [hd, List.take_of_length_le (Nat.le_refl _)])⟩
theorem kd_strV {x : Str} {n : String} (h : Kd K H (.str x) n) : n = "str" := by
  obtain ⟨h, _⟩ := h
  cases h with
  | base h => cases h; rfl
theorem kd_isStr {v : V} (h : Kd K H v "str") : ∃ x, v = .str x := by
  obtain ⟨h, _⟩ := h
  generalize e : Value.type "str" = T at h
  cases h with
  | base h =>
    cases h with
    | str x => exact ⟨x, rfl⟩
    | ins => cases e
    | _ => simp at e
  | _ => simp at e
theorem kd_isTup {v : V} (h : Kd K H v "tuple") : ∃ a, v = .ref a := by
  obtain ⟨h, _⟩ := h
  generalize e : Value.type "tuple" = T at h
  cases h with
  | base h =>
    cases h with
    | tup h => exact ⟨_, rfl⟩
    | ins => cases e
    | _ => simp at e
  | kTuple h c => exact ⟨_, rfl⟩
  | fTuple h => exact ⟨_, rfl⟩
  | _ => simp at e
/-- a def as its callers see it -/
structure Cal (P : Program) (w : World) (K : PySem.W.Frag) (mg : Str → Option Value) (base : Heap) (CX : CXT) (k : Nat) (x : Str) (ps : List Str) (sp : Sp) where
  f : Addr
  fd : FuncData
  F : FnOk P w K mg base CX k f fd ps sp
  g : mg x = some (.ref f)
  kp : PySem.W.keepIn K (.ref f) = true
  b : Binds K fd ps []
end
end Be
/-! own classes: len, ==; zip of tuples in a comprehension -/
namespace Cr
open PySem PySem.Spec PyProof.Rows L2 Bk Bm Evl Be
section
variable {X : Cx} {n : Nat} {C f : Addr} {fd : FuncData} {ps : List Str} {sp : Sp}
/-- len(x), x of an own class with a __len__ -/
theorem call_lenI (F : FnOk X.prog X.w X.K X.mg X.base CX0 n f fd ps sp) (hs : PySem.W.findIn X.K (.ref C) "__len__" = some (some (.ref f))) (hf : PySem.W.isFn X.K (.ref f) = true) (hb : Binds X.K fd ps []) (hr : Room (n + 1) X.A) :
    CallR X (.builtin "len") (fun xs H Q => ∃ a dx fs, xs = [.ref a] ∧ H a = some (.ins C dx fs) ∧ sp [.ref a] H (fun v H' => ∃ i, v = .int i ∧ 0 ≤ i ∧ i < 2 ^ 63 ∧ Q (.int i) H') E0) := by
  intro pins s σ H xs us Q I r h
  obtain ⟨a, dx, fs, rfl, ha, hsp⟩ := h
  obtain ⟨u, rfl, ru⟩ := vals1 r
  cases ru
  obtain ⟨mA, J, _⟩ := ins_get I.hok ha
  obtain ⟨od, J, _⟩ := J.look
  obtain ⟨m, hF⟩ := I.fr
  refine PySem.W.len_K hF I.ok.mod.kin J hs hf ?_
  have hl := F.len _ _ _ _ hsp
  have r2 : Vals [V.ref a] [Value.ref a] := .cons rfl .nil
  refine wpAny_call (codeAny_mono (F.run X.A.in1 X.stack s H ⟨[.ref a], []⟩ [.ref a] [.ref a] _ E0 hr.in1 I.env0.in1 (by
    have := hb s [.ref a] I.kIn (by simpa using hl)
    simpa using this) r2 hsp) fun r s' hq => ?_)
  cases r with
  | error e => exact pass0 pins σ H s e s' I hq
  | ok fl =>
    cases fl with
    | ret w =>
      obtain ⟨z, H', I', rz, i, rfl, h0, h1, q⟩ := I.after hq
      obtain ⟨t, rfl⟩ := rz
      exact ⟨⟨h0, h1⟩, .int i, H', I'.tok _, ⟨_, rfl⟩, q⟩
    | next => exact False.elim hq
    | brk => exact False.elim hq
    | cont => exact False.elim hq
/-- the other side of an own == -/
inductive Oth (K : PySem.W.Frag) (C : Addr) (H : Hp) : V → Prop
  | ins {b dx : Addr} {fs : List (Str × V)} (h : H b = some (.ins C dx fs)) : Oth K C H (.ref b)
  | tup {b : Addr} {xs : List V} (h : H b = some (.tup xs)) (hn : PySem.W.notFirst K C (.type "tuple") = true) : Oth K C H (.ref b)
/-- x == y, x of an own class with an __eq__ -/
theorem op_eqI (F : FnOk X.prog X.w X.K X.mg X.base CX0 n f fd ps sp) (hs : PySem.W.findIn X.K (.ref C) "__eq__" = some (some (.ref f))) (hf : PySem.W.isFn X.K (.ref f) = true) (hb : Binds X.K fd ps []) (hr : Room n X.A) :
    OpR X (compareOp .Eq) (fun x y H Q => ∃ a dx fs b, x = .ref a ∧ H a = some (.ins C dx fs) ∧ y = .ref b ∧ Oth X.K C H y ∧ sp [.ref a, .ref b] H (fun v H' => ∃ i, v = .bl i ∧ Q (.bl i) H') E0) := by
  intro pins s σ H x y v u Q I rx ry h
  obtain ⟨a, dx, fs, b, rfl, ha, rfl, oth, hsp⟩ := h
  cases rx
  cases ry
  obtain ⟨mA, J, _⟩ := ins_get I.hok ha
  obtain ⟨od, J, _⟩ := J.look
  obtain ⟨m, hF⟩ := I.fr
  have ty : ∃ tb, PySem.W.Looks (model X.prog X.w) s.heap (typeOf (.ref b)) tb ∧ PySem.W.notFirst X.K C tb = true := by
    cases oth with
    | ins hb' =>
      obtain ⟨mB, J', _⟩ := ins_get I.hok hb'
      obtain ⟨od', J', _⟩ := J'.look
      exact ⟨_, J'.type, by simp [PySem.W.notFirst]⟩
    | tup hb' hn =>
      obtain ⟨_, its, _, o, ho, hc, _⟩ := I.hok b _ hb'
      exact ⟨_, hc ▸ (PySem.W.Looks.ld ho).andThen .now, hn⟩
  obtain ⟨tb, hL, hn⟩ := ty
  show wpAny (model X.prog X.w) X.A (richCompare .Eq (.ref a) (.ref b)) (EP X pins σ Q) X.xe s
  refine PySem.W.cmp_K (op := .Eq) hr.units0 hF I.ok.mod.kin J hL hn hs hf ?_
  have hl := F.len _ _ _ _ hsp
  have r2 : Vals [V.ref a, V.ref b] [Value.ref a, Value.ref b] := .cons rfl (.cons rfl .nil)
  refine wpAny_call (codeAny_mono (F.run X.A X.stack s H ⟨[.ref a, .ref b], []⟩ [.ref a, .ref b] [.ref a, .ref b] _ E0 hr I.env0 (by
    have := hb s [.ref a, .ref b] I.kIn (by simpa using hl)
    simpa using this) r2 hsp) fun r s' hq => ?_)
  cases r with
  | error e => exact pass0 pins σ H s e s' I hq
  | ok fl =>
    cases fl with
    | ret w =>
      obtain ⟨z, H', I', rz, i, rfl, q⟩ := I.after hq
      cases rz
      exact ⟨.bl i, H', I', rfl, q⟩
    | next => exact False.elim hq
    | brk => exact False.elim hq
    | cont => exact False.elim hq
end
section
variable {K : PySem.W.Frag} {σ : L2.St} {H H' : Hp} {ta tb tc te tx : TE} {x y z v : V}
/-- pairs of two tuples -/
theorem walk_zipT {a b : Addr} {xs ys : List V} {n : Nat} (hn : n = min xs.length ys.length) : Walk (RZ.ItzT K a b) n (fun H => SqT K H a xs ∧ SqT K H b ys) (YPair (fun i => xs[i]?) (fun i => ys[i]?)) := by
  subst hn
  refine ⟨fun i _ hi q => ?_, fun _ q => ⟨xs, ys, q.1, q.2, by omega⟩, fun i H v H' _ q y => ?_⟩
  · have h1 : i < xs.length := by omega
    have h2 : i < ys.length := by omega
    exact ⟨xs, ys, xs[i], ys[i], q.1, q.2, by simp [h1], by simp [h2]⟩
  · obtain ⟨T, x, z, h1, h2, h3, h4, h5⟩ := y
    exact ⟨T, x, z, h1, h2, h3, h4 xs q.1, h5 ys q.2⟩
end
end Cr
/-! tuples that are known to be plain: dict(a tuple of pairs) -/
namespace Kr
open PySem PySem.Spec PyProof.Rows L2 Bk Bm Evl Be
/-- a plain tuple, as tuple(a list) lays it -/
def Pln (o : Obj) : Prop := o.cls = .type "tuple" ∧ o.dict = none
section
variable {X : Cx}
theorem call_tuple_ofZ : CallR X (.type "tuple") (fun vs G Q => ∃ p ys, vs = [.ref p] ∧ SqL X.K G p ys ∧ ∀ l o, G l = none → Pln o → Q (.ref l) (upd G l (.frz o (.tup ys)))) := by
  intro pins s τ G vs us Q I rv h
  obtain ⟨p, ys, rfl, hq, q⟩ := h
  obtain ⟨u, rfl, ru⟩ := vals1 rv
  cases ru
  obtain ⟨its, r2, pl, small⟩ := I.list hq
  have count := r2.length
  refine call_tuple_list pl.isList (fun g kp => ?_) (by simp only [List.size_toArray]; omega)
  have J : Inv X pins τ G { s with heap := g } := I.kept (t' := s.toks) kp
  have at_ : (g.push { cls := .type "tuple", data := .seq its.toArray }).get? g.objs.size = some { cls := .type "tuple", data := .seq its.toArray } := Heap.get?_push_size _ rfl
  have J2 : Inv X pins τ (upd G g.objs.size (.frz { cls := .type "tuple", data := .seq its.toArray } (.tup ys))) { s with heap := g.push { cls := .type "tuple", data := .seq its.toArray } } :=
    J.laid (t' := s.toks) (fun b o e => Heap.get?_push_of_some _ e) (Nat.le_refl _) (show ObjOk X.prog X.w _ _ _ (.frz _ (.tup ys)) from ⟨at_, small, its, r2, IsTup.new _ _⟩)
  exact ⟨.ref g.objs.size, _, J2, rfl, q _ _ (J.hok.fresh (Nat.le_refl _)) ⟨rfl, rfl⟩⟩
theorem pairs_raw {pins : List (Addr × Obj)} {τ : L2.St} {G : Hp} {s : Shared} (I : Inv X pins τ G s) : ∀ {ps : List Addr} {kvs : List (Key × V)}, Paired (fun p kv => SqT X.K G p [kV kv.1, kv.2]) ps kvs →
    ∃ (prs : List (Key × Value)) (raw : List (Value × Value)), KV kvs prs ∧ prs.length = ps.length ∧ raw.length = ps.length ∧
      ∀ (j : Nat) (k v : Value), raw[j]? = some (k, v) → ∃ b key, ps[j]? = some b ∧ PairAt s.heap b k v ∧ prs[j]? = some (key, v) ∧ keyIs key k = true
  | _, _, .nil => ⟨[], [], .nil, rfl, rfl, fun j k v e => by simp at e⟩
  | _, _, .cons (a := p) (b := kv) h t => by
    obtain ⟨prs, raw, r, l1, l2, hp⟩ := pairs_raw I t
    obtain ⟨its, rv, ht, _⟩ := I.tuple h
    obtain ⟨u, y, rfl, ru, ry⟩ := vals2 rv
    refine ⟨(kv.1, y) :: prs, (u, y) :: raw, .cons ⟨rfl, ry⟩ r, by rw [List.length_cons, List.length_cons, l1], by rw [List.length_cons, List.length_cons, l2], fun j k v e => ?_⟩
    cases j with
    | zero =>
      have e' : (u, y) = (k, v) := Option.some.inj e
      cases e'
      exact ⟨p, kv.1, rfl, .inl ht, rfl, kV_is (P := X.prog) (w := X.w) ru⟩
    | succ j =>
      obtain ⟨b, key, e1, e2, e3, e4⟩ := hp j k v (by simpa using e)
      exact ⟨b, key, by simpa using e1, e2, by simpa using e3, e4⟩
/-- dict(a plain tuple of pairs) -/
def rDictT (K : PySem.W.Frag) : List V → Hp → VK → Prop := fun vs G Q => ∃ (a : Addr) (o : Obj) (ps : List Addr) (kvs : List (Key × V)), vs = [.ref a] ∧ G a = some (.frz o (.tup (ps.map V.ref))) ∧ Pln o ∧
    Paired (fun p kv => SqT K G p [kV kv.1, kv.2]) ps kvs ∧ ∀ p, G p = none → Q (.ref p) (upd G p (.dK (mergeK [] kvs)))
theorem call_dictT (hcalm : X.calm = true) : CallR X (.type "dict") (rDictT X.K) := by
  intro pins s τ G vs us Q I rv h
  obtain ⟨a, o, ps, kvs, rfl, ha, hpl, hp, q⟩ := h
  obtain ⟨u, rfl, ru⟩ := vals1 rv
  cases ru
  obtain ⟨at_, small, its, r2, o2, e2, hc2, n, hdat⟩ := I.hok a _ ha
  have ei := refs_at r2
  subst ei
  rw [at_] at e2
  cases e2
  rw [List.length_map] at small
  obtain ⟨prs, raw, rel, l1, l2, hpr⟩ := pairs_raw I hp
  have P := PairArg.tuple (prog := X.prog) (w := X.w) a (ps.map Value.ref).toArray (fun j => ps.getD j 0) raw
  refine PySem.call_dict_pairs (knd := mixKind X.prog X.w) (kvs := prs) P (I.ok.hd hcalm) ⟨⟨o, n, at_, hc2, hpl.2, hdat⟩, by simp [l2], fun j k v e => ?_⟩ ⟨by rw [l1, l2], fun i key v e => ?_⟩ (by rw [l2]; exact small) fun g tk hd k => ?_
  · obtain ⟨b, key, e1, e2, _, _⟩ := hpr j k v e
    have eb : ps.getD j 0 = b := by rw [List.getD_eq_getElem?_getD, e1]; rfl
    refine ⟨by simp [e1, eb], ?_⟩
    show PairAt s.heap (ps.getD j 0) k v
    rw [eb]
    exact e2
  · obtain ⟨b, k, e1, e2, e3, e4⟩ := hpr i key v e
    exact ⟨k, e3, e4⟩
  · have hm : (s.heap.objs.size == sysModules) = false := beq_eq_false_iff_ne.mpr (Nat.ne_of_gt I.big)
    have few : (mergeK [] kvs).length ≤ sizeLine := by
      refine Nat.le_trans (length_mergeK kvs []) ?_
      rw [List.length_nil, Nat.zero_add, rel.length, l1]
      exact small
    have fine : ObjOk X.prog X.w (upd G s.heap.objs.size (.dK (mergeK [] kvs))) g s.heap.objs.size (.dK (mergeK [] kvs)) := ⟨few, hm, _, KV.merge rel .nil, hd⟩
    exact ⟨.ref s.heap.objs.size, upd G s.heap.objs.size (.dK (mergeK [] kvs)), I.laid (t' := tk) (fun b ob e => k b ob (by simp) e) (Nat.le_refl _) fine, rfl, q _ (I.hok.fresh (Nat.le_refl _))⟩
end
end Kr
/-! dict(a plain tuple of pairs), as a dict that stands -/
namespace Kr
open PySem PySem.Spec PyProof.Rows L2 Bk Bm Evl Be
section
variable {X : Cx}
def rDictZ (K : PySem.W.Frag) : List V → Hp → VK → Prop := fun vs G Q => ∃ (a : Addr) (o : Obj) (ps : List Addr) (kvs : List (Key × V)), vs = [.ref a] ∧ G a = some (.frz o (.tup (ps.map V.ref))) ∧ Pln o ∧
    Paired (fun p kv => SqT K G p [kV kv.1, kv.2]) ps kvs ∧ ∀ p od, G p = none → Q (.ref p) (upd G p (.frz od (.dK (mergeK [] kvs))))
theorem call_dictZ (hcalm : X.calm = true) : CallR X (.type "dict") (rDictZ X.K) := by
  intro pins s τ G vs us Q I rv h
  obtain ⟨a, o, ps, kvs, rfl, ha, hpl, hp, q⟩ := h
  obtain ⟨u, rfl, ru⟩ := vals1 rv
  cases ru
  obtain ⟨at_, small, its, r2, o2, e2, hc2, n, hdat⟩ := I.hok a _ ha
  have ei := refs_at r2
  subst ei
  rw [at_] at e2
  cases e2
  rw [List.length_map] at small
  obtain ⟨prs, raw, rel, l1, l2, hpr⟩ := pairs_raw I hp
  have P := PairArg.tuple (prog := X.prog) (w := X.w) a (ps.map Value.ref).toArray (fun j => ps.getD j 0) raw
  refine PySem.call_dict_pairs (knd := mixKind X.prog X.w) (kvs := prs) P (I.ok.hd hcalm) ⟨⟨o, n, at_, hc2, hpl.2, hdat⟩, by simp [l2], fun j k v e => ?_⟩ ⟨by rw [l1, l2], fun i key v e => ?_⟩ (by rw [l2]; exact small) fun g tk hd k => ?_
  · obtain ⟨b, key, e1, e2, _, _⟩ := hpr j k v e
    have eb : ps.getD j 0 = b := by rw [List.getD_eq_getElem?_getD, e1]; rfl
    refine ⟨by simp [e1, eb], ?_⟩
    show PairAt s.heap (ps.getD j 0) k v
    rw [eb]
    exact e2
  · obtain ⟨b, k, e1, e2, e3, e4⟩ := hpr i key v e
    exact ⟨k, e3, e4⟩
  · have hm : (s.heap.objs.size == sysModules) = false := beq_eq_false_iff_ne.mpr (Nat.ne_of_gt I.big)
    have few : (mergeK [] kvs).length ≤ sizeLine := by
      refine Nat.le_trans (length_mergeK kvs []) ?_
      rw [List.length_nil, Nat.zero_add, rel.length, l1]
      exact small
    obtain ⟨od, eod⟩ : ∃ od, g.get? s.heap.objs.size = some od := by
      obtain ⟨od, _, _, e, _⟩ := id hd
      exact ⟨od, e⟩
    have fine : ObjOk X.prog X.w (upd G s.heap.objs.size (.frz od (.dK (mergeK [] kvs)))) g s.heap.objs.size (.frz od (.dK (mergeK [] kvs))) := ⟨eod, few, hm, _, KV.merge rel .nil, hd⟩
    exact ⟨.ref s.heap.objs.size, upd G s.heap.objs.size (.frz od (.dK (mergeK [] kvs))), I.laid (t' := tk) (fun b ob e => k b ob (by simp) e) (Nat.le_refl _) fine, rfl, q _ _ (I.hok.fresh (Nat.le_refl _))⟩
end
end Kr
/-! a law's end over a head that is run once: defs at addresses that are told, facts by a list of Bools -/
namespace Hk
open PySem PySem.Spec PyProof.Rows L2 He
/-- a def: where it stands, its name, qualified name, statement -/
structure PD where
  at_ : PySem.W.Frag → Addr
  name : Str
  qual : Str
  st : Stmt
def fnP (K : PySem.W.Frag) (a : Addr) : FnW := match K.lookup a with
  | some ⟨_, _, .func fd, _⟩ => some (fd.name, fd.qualname, fd.params, fd.body, fd.scope, fd.globals, fd.closure, fd.builtins)
  | _ => none
def PD.val (d : PD) : FnW := some (d.name, d.qual, defArgs d.st, .stmts (defBody d.st), defScope d.st, mainGlobals, [], builtinsNs)
def noneB : Value → Bool
  | .none => true
  | _ => false
def PD.ok (K : PySem.W.Frag) (d : PD) : Bool := PySem.W.keepIn K (.ref (d.at_ K)) && (match K.lookup (d.at_ K) with
  | some ⟨_, _, .func fd, _⟩ => PySem.W.codeIn K fd.code d.qual && noneB fd.defaults
  | _ => false)
theorem PD.fun_ {K : PySem.W.Frag} {d : PD} (e : fnP K (d.at_ K) = d.val) (c : d.ok K = true) : ∃ fd, Fun K d.name d.qual d.st (d.at_ K) fd := by
  obtain ⟨kp, c2⟩ := ba c
  unfold fnP at e
  cases q : K.lookup (d.at_ K) with
  | none =>
    rw [q] at c2
    cases c2
  | some o =>
    obtain ⟨oc, od, dt, osl⟩ := o
    rw [q] at c2 e
    cases dt with
    | func fd =>
      obtain ⟨n1, n2, n3, n4, n5, n6, n7, n8, n9, n10, n11, n12, n13, n14, n15⟩ := fd
      have e2 : (some (n1, n2, n3, n4, n5, n6, n7, n15) : FnW) = some (d.name, d.qual, defArgs d.st, .stmts (defBody d.st), defScope d.st, mainGlobals, [], builtinsNs) := e
      simp only [Option.some.injEq, Prod.mk.injEq] at e2
      obtain ⟨h1, h2, h3, h4, h5, h6, h7, h8⟩ := e2
      subst h1 h2 h3 h4 h5 h6 h7 h8
      obtain ⟨k1, k2⟩ := ba (show (PySem.W.codeIn K n13 d.qual && noneB n8) = true from c2)
      have k3 : n8 = .none := by
        cases n8 with
        | none => rfl
        | _ => cases k2
      subst k3
      exact ⟨_, ⟨oc, od, n9, n10, n11, n12, n13, n14, osl, rfl, q, k1⟩, kp⟩
    | _ => cases c2
/-! ### a part of the heap, by names -/
def nbr (g : Addr → Option Obj) (a : Addr) : List Addr := match g a with
  | some o => (match o.data with
    | .seq its _ => its.toList.flatMap refV
    | .dict es _ => es.toList.flatMap fun e => refV e.val
    | .func fd => refV fd.code
    | .cls cd => cd.ns :: cd.mro.flatMap refV
    | .fields vs => (match o.cls with
      | .type t => (match decide (t = "property") with
        | true => vs.toList.flatMap refV
        | false => [])
      | _ => [])
    | _ => [])
  | none => []
/-- those that are new, the set of all so far as a number's bits -/
def pick {α : Type} : List Addr → Nat → (List Addr → Nat → α) → α
  | [], v, k => k [] v
  | a :: r, v, k => match Nat.testBit v a with
    | true => pick r v k
    | false => HandSHeadRun.frNat (Nat.lor v (Nat.shiftLeft 1 a)) fun v' => pick r v' fun l u => k (a :: l) u
def bfs (g : Addr → Option Obj) : Nat → List Addr → Nat → List Addr
  | 0, _, _ => []
  | n + 1, fr, v => pick (fr.flatMap fun a => nbr g a) v fun l u => l ++ bfs g n l u
def asN (g : Addr → Option Obj) (xs : List Str) : List Addr :=
  pick (mainGlobals :: xs.map fun x => ga (frG g [mainGlobals]) x) 0 fun l u => l ++ bfs g 4 l.tail u
def forceK {α : Type} : PySem.W.Frag → (PySem.W.Frag → α) → α
  | [], k => k []
  | (a, o) :: r, k => HandSHeadRun.frNat a fun a' => forceK r fun r' => k ((a', o) :: r')
theorem forceK_eq {α : Type} : ∀ (l : PySem.W.Frag) (k : PySem.W.Frag → α), forceK l k = k l
  | [], _ => rfl
  | (a, o) :: r, k => by
    show HandSHeadRun.frNat a (fun a' => forceK r fun r' => k ((a', o) :: r')) = _
    rw [HandSHeadRun.frNat_eq, forceK_eq r]
/-! ### the Hook -/
/-- written out (a map on both sides would be held against the other by its function) -/
def seeF (K : PySem.W.Frag) : List PD → List FnW
  | [] => []
  | d :: r => fnP K (d.at_ K) :: seeF K r
def sayF : List PD → List FnW
  | [] => []
  | d :: r => d.val :: sayF r
def seeT (K : PySem.W.Frag) : List Tab → List (Option (List (Option (Str × Int))))
  | [] => []
  | t :: r => dicW K (t.1 K) :: seeT K r
def sayT (w : World) : List Tab → List (Option (List (Option (Str × Int))))
  | [] => []
  | t :: r => some (keysIn w.params t.2) :: sayT w r
theorem seeF_eq (K : PySem.W.Frag) : ∀ l, seeF K l = l.map fun d => fnP K (d.at_ K)
  | [] => rfl
  | d :: r => by rw [seeF, seeF_eq K r]; rfl
theorem sayF_eq : ∀ l, sayF l = l.map PD.val
  | [] => rfl
  | d :: r => by rw [sayF, sayF_eq r]; rfl
theorem seeT_eq (K : PySem.W.Frag) : ∀ l, seeT K l = l.map fun t => dicW K (t.1 K)
  | [] => rfl
  | d :: r => by rw [seeT, seeT_eq K r]; rfl
theorem sayT_eq (w : World) : ∀ l, sayT w l = l.map fun t => some (keysIn w.params t.2)
  | [] => rfl
  | d :: r => by rw [sayT, sayT_eq w r]; rfl
abbrev AlY : Type := (Bool × List FnW) × List (Option (List (Option (Str × Int))))
def obsY (fa : List Fa) (fn : List PD) (ts : List Tab) (ex : PySem.W.Frag → List Bool) (K : PySem.W.Frag) : AlY :=
  (((fa.all fun f => f.ok K) && ((fn.all fun d => d.ok K) && (ex K).all id), seeF K fn), seeT K ts)
def valY (fn : List PD) (ts : List Tab) (w : World) : AlY := ((true, sayF fn), sayT w ts)
def obsYG (xs : List Str) (fa : List Fa) (fn : List PD) (ts : List Tab) (ex : PySem.W.Frag → List Bool) (g : Addr → Option Obj) : AlY := forceK (frG g (asN g xs)) fun K => obsY fa fn ts ex K
def SaysY (fa : List Fa) (fn : List PD) (ts : List Tab) (ex : PySem.W.Frag → List Bool) (w : World) (K : PySem.W.Frag) : Prop := obsY fa fn ts ex K = valY fn ts w
def hookY (xs : List Str) (fa : List Fa) (fn : List PD) (ts : List Tab) (ex : PySem.W.Frag → List Bool) : PySem.W.Hook where
  α := AlY
  obs := fun s => obsYG xs fa fn ts ex s.heap.get?
  val := fun w => valY fn ts w
  says := fun w h => ∃ K : PySem.W.Frag, K.In h ∧ SaysY fa fn ts ex w K
  of := fun _ _ e => ⟨_, frG_in, (forceK_eq _ _).symm.trans e⟩
  keeps := fun _ _ _ ⟨K, hK, c⟩ k => ⟨K, PySem.W.Frag.In.keeps hK k, c⟩
theorem obsYG_eq {xs : List Str} {fa : List Fa} {fn : List PD} {ts : List Tab} {ex : PySem.W.Frag → List Bool} {g : Addr → Option Obj} {s : Shared} (h : ∀ a, g a = s.heap.get? a) : obsYG xs fa fn ts ex g = (hookY xs fa fn ts ex).obs s := by
  have e : g = s.heap.get? := funext h
  rw [e] <;> rfl
section
variable {fa : List Fa} {fn : List PD} {ts : List Tab} {ex : PySem.W.Frag → List Bool} {w : World} {K : PySem.W.Frag}
theorem SaysY.b (c : SaysY fa fn ts ex w K) : (fa.all fun f => f.ok K) = true ∧ (fn.all fun d => d.ok K) = true ∧ (ex K).all id = true := by
  have e : ((fa.all fun f => f.ok K) && ((fn.all fun d => d.ok K) && (ex K).all id)) = true := congrArg (fun z : AlY => z.1.1) c
  obtain ⟨h1, h2⟩ := ba e
  exact ⟨h1, ba h2⟩
theorem SaysY.fact (c : SaysY fa fn ts ex w K) (i : Nat) {f : Fa} (h : fa[i]? = some f := by rfl) : f.ok K = true :=
  List.all_eq_true.mp c.b.1 f (List.mem_of_getElem? h)
theorem SaysY.more (c : SaysY fa fn ts ex w K) (i : Nat) {x : Bool} (h : (ex K)[i]? = some x := by rfl) : x = true :=
  List.all_eq_true.mp c.b.2.2 x (List.mem_of_getElem? h)
theorem SaysY.def_ (c : SaysY fa fn ts ex w K) (i : Nat) {d : PD} (h : fn[i]? = some d := by rfl) : ∃ fd, Fun K d.name d.qual d.st (d.at_ K) fd := by
  refine PD.fun_ ?_ (List.all_eq_true.mp c.b.2.1 d (List.mem_of_getElem? h))
  have e0 : seeF K fn = sayF fn := congrArg (fun z : AlY => z.1.2) c
  have e : fn.map (fun d => fnP K (d.at_ K)) = fn.map PD.val := by rw [← seeF_eq, ← sayF_eq]; exact e0
  have e2 : (fn.map fun d => fnP K (d.at_ K))[i]? = (fn.map PD.val)[i]? := by rw [e]
  rw [List.getElem?_map, List.getElem?_map, h] at e2
  exact Option.some.inj e2
theorem SaysY.tab (c : SaysY fa fn ts ex w K) (i : Nat) {t : Tab} (h : ts[i]? = some t := by rfl) : ∃ es n, KDict K w (t.1 K) es n := by
  have e0 : seeT K ts = sayT w ts := congrArg (fun z : AlY => z.2) c
  have e : ts.map (fun t => dicW K (t.1 K)) = ts.map fun t => some (keysIn w.params t.2) := by rw [← seeT_eq, ← sayT_eq]; exact e0
  have e2 : (ts.map fun t => dicW K (t.1 K))[i]? = (ts.map fun t => some (keysIn w.params t.2))[i]? := by rw [e]
  rw [List.getElem?_map, List.getElem?_map, h] at e2
  exact dicW_ok (Option.some.inj e2)
end
/-! ### Bools and what they tell -/
/-- a written tuple of texts -/
def seqB (K : PySem.W.Frag) (a : Addr) (vs : List V) : Bool := match K.lookup a with
  | some ⟨.type c, _, .seq its _, _⟩ => decide (c = "tuple") && (decide (its.size ≤ sizeLine) && relAll vs its.toList)
  | _ => false
theorem seqB_ok {K : PySem.W.Frag} {a : Addr} {vs : List V} (h : seqB K a vs = true) (H : Hp) : SqT K H a vs := by
  unfold seqB at h
  cases q : K.lookup a with
  | none =>
    rw [q] at h
    cases h
  | some o =>
    obtain ⟨oc, od, dt, osl⟩ := o
    rw [q] at h
    cases oc with
    | type c =>
      cases dt with
      | seq its n =>
        obtain ⟨h1, h2⟩ := ba (show (decide (c = "tuple") && (decide (its.size ≤ sizeLine) && relAll vs its.toList)) = true from h)
        obtain ⟨h3, h4⟩ := ba h2
        exact .inr ⟨_, its, n, q, congrArg Value.type (of_decide_eq_true h1), rfl, of_decide_eq_true h3, relAll_ok h4⟩
      | _ => cases h
    | _ => cases dt <;> cases h
/-- the address of a dict's value -/
def valAd (K : PySem.W.Frag) (D : Addr) (z : Str) : Addr := match PySem.W.nsIn K D z with
  | some (some (.ref t)) => t
  | _ => 0
def eqV (a b : Option Value) : Bool := decide (a = b)
/-- a dict's value is a tuple of texts -/
def dtB (K : PySem.W.Frag) (D : Addr) (z : Str) (fs : List Str) : Bool := eqO (PySem.W.nsIn K D z) (some (some (.ref (valAd K D z)))) && seqB K (valAd K D z) (fs.map V.str)
theorem dtB_ok {K : PySem.W.Frag} {D : Addr} {z : Str} {fs : List Str} (h : dtB K D z fs = true) : ∃ t, PySem.W.nsIn K D z = some (some (.ref t)) ∧ ∀ H, SqT K H t (fs.map V.str) := by
  obtain ⟨h1, h2⟩ := ba h
  exact ⟨_, eqO_ok h1, fun H => seqB_ok h2 H⟩
/-- the class of an error with a field -/
def oexB (K : PySem.W.Frag) (C : Addr) : Bool := match K.lookup C with
  | some ⟨.type t, _, .cls cd, sl⟩ => decide (t = "type") && ((match cd.mro with
      | .ref c :: bm => decide (c = C) && PySem.HandSPX.refsVE bm
      | _ => false) && (cd.hasDict && (!cd.hasDel && (match sl.toList with
      | [_, _, _, _, some (.builtin z), _] => decide (z = "ValueError.__new__")
      | _ => false))))
  | _ => false
theorem oexB_ok {K : PySem.W.Frag} {C : Addr} (h : oexB K C = true) : ∃ nm q N bs bm sn sub ab col dd k0 k1 k2 k3 k5, K.lookup C = some (excClassObj nm q C N bs bm true sn sub ab col dd k0 k1 k2 k3 k5 "ValueError.__new__") ∧ PySem.HandSPX.refsVE bm = true := by
  unfold oexB at h
  cases q : K.lookup C with
  | none =>
    rw [q] at h
    cases h
  | some o =>
    obtain ⟨oc, od, dt, osl⟩ := o
    rw [q] at h
    cases oc with
    | type t =>
      cases dt with
      | cls cd =>
        obtain ⟨n1, n2, n3, n4, n5, n6, n7, n8, n9, n10, n11⟩ := cd
        obtain ⟨h1, h2⟩ := ba h
        obtain ⟨h3, h4⟩ := ba h2
        obtain ⟨h5, h6⟩ := ba h4
        obtain ⟨h7, h8⟩ := ba h6
        have e1 : t = "type" := of_decide_eq_true h1
        dsimp only at h3 h5 h7 h8
        subst h5
        have e7 : n11 = false := by simpa using h7
        subst e1 e7
        cases n3 with
        | nil => cases h3
        | cons v bm =>
          cases v with
          | ref c =>
            obtain ⟨h9, h10⟩ := ba (show (decide (c = C) && PySem.HandSPX.refsVE bm) = true from h3)
            have e9 : c = C := of_decide_eq_true h9
            subst e9
            obtain ⟨osl⟩ := osl
            match osl, h8 with
            | [k0, k1, k2, k3, some (.builtin z), k5], h8 =>
              have e10 : z = "ValueError.__new__" := of_decide_eq_true h8
              subst e10
              exact ⟨n1, n5, n4, n2, bm, n7, n8, n9, n10, od, k0, k1, k2, k3, k5, rfl, h10⟩
          | _ => cases h3
      | _ => cases h
    | _ => cases dt <;> cases h
def xiB (K : PySem.W.Frag) (C : Addr) (i : Addr) : List Bool := [oexB K C, eqO (PySem.W.findIn K (.ref C) "__setattr__") (some (some (.builtin "object.__setattr__"))), decide (PySem.W.subIn K (.ref C) (.type "BaseException") = some true), eqV (PySem.W.typeIn K (.ref C)) (some (.type "type")), PySem.W.keepIn K (.ref C), xfB K C,
  eqO (PySem.W.findIn K (.ref C) "index") (some none), eqO (PySem.W.findIn K (.ref C) "__init__") (some (some (.ref i))), eqV (PySem.W.typeIn K (.ref i)) (some (.type "function"))]
/-- what an error class with a field index has -/
structure XiF (K : PySem.W.Frag) (C fI : Addr) : Prop where
  o : OexC K C
  f : XfC K C
  n : PySem.W.findIn K (.ref C) "index" = some none
  i : PySem.W.findIn K (.ref C) "__init__" = some (some (.ref fI))
  t : PySem.W.typeIn K (.ref fI) = some (.type "function")
theorem all_at {l : List Bool} (h : l.all id = true) (i : Nat) {x : Bool} (e : l[i]? = some x := by rfl) : x = true := List.all_eq_true.mp h x (List.mem_of_getElem? e)
theorem xiB_ok {K : PySem.W.Frag} {C i : Addr} (h : (xiB K C i).all id = true) : XiF K C i :=
  ⟨⟨oexB_ok (all_at h 0), eqO_ok (all_at h 1), of_decide_eq_true (all_at h 2), of_decide_eq_true (all_at h 3), all_at h 4⟩, xfB_ok (all_at h 5), eqO_ok (all_at h 6), eqO_ok (all_at h 7), of_decide_eq_true (all_at h 8)⟩
/-- an own class beside the built-in ones -/
def ownB (K : PySem.W.Frag) (C : Addr) : List Bool := [eqO (PySem.W.findIn K (.ref C) "__class__") (some (some (.builtin "object.__class__"))), eqO (PySem.W.specialIn K (.builtin "object.__class__") "__get__") (some (some (.builtin "getset_descriptor.__get__"))), decide (PySem.W.takesIn K (.builtin "object.__class__") = some true),
  decide (PySem.W.mroIn K C (.type "object") = some true), eqV (PySem.W.typeIn K (.ref C)) (some (.type "type")), PySem.W.isClsIn K C, decide (PySem.W.subIn K (.type "tuple") (.ref C) = some false), decide (PySem.W.subIn K (.ref C) (.type "tuple") = some false)]
structure OwnF (K : PySem.W.Frag) (C : Addr) : Prop where
  ha : PySem.W.findIn K (.ref C) "__class__" = some (some (.builtin "object.__class__"))
  hn : PySem.W.specialIn K (.builtin "object.__class__") "__get__" = some (some (.builtin "getset_descriptor.__get__"))
  ht : PySem.W.takesIn K (.builtin "object.__class__") = some true
  hm : PySem.W.mroIn K C (.type "object") = some true
  ty : PySem.W.typeIn K (.ref C) = some (.type "type")
  ic : PySem.W.isClsIn K C = true
  st : PySem.W.subIn K (.type "tuple") (.ref C) = some false
  ct : PySem.W.subIn K (.ref C) (.type "tuple") = some false
theorem ownB_ok {K : PySem.W.Frag} {C : Addr} (h : (ownB K C).all id = true) : OwnF K C :=
  ⟨eqO_ok (all_at h 0), eqO_ok (all_at h 1), of_decide_eq_true (all_at h 2), of_decide_eq_true (all_at h 3), of_decide_eq_true (all_at h 4), all_at h 5, of_decide_eq_true (all_at h 6), of_decide_eq_true (all_at h 7)⟩
/-- a property: its object, its getter -/
def prG (K : PySem.W.Frag) (p : Addr) : Addr := match PySem.W.recIn K p "property" with
  | some (.ref g :: _) => g
  | _ => 0
def prB (K : PySem.W.Frag) (C : Addr) (f : Str) : List Bool := [eqO (PySem.W.findIn K (.ref C) f) (some (some (.ref (ma K C f)))), eqO (PySem.W.specialIn K (.ref (ma K C f)) "__get__") (some (some (.builtin "property.__get__"))), decide (PySem.W.takesIn K (.ref (ma K C f)) = some true),
  (match PySem.W.recIn K (ma K C f) "property" with
  | some (.ref _ :: _) => true
  | _ => false)]
theorem prB_ok {K : PySem.W.Frag} {C : Addr} {f : Str} (h : (prB K C f).all id = true) : PropOf K C f (ma K C f) (prG K (ma K C f)) := by
  refine ⟨eqO_ok (all_at h 0), eqO_ok (all_at h 1), of_decide_eq_true (all_at h 2), ?_⟩
  have h3 := all_at h 3
  unfold prG
  split at h3
  · next g r e =>
    rw [e]
    exact ⟨r, rfl⟩
  · cases h3
end Hk
namespace Bp
open PySem PySem.Spec PyProof.Rows L2 Bk Bm Evl Be Cr
def top (i : Nat) : Stmt := PySem.Challenge.pw_buildroom_k06_questions_refused.main.body.getD i (.Pass ⟨0, 0, 0, 0⟩)
abbrev sLies : Stmt := top 13
abbrev sWay : Stmt := top 14
abbrev sIsName : Stmt := top 15
abbrev sIsPath : Stmt := top 16
abbrev sIsFolder : Stmt := top 17
abbrev sIsText : Stmt := top 18
abbrev sHas : Stmt := top 19
/-- the built-ins and the module's constants -/
structure Gv (mg : Str → Option Value) : Prop where
  len : mg "len" = none
  all : mg "all" = none
  any : mg "any" = none
  isi : mg "isinstance" = none
  str : mg "str" = none
  tup : mg "tuple" = none
  lst : mg "list" = none
  int : mg "int" = none
  rng : mg "range" = none
  enu : mg "enumerate" = none
  mn : ∃ t, mg "MOST_NAMES" = some (.int 3 t)
  ln : ∃ t, mg "LONGEST_NAME" = some (.int 6 t)
  lt : ∃ t, mg "LONGEST_TEXT" = some (.int 200 t)
  zip : mg "zip" = none
  srt : mg "sorted" = none
  max : mg "max" = none
  mr : ∃ t, mg "MOST_RULES" = some (.int 8 t)
  mj : ∃ t, mg "MOST_JOINED" = some (.int 4 t)
  lw : ∃ t, mg "LONGEST_WORD" = some (.int 8 t)
  mf : ∃ t, mg "MOST_FILES" = some (.int 20 t)
section
variable {σ : L2.St} {H : Hp}
theorem rv_leS {a b : Str} {k : Bool} (e : (!decide (b.cps.toList < a.cps.toList)) = k) : RV (fun x y H Q => ∃ i j, x = V.str i ∧ y = V.str j ∧ Q (.bl (!decide (j.cps.toList < i.cps.toList))) H) (.str a) (.str b) H (.bl k) := fun H1 _ Q q =>
  ⟨a, b, rfl, rfl, by rw [e]; exact q H1 (Ex.refl H1)⟩
theorem rv_gtS {a b : Str} : RV (fun x y H Q => ∃ i j, x = V.str i ∧ y = V.str j ∧ Q (.bl (decide (j.cps.toList < i.cps.toList))) H) (.str a) (.str b) H (.bl (decide (b.cps.toList < a.cps.toList))) := fun H1 _ Q q =>
  ⟨a, b, rfl, rfl, q H1 (Ex.refl H1)⟩
theorem not_lt_dec (a b : Nat) : (!decide (a < b)) = decide (b ≤ a) := by
  by_cases h : a < b
  · rw [decide_eq_true h, decide_eq_false (by omega)]; rfl
  · rw [decide_eq_false h, decide_eq_true (by omega)]; rfl
theorem le_lo {c n : Nat} : (!decide ((⟨#[c]⟩ : Str).cps.toList < (⟨#[n]⟩ : Str).cps.toList)) = decide (n ≤ c) := by
  show (!decide (([c] : List Nat) < [n])) = _
  rw [lt_one, not_lt_dec]
end
section
variable {P : Program} {w : World} {K : PySem.W.Frag} {mg : Str → Option Value} {base : Heap}
/-! ### is_name -/
def spName : Sp := fun vs H Q _ => ∃ x : Str, vs = [.str x] ∧ x.length ≤ 100000 ∧ RetV (.bl (nameB x)) H Q
theorem scName : FnScope ["word", "sign"] ["word"] (defScope sIsName) := ⟨rfl, rfl, rfl, by decide +kernel, rfl, by decide +kernel, by decide +kernel⟩
theorem ok_name {f : Addr} {fd : FuncData} (F : Fun K "is_name" "is_name" sIsName f fd) (T : Gv mg) : FnOk P w K mg base CX0 1 f fd ["word"] spName := by
  refine F.ok scName (fun vs H Q E h => ?_) (fun cdv A outer s H vs Q E hr h => ?_)
  · obtain ⟨x, rfl, _⟩ := h
    rfl
  · obtain ⟨x, rfl, hl, k⟩ := h
    obtain ⟨t1, m1⟩ := T.ln
    refine ⟨_, pss_one (ps_ret (pe_and (pe_chain op_le op_le pe_int (pe_callB call_len_str (by rfl) T.len PySem.boot_len (pa_cons (pv 0) pa_nil)) (pe_glob (v := .int 6) (by rfl) m1 ⟨_, rfl⟩))
      (pe_one (pe_callB (cr_all rfl) (by rfl) T.all boot_all (pa_cons (pe_lc (own := [("sign", 1)]) (g := gName 1) (tt := tYes) rfl scName.nd (pi_str (pv 0)) (blkOk_by (N := ["word", "sign"]) (sc := defScope sIsName) (by decide +kernel))
        (fun _ _ _ _ _ => pg_name (i := 1) scName.nd rfl (Or.inl rfl)) (fun _ _ _ _ _ => pts_nil)
        (fun _ _ _ _ _ => pe_or (pe_chain op_le_str op_le_str pe_str (pv 1) pe_str) (pe_one (pe_chain op_le_str op_le_str pe_str (pv 1) pe_str)))) pa_nil))))), ?_⟩
    refine s_ret (v := .bl (nameB x)) ?_ k
    refine ev_is (ev_and (a := decide ((1:Int) ≤ x.length) && decide ((x.length : Int) ≤ 6)) (b := (x.cps.toList.map sgnN).all id)
      (ev_chain ev_c (ev_lenS (ev_var rfl) hl) (rv_I0) (fun _ => ev_c) (fun _ => rv_I0))
      (fun hh => ev_all (ev_isL (el_lcS (fun c => .bl (sgnN c)) (ev_var rfl) ?_ fun c H1 e1 hc => ?_) ?_))) ?_
    · simp only [Bool.and_eq_true, decide_eq_true_eq] at hh
      omega
    · exact ev_orV (a := decide (97 ≤ c) && decide (c ≤ 122)) (b := decide (48 ≤ c) && decide (c ≤ 57)) (ev_chain ev_c (ev_var rfl) (rv_leS le_lo) (fun _ => ev_c) (fun _ => rv_leS le_lo)) (fun _ => ev_chain ev_c (ev_var rfl) (rv_leS le_lo) (fun _ => ev_c) (fun _ => rv_leS le_lo))
    · simp
    · have d1 : decide ((1 : Int) ≤ (x.length : Int)) = decide (1 ≤ x.length) := decide_eq_decide.mpr (by omega)
      have d2 : decide ((x.length : Int) ≤ 6) = decide (x.length ≤ 6) := decide_eq_decide.mpr (by omega)
      rw [d1, d2]
      simp [nameB, List.all_map]
/-! ### is_path -/
def spPath : Sp := fun vs H Q _ => ∃ v n, vs = [v] ∧ Kd K H v n ∧ (∀ x, v = .str x → x.length ≤ 100000) ∧ RetV (.bl (isPathV v)) H Q
theorem scPath : FnScope ["value", "names", "name"] ["value"] (defScope sIsPath) := ⟨rfl, rfl, rfl, by decide +kernel, rfl, by decide +kernel, by decide +kernel⟩
theorem ok_path {f : Addr} {fd : FuncData} (F : Fun K "is_path" "is_path" sIsPath f fd) (T : Gv mg) (cN : Cal P w K mg base CX0 1 "is_name" ["word"] spName) : FnOk P w K mg base CX0 2 f fd ["value"] (spPath (K := K)) := by
  refine F.ok scPath (fun vs H Q E h => ?_) (fun cdv A outer s H vs Q E hr h => ?_)
  · obtain ⟨x, n, rfl, _⟩ := h
    rfl
  · obtain ⟨v, n, rfl, kd, hl, k⟩ := h
    obtain ⟨t1, m1⟩ := T.mn
    refine ⟨_, pss_cons (ps_if (pt_not (pt_val (pe_callB call_isi (by rfl) T.isi boot_isinstance (pa_cons (pv 0) (pa_cons (pe_bltn (v := .ty "str") (by rfl) T.str (by decide +kernel) rfl) pa_nil))))) (pss_one (ps_ret pe_bl)) pss_nil)
      (pss_cons (ps_set (i := 1) scPath.nd rfl (Or.inl rfl) (pe_split (pv 0) pe_str))
      (pss_one (ps_ret (pe_and (pe_cmpR op_le (pe_callB call_len_seq (by rfl) T.len PySem.boot_len (pa_cons (pv 1) pa_nil)) (pe_glob (v := .int 3) (by rfl) m1 ⟨_, rfl⟩) (nomark _))
        (pe_one (pe_callB (cr_all rfl) (by rfl) T.all boot_all (pa_cons (pe_lc (own := [("name", 2)]) (g := gName 2) (tt := tYes) rfl scPath.nd (pi_list (pv 1)) (blkOk_by (N := ["value", "names", "name"]) (sc := defScope sIsPath) (by decide +kernel))
          (fun _ _ _ _ _ => pg_name (i := 2) scPath.nd rfl (Or.inl rfl)) (fun _ _ _ _ _ => pts_nil)
          (fun _ _ _ _ _ => pe_call cN.F hr rfl cN.g cN.kp cN.b .nil pass0 (pa_cons (pv 2) pa_nil))) pa_nil))))))), ?_⟩
    refine q_when (et_not (et_B (ev_isi (ev_var rfl) ev_c kd (.inl rfl)))) (fun hb H1 e1 => ?_) (fun hb H1 e1 => ?_)
    · have hn : n ≠ "str" := by simpa using hb
      refine s_ret (v := .bl (isPathV v)) (ev_is ev_c ?_) fun H2 e2 => k H2 (e1.trans e2)
      cases v with
      | str x => exact absurd (kd_strV kd) hn
      | _ => rfl
    · have hn : n = "str" := by simpa using hb
      subst hn
      obtain ⟨x, rfl⟩ := kd_isStr kd
      have hx := hl x rfl
      refine q_asgL (el_split (ev_var rfl) ev_c (by decide) hx) fun p H2 hp e2 h2 => ?_
      refine s_ret (v := .bl (pathB x)) ?_ fun H3 e3 => k H3 ((e1.trans e2).trans e3)
      refine ev_is (ev_and (a := decide (((partsOf x).length : Int) ≤ 3)) (b := ((partsOf x).map nameB).all id)
        (ev_is (ev_op (ev_len (ev_var rfl) (sq_of h2)) ev_c rv_I0) ?_)
        (fun hh => ev_all (ev_isL (el_lcA (fun y => match y with | .str z => .bl (nameB z) | _ => .non) (ev_var rfl) (sq_of h2) ?_ fun y H4 e4 hy => ?_) ?_))) ?_
      · rw [List.length_map]
        rfl
      · have h3 : ((partsOf x).length : Int) ≤ 3 := by simpa using hh
        rw [List.length_map]
        have h4 : (Txt.split x (Str.ofString "/")).length = (partsOf x).length := rfl
        omega
      · obtain ⟨z, hz, rfl⟩ := List.mem_map.mp hy
        have h5 := part_len (x := x) (p := z) hz
        exact ev_call (ea_cons (ev_var rfl) ea_nil) fun H5 e5 Q' q' E' => ⟨z, rfl, by omega, q'⟩
      · simp [partsOf]
      · have d1 : decide (((partsOf x).length : Int) ≤ 3) = decide ((partsOf x).length ≤ 3) := decide_eq_decide.mpr (by omega)
        rw [d1]
        simp [pathB, List.all_map]
/-! ### is_text -/
def spText : Sp := fun vs H Q _ => ∃ v n, vs = [v] ∧ Kd K H v n ∧ (∀ x, v = .str x → x.length ≤ 100000) ∧ RetV (.bl (isTextV v)) H Q
theorem scHas : FnScope ["value", "most", "sign"] ["value", "most"] (defScope sHas) := ⟨rfl, rfl, rfl, by decide +kernel, rfl, by decide +kernel, by decide +kernel⟩
def hasB (m : Nat) (x : Str) : Bool := decide (x.length ≤ m) && x.cps.toList.all sgnT
def hasV (m : Nat) : V → Bool
  | .str x => hasB m x
  | _ => false
def spHas : Sp := fun vs H Q _ => ∃ v n, ∃ m : Nat, vs = [v, .int (m : Int)] ∧ m ≤ 40000 ∧ Kd K H v n ∧ (∀ x, v = .str x → x.length ≤ 100000) ∧ RetV (.bl (hasV m v)) H Q
theorem ok_has {f : Addr} {fd : FuncData} (F : Fun K "has_signs" "has_signs" sHas f fd) (T : Gv mg) : FnOk P w K mg base CX0 1 f fd ["value", "most"] (spHas (K := K)) := by
  refine F.ok scHas (fun vs H Q E h => ?_) (fun cdv A outer s H vs Q E hr h => ?_)
  · obtain ⟨x, n, m, rfl, _⟩ := h
    rfl
  · obtain ⟨v, n, m, rfl, hm, kd, hl, k⟩ := h
    refine ⟨_, pss_cons (ps_if (pw_or (pt_not (pt_val (pe_callB call_isi (by rfl) T.isi boot_isinstance (pa_cons (pv 0) (pa_cons (pe_bltn (v := .ty "str") (by rfl) T.str (by decide +kernel) rfl) pa_nil)))))
        (pw_or1 (pt_cmpR op_gt (pe_callB call_len_str (by rfl) T.len PySem.boot_len (pa_cons (pv 0) pa_nil)) (pv 1) (nomark _)))).pt (pss_one (ps_ret pe_bl)) pss_nil)
      (pss_one (ps_ret (pe_callB (cr_all rfl) (by rfl) T.all boot_all (pa_cons (pe_lc (own := [("sign", 2)]) (g := gName 2) (tt := tYes) rfl scHas.nd (pi_str (pv 0)) (blkOk_by (N := ["value", "most", "sign"]) (sc := defScope sHas) (by decide +kernel))
          (fun _ _ _ _ _ => pg_name (i := 2) scHas.nd rfl (Or.inl rfl)) (fun _ _ _ _ _ => pts_nil)
          (fun _ _ _ _ _ => pe_or (pe_chain op_le_str op_le_str pe_str (pv 2) pe_str) (pe_one (pe_cmpR op_eq (pv 2) pe_str (nomark _))))) pa_nil)))), ?_⟩
    refine q_when (b := !(decide (n = "str")) || (match v with | .str x => decide ((m : Int) < x.length) | _ => false)) (et_or (et_not (et_B (ev_isi (ev_var rfl) ev_c kd (.inl rfl)))) fun hb => ?_) (fun hb H1 e1 => ?_) (fun hb H1 e1 => ?_)
    · have hn : n = "str" := by simpa using hb
      subst hn
      obtain ⟨x, rfl⟩ := kd_isStr kd
      exact et_test (ev_op (ev_lenS (ev_var rfl) (hl x rfl)) (ev_var rfl) rv_I0)
    · refine s_ret (v := .bl (hasV m v)) (ev_is ev_c ?_) fun H2 e2 => k H2 (e1.trans e2)
      cases v with
      | str x =>
        have hn := kd_strV kd
        subst hn
        have h6 : (m : Int) < x.length := by simpa using hb
        have h7 : hasB m x = false := by
          simp only [hasB, Bool.and_eq_false_iff, decide_eq_false_iff_not]
          left
          omega
        show _ = V.bl (hasB m x)
        rw [h7]
      | _ => rfl
    · have hb' := hb
      simp only [Bool.or_eq_false_iff] at hb'
      have hn : n = "str" := by simpa using hb'.1
      subst hn
      obtain ⟨x, rfl⟩ := kd_isStr kd
      have h6 : (x.length : Int) ≤ m := by simpa using hb'.2
      refine s_ret (v := .bl (hasB m x)) ?_ fun H2 e2 => k H2 (e1.trans e2)
      refine ev_is (ev_all (bs := x.cps.toList.map sgnT) (ev_isL (el_lcS (fun c => .bl (sgnT c)) (ev_var rfl) (by omega) fun c H1 e1 hc => ?_) ?_)) ?_
      · exact ev_orV (a := decide (32 ≤ c) && decide (c ≤ 126)) (b := decide (c = 10)) (ev_chain ev_c (ev_var rfl) (rv_leS le_lo) (fun _ => ev_c) (fun _ => rv_leS le_lo)) (fun _ => ev_is (ev_op (ev_var rfl) ev_c (rv_eq rfl)) (by
          congr 1
          rw [Bool.eq_iff_iff, decide_eq_true_eq, decide_eq_true_eq]
          constructor
          · intro h
            injection h with h
            have h8 : ([c] : List Nat) = [10] := congrArg (fun z : Str => z.cps.toList) h
            simpa using h8
          · rintro rfl
            rfl))
      · simp
      · simp [hasB, List.all_map]
        intro _
        omega
theorem scText : FnScope ["value"] ["value"] (defScope sIsText) := ⟨rfl, rfl, rfl, by decide +kernel, rfl, by decide +kernel, by decide +kernel⟩
theorem ok_text {f : Addr} {fd : FuncData} (F : Fun K "is_text" "is_text" sIsText f fd) (T : Gv mg) (cH : Cal P w K mg base CX0 1 "has_signs" ["value", "most"] (spHas (K := K))) : FnOk P w K mg base CX0 2 f fd ["value"] (spText (K := K)) := by
  refine F.ok scText (fun vs H Q E h => ?_) (fun cdv A outer s H vs Q E hr h => ?_)
  · obtain ⟨x, n, rfl, _⟩ := h
    rfl
  · obtain ⟨v, n, rfl, kd, hl, k⟩ := h
    obtain ⟨t1, m1⟩ := T.lt
    refine ⟨_, pss_one (ps_ret (pe_call cH.F hr (by rfl) cH.g cH.kp cH.b .nil pass0 (pa_cons (pv 0) (pa_cons (pe_glob (v := .int 200) (by rfl) m1 ⟨_, rfl⟩) pa_nil)))), ?_⟩
    refine s_ret (v := .bl (isTextV v)) (ev_call (ea_cons (ev_var rfl) (ea_cons ev_c ea_nil)) fun H1 e Q q E => ⟨v, n, 200, rfl, by decide, kd.mono e, hl, ?_⟩) k
    have z : hasV 200 v = isTextV v := by cases v <;> rfl
    rw [z]
    exact q
/-! ### is_folder -/
theorem scFolder : FnScope ["value"] ["value"] (defScope sIsFolder) := ⟨rfl, rfl, rfl, by decide +kernel, rfl, by decide +kernel, by decide +kernel⟩
/-! ### lies_within -/
def spLies : Sp := fun vs H Q _ => ∃ p f : Str, vs = [.str p, .str f] ∧ f.length ≤ 100000 ∧ RetV (.bl (within p f)) H Q
theorem scLies : FnScope ["path", "folder"] ["path", "folder"] (defScope sLies) := ⟨rfl, rfl, rfl, by decide +kernel, rfl, by decide +kernel, by decide +kernel⟩
theorem ok_lies {f : Addr} {fd : FuncData} (F : Fun K "lies_within" "lies_within" sLies f fd) : FnOk P w K mg base CX0 1 f fd ["path", "folder"] spLies := by
  refine F.ok scLies (fun vs H Q E h => ?_) (fun cdv A outer s H vs Q E hr h => ?_)
  · obtain ⟨x, n, rfl, _⟩ := h
    rfl
  · obtain ⟨p, fo, rfl, hl, k⟩ := h
    refine ⟨_, pss_one (ps_ret (pe_or (pe_cmpR op_eq (pv 1) pe_str (nomark _)) (pe_one (pe_m1 PySem.F.slot_str_startswith PySem.F.type_str_startswith mt_startswith (pv 0) (pe_op op_add_str (pv 1) pe_str))))), ?_⟩
    refine s_ret (v := .bl (within p fo)) ?_ k
    refine ev_is (ev_orV (a := decide (V.str fo = V.str (Str.ofString ""))) (b := Txt.startswith p (fo ++ Str.ofString "/")) (ev_op (ev_var rfl) ev_c (rv_eq rfl)) (fun _ =>
      fun H1 e1 Q q => ⟨_, rfl, ⟨p, rfl⟩, ev_op (r := fun x y H Q => ∃ i j, x = .str i ∧ y = .str j ∧ i.length + j.length ≤ sizeLine ∧ Q (.str (i ++ j)) H) (ev_var (v := .str fo) rfl) (ev_c (v := .str (Str.ofString "/"))) (z := .str (fo ++ Str.ofString "/"))
        (fun H2 e2 Q2 q2 => ⟨fo, _, rfl, rfl, Nat.le_trans (Nat.add_le_add_right hl 1) (by rw [sizeLine_eq]; decide), q2 H2 (Ex.refl _)⟩) H1 e1 _ fun H2 e2 => ⟨p, _, rfl, rfl, q H2 e2⟩⟩)) ?_
    simp [within]
/-! ### in_the_way -/
def way (p q : Str) : Bool := decide (p = q) || (within p q || within q p)
def spWay : Sp := fun vs H Q _ => ∃ p q : Str, vs = [.str p, .str q] ∧ p.length ≤ 100000 ∧ q.length ≤ 100000 ∧ RetV (.bl (way p q)) H Q
theorem scWay : FnScope ["one", "other"] ["one", "other"] (defScope sWay) := ⟨rfl, rfl, rfl, by decide +kernel, rfl, by decide +kernel, by decide +kernel⟩
theorem ok_way {f : Addr} {fd : FuncData} (F : Fun K "in_the_way" "in_the_way" sWay f fd) (cL : Cal P w K mg base CX0 1 "lies_within" ["path", "folder"] spLies) : FnOk P w K mg base CX0 2 f fd ["one", "other"] spWay := by
  refine F.ok scWay (fun vs H Q E h => ?_) (fun cdv A outer s H vs Q E hr h => ?_)
  · obtain ⟨x, n, rfl, _⟩ := h
    rfl
  · obtain ⟨p, q, rfl, hp, hq, k⟩ := h
    refine ⟨_, pss_one (ps_ret (pe_or (pe_cmpR op_eq (pv 0) (pv 1) (nomark _)) (pe_or (pe_call cL.F hr (by rfl) cL.g cL.kp cL.b .nil pass0 (pa_cons (pv 0) (pa_cons (pv 1) pa_nil)))
      (pe_one (pe_call cL.F hr (by rfl) cL.g cL.kp cL.b .nil pass0 (pa_cons (pv 1) (pa_cons (pv 0) pa_nil))))))), ?_⟩
    refine s_ret (v := .bl (way p q)) ?_ k
    refine ev_is (ev_orV (a := decide (V.str p = V.str q)) (b := within p q || within q p) (ev_op (ev_var rfl) (ev_var rfl) (rv_eq rfl)) (fun _ =>
      ev_orV (ev_call (ea_cons (ev_var rfl) (ea_cons (ev_var rfl) ea_nil)) fun H5 e5 Q' q' E' => ⟨p, q, rfl, hq, q'⟩) (fun _ => ev_call (ea_cons (ev_var rfl) (ea_cons (ev_var rfl) ea_nil)) fun H5 e5 Q' q' E' => ⟨q, p, rfl, hp, q'⟩))) ?_
    simp [way]
end
/-- a small value of any kind -/
inductive Sm (H : Hp) : V → Prop
  | non : Sm H .non
  | bl (b : Bool) : Sm H (.bl b)
  | int (i : Int) : Sm H (.int i)
  | str (x : Str) (h : x.length ≤ 1000) : Sm H (.str x)
  | l1 {a : Addr} (h : H a = some (.lst [.str (Str.ofString "a")])) : Sm H (.ref a)
  | t1 {a : Addr} (h : H a = some (.tup [.str (Str.ofString "a")])) : Sm H (.ref a)
  | d0 {a : Addr} (h : H a = some (.dK [])) : Sm H (.ref a)
section
variable {H H' : Hp} {K : PySem.W.Frag} {v : V}
theorem Sm.mono (e : Ex H H') (h : Sm H v) : Sm H' v := by
  cases h with
  | non => exact .non
  | bl b => exact .bl b
  | int i => exact .int i
  | str x h => exact .str x h
  | l1 h => exact .l1 (e _ _ h)
  | t1 h => exact .t1 (e _ _ h)
  | d0 h => exact .d0 (e _ _ h)
theorem Sm.kd (h : Sm H v) : ∃ n, Kd K H v n := by
  cases h with
  | non => exact ⟨_, kd_non⟩
  | bl b => exact ⟨_, kd_bl b⟩
  | int i => exact ⟨_, kd_int i⟩
  | str x h => exact ⟨_, kd_str x⟩
  | l1 h => exact ⟨_, kd_lst h⟩
  | t1 h => exact ⟨_, kd_tup h⟩
  | d0 h => exact ⟨_, kd_dK h⟩
theorem Sm.len {x : Str} (h : Sm H (.str x)) : x.length ≤ 1000 := by
  cases h with
  | str _ h => exact h
/-- v == "z", v != "z" for small values -/
theorem sh_a : SeqAt.shaped (.tuple [.str (Str.ofString "a")]) = true := by decide +kernel
theorem sh_l : SeqAt.shaped (.list [.str (Str.ofString "a")]) = true := by decide +kernel
def rEqSm (K : PySem.W.Frag) : R2 := fun x y H Q => rEq x y H Q ∨ (rEqD K x y H Q ∨ rDS false x y H Q)
def rNeSm (K : PySem.W.Frag) : R2 := fun x y H Q => rNe x y H Q ∨ (rNeD K x y H Q ∨ rDS true x y H Q)
theorem op_eqSm {X : Cx} (hu : X.A.units + 64 < cLine) : OpR X (compareOp .Eq) (rEqSm X.K) := op_or op_eq (op_or (op_eqD hu) (op_eq_ds (by omega)))
theorem op_neSm {X : Cx} (hu : X.A.units + 64 < cLine) : OpR X (compareOp .NotEq) (rNeSm X.K) := op_or op_ne (op_or (op_neD hu) (op_ne_ds (by omega)))
theorem rv_eqSm {z : Str} (h : Sm H v) (hz : SeqAt.shaped (.str z) = true) : RV (rEqSm K) v (.str z) H (.bl (decide (v = .str z))) := fun H1 e Q q => by
  have g := h.mono e
  have q1 := q H1 (Ex.refl _)
  cases g with
  | non => exact .inl ⟨rfl, q1⟩
  | bl b => exact .inl ⟨rfl, q1⟩
  | int i => exact .inl ⟨rfl, q1⟩
  | str x h => exact .inl ⟨rfl, q1⟩
  | l1 g1 => exact .inr (.inl ⟨_, _, .lst (SqL.of g1) (.cons (.str _) .nil), .str z, sh_l, hz, by simpa [PyData.eqv] using q1⟩)
  | t1 g1 => exact .inr (.inl ⟨_, _, .tup (SqT.of g1) (.cons (.str _) .nil), .str z, sh_a, hz, by simpa [PyData.eqv] using q1⟩)
  | d0 g1 => exact .inr (.inr ⟨_, _, _, rfl, rfl, g1, by simpa using q1⟩)
theorem rv_neSm {z : Str} (h : Sm H v) (hz : SeqAt.shaped (.str z) = true) : RV (rNeSm K) v (.str z) H (.bl (!decide (v = .str z))) := fun H1 e Q q => by
  have g := h.mono e
  have q1 := q H1 (Ex.refl _)
  cases g with
  | non => exact .inl ⟨rfl, q1⟩
  | bl b => exact .inl ⟨rfl, q1⟩
  | int i => exact .inl ⟨rfl, q1⟩
  | str x h => exact .inl ⟨rfl, q1⟩
  | l1 g1 => exact .inr (.inl ⟨_, _, .lst (SqL.of g1) (.cons (.str _) .nil), .str z, sh_l, hz, by simpa [PyData.eqv] using q1⟩)
  | t1 g1 => exact .inr (.inl ⟨_, _, .tup (SqT.of g1) (.cons (.str _) .nil), .str z, sh_a, hz, by simpa [PyData.eqv] using q1⟩)
  | d0 g1 => exact .inr (.inr ⟨_, _, _, rfl, rfl, g1, by simpa using q1⟩)
end
section
variable {P : Program} {w : World} {K : PySem.W.Frag} {mg : Str → Option Value} {base : Heap}
theorem spv_path {v : V} {H : Hp} (h : Sm H v) : SpV (spPath (K := K)) [v] H (.bl (isPathV v)) := fun H1 e Q q E => by
  obtain ⟨n, kd⟩ := (h.mono e).kd (K := K)
  exact ⟨v, n, rfl, kd, fun x hx => by subst hx; exact Nat.le_trans h.len (by decide), q⟩
theorem spv_text {v : V} {H : Hp} (h : Sm H v) : SpV (spText (K := K)) [v] H (.bl (isTextV v)) := fun H1 e Q q E => by
  obtain ⟨n, kd⟩ := (h.mono e).kd (K := K)
  exact ⟨v, n, rfl, kd, fun x hx => by subst hx; exact Nat.le_trans h.len (by decide), q⟩
/-! ### is_folder -/
def spFolder : Sp := fun vs H Q _ => ∃ v, vs = [v] ∧ Sm H v ∧ RetV (.bl (isFolderV v)) H Q
theorem ok_folder {f : Addr} {fd : FuncData} (F : Fun K "is_folder" "is_folder" sIsFolder f fd) (cP : Cal P w K mg base CX0 2 "is_path" ["value"] (spPath (K := K))) : FnOk P w K mg base CX0 3 f fd ["value"] spFolder := by
  refine F.ok scFolder (fun vs H Q E h => ?_) (fun cdv A outer s H vs Q E hr h => ?_)
  · obtain ⟨x, rfl, _⟩ := h
    rfl
  · obtain ⟨v, rfl, sm, k⟩ := h
    have hu : (A.deeper (envOfC "is_folder" (defScope sIsFolder) s.heap.objs.size f cdv)).units + 64 < cLine := by have := hr.un; omega
    refine ⟨_, pss_one (ps_ret (pe_or (pe_call cP.F hr (by rfl) cP.g cP.kp cP.b .nil pass0 (pa_cons (pv 0) pa_nil)) (pe_one (pe_cmpR (op_eqSm hu) (pv 0) pe_str (nomark _))))), ?_⟩
    refine s_ret (v := .bl (isFolderV v)) ?_ k
    refine ev_is (ev_orV (a := isPathV v) (b := decide (v = .str (Str.ofString ""))) (ev_call (ea_cons (ev_var rfl) ea_nil) (spv_path sm)) (fun _ => ev_op (ev_var rfl) ev_c (rv_eqSm sm (by decide +kernel)))) ?_
    cases v <;> simp [isPathV, isFolderV]
theorem ev_lenT {σ : L2.St} {H : Hp} {ta : TE} {p : Addr} {xs : List V} (ha : Ev ta σ H (.ref p)) (h : SqT K H p xs) : Ev (tCB (rLenS K) (tCons ta tNil)) σ H (.int (xs.length : Int)) := fun H1 e Q q =>
  ha H1 e _ fun H2 e2 => ⟨p, xs, rfl, Or.inr (ex_t (e.trans e2) h), q H2 e2⟩
end
end Bp
namespace Bp
open PySem PySem.Spec PyProof.Rows L2 Bk Bm Evl Be Cr
abbrev sIsWord : Stmt := top 40
abbrev sFits : Stmt := top 41
/-- a thing behind a rule's kind: no tuple, or a tuple of small values -/
inductive Th (K : PySem.W.Frag) (H : Hp) : V → Option (List V) → Prop
  | sm {v : V} {n : String} (h : Sm H v) (k : Kd K H v n) (hn : n ≠ "tuple") : Th K H v none
  | tu {a : Addr} {xs : List V} (h : H a = some (.tup xs)) (hx : ∀ x ∈ xs, Sm H x) (hl : xs.length ≤ 1000) : Th K H (.ref a) (some xs)
section
variable {K : PySem.W.Frag} {H H' : Hp} {v : V} {o : Option (List V)}
theorem Th.mono (e : Ex H H') (h : Th K H v o) : Th K H' v o := by
  cases h with
  | sm h k hn => exact .sm (h.mono e) (k.mono e) hn
  | tu h hx hl => exact .tu (e _ _ h) (fun x hh => (hx x hh).mono e) hl
theorem Th.kd (h : Th K H v o) : ∃ n, Kd K H v n ∧ ∀ x, v = .str x → x.length ≤ 1000 := by
  cases h with
  | sm h k hn => exact ⟨_, k, fun x z => by subst z; exact h.len⟩
  | tu h hx hl => exact ⟨_, kd_tup h, fun x z => by cases z⟩
/-- every small value is such a thing -/
theorem th_of (h : Sm H v) : ∃ o, Th K H v o ∧ (isPathV v = false → ∀ xs, o = some xs → xs = [.str (Str.ofString "a")]) := by
  cases h with
  | non => exact ⟨_, .sm .non kd_non (by decide), fun _ _ z => by cases z⟩
  | bl b => exact ⟨_, .sm (.bl b) (kd_bl b) (by decide), fun _ _ z => by cases z⟩
  | int i => exact ⟨_, .sm (.int i) (kd_int i) (by decide), fun _ _ z => by cases z⟩
  | str x h => exact ⟨_, .sm (.str x h) (kd_str x) (by decide), fun _ _ z => by cases z⟩
  | l1 h => exact ⟨_, .sm (.l1 h) (kd_lst h) (by decide), fun _ _ z => by cases z⟩
  | t1 h => exact ⟨_, .tu h (fun x hx => by rw [List.mem_singleton.mp hx]; exact .str _ (by decide)) (by decide), fun _ _ z => by cases z; rfl⟩
  | d0 h => exact ⟨_, .sm (.d0 h) (kd_dK h) (by decide), fun _ _ z => by cases z⟩
end
def wordB (x : Str) : Bool := textB x && ((decide (1 ≤ x.length) && decide (x.length ≤ 8)) && !decide (10 ∈ x.cps.toList))
def isWordV : V → Bool
  | .str x => wordB x
  | _ => false
def fitsV (f : Str) (v : V) (o : Option (List V)) : Bool :=
  if f = Str.ofString "path" then isPathV v else if f = Str.ofString "word" then isWordV v else if f = Str.ofString "folder" then isFolderV v
  else match o with
    | some xs => decide (xs.length ≤ 4) && xs.all isPathV
    | none => false
section
variable {P : Program} {w : World} {K : PySem.W.Frag} {mg : Str → Option Value} {base : Heap}
theorem scWord : FnScope ["value"] ["value"] (defScope sIsWord) := ⟨rfl, rfl, rfl, by decide +kernel, rfl, by decide +kernel, by decide +kernel⟩
def spWord : Sp := fun vs H Q _ => ∃ v o, vs = [v] ∧ Th K H v o ∧ RetV (.bl (isWordV v)) H Q
theorem spv_textT {v : V} {o : Option (List V)} {H : Hp} (h : Th K H v o) : SpV (spText (K := K)) [v] H (.bl (isTextV v)) := fun H1 e Q q E => by
  obtain ⟨n, kd, hl⟩ := (h.mono e).kd (K := K)
  exact ⟨v, n, rfl, kd, fun x hx => Nat.le_trans (hl x hx) (by decide), q⟩
theorem spv_pathT {v : V} {o : Option (List V)} {H : Hp} (h : Th K H v o) : SpV (spPath (K := K)) [v] H (.bl (isPathV v)) := fun H1 e Q q E => by
  obtain ⟨n, kd, hl⟩ := (h.mono e).kd (K := K)
  exact ⟨v, n, rfl, kd, fun x hx => Nat.le_trans (hl x hx) (by decide), q⟩
theorem ok_word {f : Addr} {fd : FuncData} (F : Fun K "is_word" "is_word" sIsWord f fd) (T : Gv mg) (cT : Cal P w K mg base CX0 2 "is_text" ["value"] (spText (K := K))) : FnOk P w K mg base CX0 3 f fd ["value"] (spWord (K := K)) := by
  refine F.ok scWord (fun vs H Q E h => ?_) (fun cdv A outer s H vs Q E hr h => ?_)
  · obtain ⟨x, n, rfl, _⟩ := h
    rfl
  · obtain ⟨v, o, rfl, th, k⟩ := h
    obtain ⟨t1, m1⟩ := T.lw
    refine ⟨_, pss_one (ps_ret (pe_and (pe_call cT.F hr (by rfl) cT.g cT.kp cT.b .nil pass0 (pa_cons (pv 0) pa_nil))
      (pe_and (pe_chain op_le op_le pe_int (pe_callB call_len_str (by rfl) T.len PySem.boot_len (pa_cons (pv 0) pa_nil)) (pe_glob (v := .int 8) (by rfl) m1 ⟨_, rfl⟩))
      (pe_one (pe_cmpR op_notIn_sign pe_str (pv 0) (by rfl)))))), ?_⟩
    refine s_ret (v := .bl (isWordV v)) ?_ k
    have fin : isTextV v = true → ∃ x, v = .str x ∧ x.length ≤ 1000 := by
      intro hv
      obtain ⟨n, _, hl⟩ := th.kd
      cases v with
      | str x => exact ⟨x, rfl, hl x rfl⟩
      | _ => cases hv
    refine ev_is (ev_and (a := isTextV v) (b := match v with | .str x => ((decide ((1:Int) ≤ x.length) && decide ((x.length : Int) ≤ 8)) && !decide (10 ∈ x.cps.toList)) | _ => false) (ev_call (ea_cons (ev_var rfl) ea_nil) (spv_textT th)) fun hb => ?_) ?_
    · obtain ⟨x, rfl, hl⟩ := fin hb
      refine ev_and (ev_chain ev_c (ev_lenS (ev_var rfl) (by omega)) rv_I0 (fun _ => ev_c) (fun _ => rv_I0)) fun _ => ?_
      exact ev_op (ev_c (v := .str ⟨#[10]⟩)) (ev_var rfl) fun H1 e Q q => ⟨10, x, rfl, rfl, q H1 (Ex.refl _)⟩
    · cases v with
      | str x =>
        have d1 : decide ((1 : Int) ≤ (x.length : Int)) = decide (1 ≤ x.length) := decide_eq_decide.mpr (by omega)
        have d2 : decide ((x.length : Int) ≤ 8) = decide (x.length ≤ 8) := decide_eq_decide.mpr (by omega)
        show V.bl (textB x && _) = V.bl (wordB x)
        dsimp only
        rw [d1, d2]
        rfl
      | _ => rfl
/-! ### fits -/
theorem scFits : FnScope ["form", "value", "thing"] ["form", "value"] (defScope sFits) := ⟨rfl, rfl, rfl, by decide +kernel, rfl, by decide +kernel, by decide +kernel⟩
def spFits : Sp := fun vs H Q _ => ∃ f v o, vs = [.str f, v] ∧ Th K H v o ∧ (f = Str.ofString "folder" → Sm H v) ∧ RetV (.bl (fitsV f v o)) H Q
theorem strEq {a b : Str} : decide (V.str a = V.str b) = decide (a = b) := decide_eq_decide.mpr ⟨fun h => by injection h, fun h => by rw [h]⟩
theorem ok_fits {f : Addr} {fd : FuncData} (F : Fun K "fits" "fits" sFits f fd) (T : Gv mg) (cP : Cal P w K mg base CX0 2 "is_path" ["value"] (spPath (K := K))) (cW : Cal P w K mg base CX0 3 "is_word" ["value"] (spWord (K := K)))
    (cF : Cal P w K mg base CX0 3 "is_folder" ["value"] spFolder) : FnOk P w K mg base CX0 4 f fd ["form", "value"] (spFits (K := K)) := by
  refine F.ok scFits (fun vs H Q E h => ?_) (fun cdv A outer s H vs Q E hr h => ?_)
  · obtain ⟨x, v, o, rfl, _⟩ := h
    rfl
  · obtain ⟨fo, v, o, rfl, th, hfo, k⟩ := h
    obtain ⟨t1, m1⟩ := T.mj
    have hr2 : Room 2 _ := hr.mono (by decide)
    refine ⟨_, pss_cons (ps_if (pt_cmpR op_eq (pv 0) pe_str (nomark _)) (pss_one (ps_ret (pe_call cP.F hr2 (by rfl) cP.g cP.kp cP.b .nil pass0 (pa_cons (pv 1) pa_nil)))) pss_nil)
      (pss_cons (ps_if (pt_cmpR op_eq (pv 0) pe_str (nomark _)) (pss_one (ps_ret (pe_call cW.F hr (by rfl) cW.g cW.kp cW.b .nil pass0 (pa_cons (pv 1) pa_nil)))) pss_nil)
      (pss_cons (ps_if (pt_cmpR op_eq (pv 0) pe_str (nomark _)) (pss_one (ps_ret (pe_call cF.F hr (by rfl) cF.g cF.kp cF.b .nil pass0 (pa_cons (pv 1) pa_nil)))) pss_nil)
      (pss_one (ps_ret (pe_and (pe_callB call_isi (by rfl) T.isi boot_isinstance (pa_cons (pv 1) (pa_cons (pe_bltn (v := .ty "tuple") (by rfl) T.tup (by decide +kernel) rfl) pa_nil)))
        (pe_and (pe_cmpR op_le (pe_callB call_len_seq (by rfl) T.len PySem.boot_len (pa_cons (pv 1) pa_nil)) (pe_glob (v := .int 4) (by rfl) m1 ⟨_, rfl⟩) (nomark _))
        (pe_one (pe_callB (cr_all rfl) (by rfl) T.all boot_all (pa_cons (pe_lc (own := [("thing", 2)]) (g := gName 2) (tt := tYes) rfl scFits.nd (pi_tup (pv 1)) (blkOk_by (N := ["form", "value", "thing"]) (sc := defScope sFits) (by decide +kernel))
          (fun _ _ _ _ _ => pg_name (i := 2) scFits.nd rfl (Or.inl rfl)) (fun _ _ _ _ _ => pts_nil)
          (fun _ _ _ _ _ => pe_call cP.F hr2 rfl cP.g cP.kp cP.b .nil pass0 (pa_cons (pv 2) pa_nil))) pa_nil))))))))), ?_⟩
    refine q_when (b := decide (fo = Str.ofString "path")) (et_is (et_test (ev_op (ev_var rfl) ev_c (rv_eq rfl))) strEq) (fun hb H1 e1 => ?_) (fun hb H1 e1 => ?_)
    · refine s_ret (v := .bl (fitsV fo v o)) (ev_is (ev_call (ea_cons (ev_var rfl) ea_nil) (spv_pathT (th.mono e1))) ?_) fun H2 e2 => k H2 (e1.trans e2)
      unfold fitsV
      rw [if_pos (by simpa using hb)]
    have n1 : ¬ fo = Str.ofString "path" := by simpa using hb
    clear hb
    refine q_when (b := decide (fo = Str.ofString "word")) (et_is (et_test (ev_op (ev_var rfl) ev_c (rv_eq rfl))) strEq) (fun hb H2 e2 => ?_) (fun hb H2 e2 => ?_)
    · refine s_ret (v := .bl (fitsV fo v o)) (ev_is (ev_call (z := .bl (isWordV v)) (ea_cons (ev_var rfl) ea_nil) fun H3 e3 Q' q' E' => ⟨v, o, rfl, th.mono ((e1.trans e2).trans e3), q'⟩) ?_) fun H3 e3 => k H3 ((e1.trans e2).trans e3)
      unfold fitsV
      rw [if_neg n1, if_pos (by simpa using hb)]
    have n2 : ¬ fo = Str.ofString "word" := by simpa using hb
    clear hb
    refine q_when (b := decide (fo = Str.ofString "folder")) (et_is (et_test (ev_op (ev_var rfl) ev_c (rv_eq rfl))) strEq) (fun hb H3 e3 => ?_) (fun hb H3 e3 => ?_)
    · have sm := hfo (by simpa using hb)
      refine s_ret (v := .bl (fitsV fo v o)) (ev_is (ev_call (z := .bl (isFolderV v)) (ea_cons (ev_var rfl) ea_nil) fun H4 e4 Q' q' E' => ⟨v, rfl, sm.mono (((e1.trans e2).trans e3).trans e4), q'⟩) ?_) fun H4 e4 => k H4 (((e1.trans e2).trans e3).trans e4)
      unfold fitsV
      rw [if_neg n1, if_neg n2, if_pos (by simpa using hb)]
    have n3 : ¬ fo = Str.ofString "folder" := by simpa using hb
    clear hb
    have eG := (e1.trans e2).trans e3
    refine s_ret (v := .bl (fitsV fo v o)) ?_ fun H4 e4 => k H4 (eG.trans e4)
    unfold fitsV
    rw [if_neg n1, if_neg n2, if_neg n3]
    cases th with
    | sm sm kd hn =>
      have e : decide (_ = "tuple") = false := decide_eq_false hn
      exact ev_is (ev_and (b := false) (ev_isi (ev_var rfl) ev_c (kd.mono eG) (.inr rfl)) (fun h => by rw [e] at h; cases h)) (by rw [e]; rfl)
    | @tu a xs h hx hl =>
      refine ev_is (ev_and (a := true) (b := decide ((xs.length : Int) ≤ 4) && (xs.map isPathV).all id) (ev_is (ev_isi (ev_var rfl) ev_c (kd_tup (eG _ _ h)) (.inr rfl)) rfl) fun _ => ?_) ?_
      · refine ev_and (ev_op (ev_lenT (ev_var rfl) (st_of (eG _ _ h))) ev_c rv_I0) fun _ => ev_all (ev_isL (el_lcT (fun y => .bl (isPathV y)) (ev_var rfl) (st_of (eG _ _ h)) (by omega) fun y H4 e4 hy => ?_) ?_)
        · exact ev_call (ea_cons (ev_var rfl) ea_nil) (spv_path ((hx y hy).mono (eG.trans e4)))
        · simp
      · have d1 : decide ((xs.length : Int) ≤ 4) = decide (xs.length ≤ 4) := decide_eq_decide.mpr (by omega)
        rw [d1]
        simp [List.all_map]
end
end Bp
namespace Bp
open PySem PySem.Spec PyProof.Rows L2 Bk Bm Evl Be Cr
abbrev sIsRule : Stmt := top 42
def forms : List (Str × List Str) := [(Str.ofString "join", [Str.ofString "paths"]), (Str.ofString "size", [Str.ofString "path"]), (Str.ofString "sort", [Str.ofString "path"]), (Str.ofString "pick", [Str.ofString "path", Str.ofString "word"]),
  (Str.ofString "names", [Str.ofString "folder"]), (Str.ofString "use", [Str.ofString "path"]), (Str.ofString "choose", [Str.ofString "path", Str.ofString "path", Str.ofString "path"]), (Str.ofString "need", [Str.ofString "path", Str.ofString "word"])]
def formOf (z : Str) : Option (List Str) := (forms.find? fun p => decide (p.1 = z)).map (·.2)
/-- the kinds that are asked for -/
def kinds9 : List Str := Str.ofString "Size" :: forms.map (·.1)
/-- the module's dict of forms -/
structure Fms (K : PySem.W.Frag) (w : World) (mg : Str → Option Value) (D : Addr) (es : Array DictEntry) (n : Nat) : Prop where
  g : mg "FORMS" = some (.ref D)
  d : KDict K w D es n
  at_ : ∀ z ∈ kinds9, match formOf z with
    | some fs => ∃ t, PySem.W.nsIn K D z = some (some (.ref t)) ∧ ∀ H, SqT K H t (fs.map V.str)
    | none => PySem.W.nsIn K D z = some none
/-- what is_rule says of a thing -/
def ruleB (x0 x1 : V) (rest : List V) (os : List (Option (List V))) : Bool := isPathV x0 && match x1 with
  | .str z => (match formOf z with
    | some fs => decide (rest.length = fs.length) && (fs.zip (rest.zip os)).all fun p => fitsV p.1 p.2.1 p.2.2
    | none => false)
  | _ => false
inductive Ru (K : PySem.W.Frag) (H : Hp) : V → Bool → Prop
  | no {v : V} {n : String} (k : Kd K H v n) (h : n ≠ "tuple") : Ru K H v false
  | short {a : Addr} {xs : List V} (h : H a = some (.tup xs)) (hl : xs.length < 2) : Ru K H (.ref a) false
  | long {a : Addr} {x0 x1 : V} {rest : List V} {os : List (Option (List V))} (h : H a = some (.tup (x0 :: x1 :: rest))) (h0 : Sm H x0) (h1 : Sm H x1) (hk : ∀ z, x1 = .str z → z ∈ kinds9)
      (hr : Paired (Th K H) rest os) (hl : rest.length ≤ 100) (hf : x1 = .str (Str.ofString "names") → ∀ x ∈ rest, Sm H x) : Ru K H (.ref a) (ruleB x0 x1 rest os)
theorem pr_mono {α β : Type} {F G : α → β → Prop} {l : List α} {m : List β} (h : Paired F l m) (f : ∀ a b, F a b → G a b) : Paired G l m := by
  induction h with
  | nil => exact .nil
  | cons r _ ih => exact .cons (f _ _ r) ih
theorem pr_len {α β : Type} {F : α → β → Prop} {l : List α} {m : List β} (h : Paired F l m) : l.length = m.length := by
  induction h with
  | nil => rfl
  | cons r _ ih => simp [ih]
theorem pr_get {α β : Type} {F : α → β → Prop} {l : List α} {m : List β} (h : Paired F l m) : ∀ {i : Nat} {x : α}, l[i]? = some x → ∃ y, m[i]? = some y ∧ F x y := by
  induction h with
  | nil => intro i x e; simp at e
  | cons r _ ih =>
    intro i x e
    cases i with
    | zero =>
      have e' := Option.some.inj e
      subst e'
      exact ⟨_, rfl, r⟩
    | succ i => exact ih (i := i) e
theorem pr_app {α β : Type} {F : α → β → Prop} {l l' : List α} {m m' : List β} (h : Paired F l m) (h' : Paired F l' m') : Paired F (l ++ l') (m ++ m') := by
  induction h with
  | nil => exact h'
  | cons r _ ih => exact .cons r ih
theorem pr_take {α β : Type} {F : α → β → Prop} {l : List α} {m : List β} (h : Paired F l m) : ∀ n, Paired F (l.take n) (m.take n) := by
  induction h with
  | nil => intro n; simp; exact .nil
  | cons r _ ih =>
    intro n
    cases n with
    | zero => exact .nil
    | succ n => exact .cons r (ih n)
theorem pr_drop {α β : Type} {F : α → β → Prop} {l : List α} {m : List β} (h : Paired F l m) : ∀ n, Paired F (l.drop n) (m.drop n) := by
  induction h with
  | nil => intro n; simp; exact .nil
  | cons r h ih =>
    intro n
    cases n with
    | zero => exact .cons r h
    | succ n => exact ih n
theorem pr_mem {α β : Type} {F : α → β → Prop} {l : List α} {m : List β} (h : Paired F l m) {x : α} (hx : x ∈ l) : ∃ y ∈ m, F x y := by
  induction h with
  | nil => cases hx
  | cons r _ ih =>
    rcases List.mem_cons.mp hx with rfl | hx
    · exact ⟨_, List.mem_cons_self, r⟩
    · obtain ⟨y, hy, q⟩ := ih hx
      exact ⟨y, List.mem_cons_of_mem _ hy, q⟩
theorem Ru.mono {K : PySem.W.Frag} {H H' : Hp} {v : V} {b : Bool} (e : Ex H H') (h : Ru K H v b) : Ru K H' v b := by
  cases h with
  | no k h => exact .no (k.mono e) h
  | short h hl => exact .short (e _ _ h) hl
  | long h h0 h1 hk hr hl hf => exact .long (e _ _ h) (h0.mono e) (h1.mono e) hk (pr_mono hr fun _ _ z => z.mono e) hl fun z x hx => (hf z x hx).mono e
section
variable {σ : L2.St} {H : Hp} {K : PySem.W.Frag}
/-- xs[i:] of a tuple -/
theorem slice_from {te ti : TE} {a : Addr} {xs : List V} {i : Nat} (h : Ev te σ H (.ref a)) (hi : Ev ti σ H (.int (i : Int))) (hx : SqT K H a xs) (hl : i ≤ xs.length) :
    ∀ H1, Ex H H1 → ∀ Q : VK, (∀ p H2, Ex H1 H2 → SqT K H2 p (xs.drop i) → Q (.ref p) H2) → tSl (rSlA K) te (tPart ti) tNoPart σ H1 Q := fun H1 e Q q =>
  h H1 e _ fun H2 e2 => hi H2 (e.trans e2) _ fun H3 e3 => ⟨(i : Int), rfl, a, xs, rfl, ex_t ((e.trans e2).trans e3) hx, by
    have c1 : HT.sIx xs.length 0 (some (i : Int)) = i := by rw [HT.sIx_nat]; omega
    have c2 : HT.sIx xs.length xs.length none = xs.length := HT.sIx_none _ _
    have c3 : cutV xs (some (i : Int)) none = xs.drop i := by
      unfold cutV
      rw [c1, c2]
      exact List.take_of_length_le (by rw [List.length_drop]; omega)
    rw [c1, c2]
    refine ⟨fun z => ?_, fun z p hp => ?_⟩
    · have z2 : xs.drop i = xs := by rw [z.1]; rfl
      refine q a H3 (e2.trans e3) ?_
      rw [z2]
      exact ex_t ((e.trans e2).trans e3) hx
    · refine q p _ ((e2.trans e3).trans (Ex.new hp)) ?_
      rw [c3]
      exact st_of upd_same⟩
/-- [.. for x, y in zip(a tuple, a tuple)] -/
theorem el_lcZ {te : TE} {ta : TA} {a b : Addr} {xs ys bs : List V} {v0 v1 v2 : Option V} (h : EvA ta [v0, v1, v2, none, none] H [.ref a, .ref b]) (hx : SqT K H a xs) (hy : SqT K H b ys) (hl : xs.length = ys.length) (hz : xs.length ≤ 40000) (hb : bs.length = xs.length)
    (he : ∀ (i : Nat) (x y z : V) (H1 : Hp), Ex H H1 → xs[i]? = some x → ys[i]? = some y → bs[i]? = some z → Ev te [v0, v1, v2, some x, some y] H1 z) :
    EvL (tLc (RZ.iZipA K ta) (gTup K 2 (gCons (gName 3) (gCons (gName 4) gNil))) tYes te [3, 4]) [v0, v1, v2, none, none] H bs := fun H0 e Q q => h H0 e _ fun H1 e1 =>
  ⟨a, b, xs, ys, rfl, .inr ⟨ex_t (e.trans e1) hx, ex_t (e.trans e1) hy, fun D hD =>
    lc_it (walk_zipT (K := K) (a := a) (b := b) (xs := xs) (ys := ys) (n := xs.length) (by omega)) (fun i G => Ex H1 G ∧ G D = some (.lst (bs.take i))) ⟨Ex.new hD, upd_same⟩
      (fun i G _ p => ⟨ex_t ((e.trans e1).trans p.1) hx, ex_t ((e.trans e1).trans p.1) hy⟩) (by
      rintro i v G G' hi ⟨s1, hd⟩ ⟨T, x, y, rfl, hT, rfl, h1, h2⟩
      have e2 := Ex.new (o := .tup [x, y]) hT
      have hib : i < bs.length := by omega
      have h3 : bs[i]? = some bs[i] := List.getElem?_eq_getElem hib
      refine ⟨T, [x, y], rfl, SqT.of upd_same, rfl, x, [y], rfl, y, [], rfl, rfl, ?_⟩
      refine ⟨rfl, ?_⟩
      unfold tYes
      dsimp only
      rw [if_pos rfl]
      have nT : T ≠ D := (ne_of_none hd hT).symm
      refine he i x y bs[i] _ ((e.trans e1).trans (s1.trans e2)) h1 h2 h3 _ (Ex.refl _) _ fun G2 e3 => ⟨_, e3 D _ (e2 D _ hd), sz_lt ?_, ((s1.trans e2).trans e3).mut hD, ?_⟩
      · have h3 := List.length_take_le' i bs
        omega
      · rw [upd_same, List.take_succ, h3]
        rfl) (by
      rintro G ⟨s1, hd⟩
      refine q D G (fresh_back e1 hD) (e1.trans s1) ?_
      rw [hd, List.take_of_length_le (by omega)])⟩⟩
end
section
variable {P : Program} {w : World} {K : PySem.W.Frag} {mg : Str → Option Value} {base : Heap}
theorem scRule : FnScope ["value", "kind", "things", "form", "thing"] ["value"] (defScope sIsRule) := ⟨rfl, rfl, rfl, by decide +kernel, rfl, by decide +kernel, by decide +kernel⟩
def spRule : Sp := fun vs H Q _ => ∃ v b, vs = [v] ∧ Ru K H v b ∧ RetV (.bl b) H Q
theorem form_kind : ∀ z ∈ kinds9, ∀ fs, formOf z = some fs → fs.length ≤ 3 ∧ (Str.ofString "folder" ∈ fs → z = Str.ofString "names") := by decide +kernel
theorem ok_rule {f : Addr} {fd : FuncData} {D : Addr} {es : Array DictEntry} {n : Nat} (F : Fun K "is_rule" "is_rule" sIsRule f fd) (T : Gv mg) (Fm : Fms K w mg D es n) (cP : Cal P w K mg base CX0 2 "is_path" ["value"] (spPath (K := K)))
    (cF : Cal P w K mg base CX0 4 "fits" ["form", "value"] (spFits (K := K))) : FnOk P w K mg base CX0 5 f fd ["value"] (spRule (K := K)) := by
  refine F.ok scRule (fun vs H Q E h => ?_) (fun cdv A outer s H vs Q E hr h => ?_)
  · obtain ⟨x, b, rfl, _⟩ := h
    rfl
  · obtain ⟨v, b, rfl, ru, k⟩ := h
    have hr2 : Room 2 _ := hr.mono (by decide)
    refine ⟨_, pss_cons (ps_if (pw_or (pt_not (pt_val (pe_callB call_isi (by rfl) T.isi boot_isinstance (pa_cons (pv 0) (pa_cons (pe_bltn (v := .ty "tuple") (by rfl) T.tup (by decide +kernel) rfl) pa_nil)))))
        (pw_or (pt_cmpR op_lt (pe_callB call_len_seq (by rfl) T.len PySem.boot_len (pa_cons (pv 0) pa_nil)) pe_int (nomark _))
        (pw_or1 (pt_not (pt_val (pe_call cP.F hr2 (by rfl) cP.g cP.kp cP.b .nil pass0 (pa_cons (pe_ix ix_tup (pv 0) pe_int (fun _ _ => rfl)) pa_nil))))))).pt (pss_one (ps_ret pe_bl)) pss_nil)
      (pss_cons (ps_par (i := 1) (j := 2) rfl scRule.nd rfl rfl (by decide) rfl rfl (pa_cons (pe_ix ix_tup (pv 0) pe_int (fun _ _ => rfl)) (pa_cons (pe_slice sl_tupA (pv 0) (po_some pe_int) po_none) pa_nil)) (by rfl))
      (pss_cons (ps_if (pw_or (pt_not (pt_val (pe_callB call_isi (by rfl) T.isi boot_isinstance (pa_cons (pv 1) (pa_cons (pe_bltn (v := .ty "str") (by rfl) T.str (by decide +kernel) rfl) pa_nil)))))
        (pw_or (pt_cmpR (op_notIn_kd Fm.d) (pv 1) (pe_glob (v := .ref D) (by rfl) Fm.g rfl) (by rfl))
        (pw_or1 (pt_cmpR op_ne (pe_callB call_len_seq (by rfl) T.len PySem.boot_len (pa_cons (pv 2) pa_nil)) (pe_callB call_len_seq (by rfl) T.len PySem.boot_len (pa_cons (pe_ix ix_kdict (pe_glob (v := .ref D) (by rfl) Fm.g rfl) (pv 1) (fun _ _ => rfl)) pa_nil)) (nomark _))))).pt (pss_one (ps_ret pe_bl)) pss_nil)
      (pss_one (ps_ret (pe_callB (cr_all rfl) (by rfl) T.all boot_all (pa_cons (pe_lc (own := [("form", 3), ("thing", 4)]) (g := gTup K 2 (gCons (gName 3) (gCons (gName 4) gNil))) (tt := tYes) rfl scRule.nd
        (RZ.pi_zipA (by rfl) T.zip (pa_cons (pe_ix ix_kdict (pe_glob (v := .ref D) (by rfl) Fm.g rfl) (pv 1) (fun _ _ => rfl)) (pa_cons (pv 2) pa_nil))) (blkOk_by (N := ["value", "kind", "things", "form", "thing"]) (sc := defScope sIsRule) (by decide +kernel))
        (fun _ _ _ _ _ => pg_tup rfl (pgs_cons (pg_name (i := 3) scRule.nd rfl (Or.inl rfl)) (pgs_cons (pg_name (i := 4) scRule.nd rfl (Or.inl rfl)) pgs_nil))) (fun _ _ _ _ _ => pts_nil)
        (fun _ _ _ _ _ => pe_call cF.F hr rfl cF.g cF.kp cF.b .nil pass0 (pa_cons (pv 3) (pa_cons (pv 4) pa_nil)))) pa_nil)))))), ?_⟩
    cases ru with
    | no kd hn =>
      refine q_when (b := true) (et_is (et_or (b := true) (et_not (et_B (ev_isi (ev_var rfl) ev_c kd (.inr rfl)))) fun hb => ?_) ?_) (fun _ H1 e1 => ?_) (fun hb => by cases hb)
      · simp [hn] at hb
      · simp [hn]
      · exact s_ret (v := .bl false) ev_c fun H2 e2 => k H2 (e1.trans e2)
    | @short a xs h hl =>
      refine q_when (b := true) (et_is (et_or (b := true) (et_not (et_B (ev_isi (ev_var rfl) ev_c (kd_tup h) (.inr rfl)))) fun hb => ?_) (by simp)) (fun _ H1 e1 => ?_) (fun hb => by cases hb)
      · refine et_is (et_or (a := true) (b := true) (et_is (et_test (ev_op (ev_lenT (ev_var rfl) (st_of h)) ev_c rv_I0)) (by simp; omega)) fun z => by cases z) rfl
      · exact s_ret (v := .bl false) ev_c fun H2 e2 => k H2 (e1.trans e2)
    | @long a x0 x1 rest os h h0 h1 hk hr' hl hf =>
      refine q_when (b := !isPathV x0) (et_is (et_or (b := !isPathV x0) (et_not (et_B (ev_isi (ev_var rfl) ev_c (kd_tup h) (.inr rfl)))) fun hb => ?_) (by simp)) (fun hb H1 e1 => ?_) (fun hb H1 e1 => ?_)
      · refine et_is (et_or (a := false) (b := !isPathV x0) (et_is (et_test (ev_op (ev_lenT (ev_var rfl) (st_of h)) ev_c rv_I0)) (by simp; omega)) fun _ => ?_) (by simp)
        exact et_not (et_B (ev_call (ea_cons (ev_op (ev_var rfl) ev_c (rv_ixT (st_of h) (atI_nat (j := 0) rfl))) ea_nil) (spv_path h0)))
      · refine s_ret (v := .bl (ruleB x0 x1 rest os)) (ev_is ev_c ?_) fun H2 e2 => k H2 (e1.trans e2)
        have : isPathV x0 = false := by simpa using hb
        unfold ruleB
        rw [this]
        rfl
      have p0 : isPathV x0 = true := by simpa using hb
      clear hb
      refine ev_op (z := x1) (ev_var (i := 0) rfl) ev_c (rv_ixT (st_of (e1 _ _ h)) (atI_nat (j := 1) rfl)) H1 (Ex.refl _) _ fun H2 e2 => ?_
      refine slice_from (i := 2) (ev_var (i := 0) rfl) ev_c (st_of ((e1.trans e2) _ _ h)) (by simp) H2 (Ex.refl _) _ fun p H3 e3 hp => ?_
      have hp' : SqT K H3 p rest := hp
      refine ⟨_, _, rfl, ?_⟩
      have eG := (e1.trans e2).trans e3
      have hσ : (((L2.start ["value", "kind", "things", "form", "thing"] [V.ref a]).set 1 (some x1)).set 2 (some (.ref p)) : L2.St) = [some (.ref a), some x1, some (.ref p), none, none] := rfl
      rw [hσ]
      dsimp only
      obtain ⟨n1, kd1⟩ := (h1.mono eG).kd (K := K)
      have test2 : ∀ {b : Bool} {t2 : TT}, (n1 = "str" → EvT t2 ([some (.ref a), some x1, some (.ref p), none, none] : L2.St) H3 b) → EvT (tOr (tNot (tB (tCB (rIsi K) (tCons (tVar 1) (tCons (tC (.ty "str")) tNil))))) t2) ([some (.ref a), some x1, some (.ref p), none, none] : L2.St) H3 (!decide (n1 = "str") || b) :=
        fun h2 => et_or (et_not (et_B (ev_isi (ev_var rfl) ev_c kd1 (.inl rfl)))) fun hb => h2 (by simpa using hb)
      by_cases hs : n1 = "str"
      · subst hs
        obtain ⟨z, rfl⟩ := kd_isStr kd1
        have hz := hk z rfl
        have hat := Fm.at_ z hz
        cases hfo : formOf z with
        | none =>
          rw [hfo] at hat
          refine q_when (b := true) (et_is (test2 (b := true) fun _ => et_is (et_or (a := true) (b := true) (et_test (ev_op (z := .bl true) (ev_var rfl) ev_c fun H4 e4 Q' q' => ⟨z, none, rfl, rfl, hat, q' H4 (Ex.refl _)⟩)) fun zz => by cases zz) rfl) (by simp)) (fun _ H4 e4 => ?_) (fun hb => by cases hb)
          refine s_ret (v := .bl (ruleB x0 (.str z) rest os)) (ev_is ev_c ?_) fun H5 e5 => k H5 ((eG.trans e4).trans e5)
          unfold ruleB
          simp only [hfo]
          simp
        | some fs =>
          rw [hfo] at hat
          obtain ⟨t, ht, hT⟩ := hat
          have item : ∀ {H4 : Hp}, Ev (tOp (rIxD K w) (tC (.ref D)) (tVar 1)) ([some (.ref a), some (.str z), some (.ref p), none, none] : L2.St) H4 (.ref t) := fun {H4} => ev_op ev_c (ev_var rfl) fun H5 e5 Q' q' => ⟨D, z, .ref t, rfl, rfl, ⟨es, n, _, Fm.d.at_, Fm.d.lit, ht, rfl⟩, q' H5 (Ex.refl _)⟩
          refine q_when (b := !decide (rest.length = fs.length)) (et_is (test2 (b := !decide (rest.length = fs.length)) fun _ => et_is (et_or (a := false) (b := !decide (rest.length = fs.length)) (et_test (ev_op (z := .bl false) (ev_var rfl) ev_c fun H4 e4 Q' q' => ⟨z, some (.ref t), rfl, rfl, ht, q' H4 (Ex.refl _)⟩)) fun _ => ?_) (by simp)) (by simp)) (fun hb H4 e4 => ?_) (fun hb H4 e4 => ?_)
          · refine et_is (et_test (ev_op (ev_lenT (ev_var rfl) hp') (ev_lenT item (hT _)) (rv_ne rfl))) ?_
            rw [List.length_map]
            congr 1
            exact decide_eq_decide.mpr ⟨fun h => by injection h with h; omega, fun h => by rw [h]⟩
          · refine s_ret (v := .bl (ruleB x0 (.str z) rest os)) (ev_is ev_c ?_) fun H5 e5 => k H5 ((eG.trans e4).trans e5)
            have hb' : decide (rest.length = fs.length) = false := by simpa using hb
            unfold ruleB
            simp only [hfo]
            rw [hb']
            simp
          · have hb' : rest.length = fs.length := by simpa using hb
            have hlen := pr_len hr'
            obtain ⟨f3, f4⟩ := form_kind z hz fs hfo
            refine s_ret (v := .bl (ruleB x0 (.str z) rest os)) ?_ fun H5 e5 => k H5 ((eG.trans e4).trans e5)
            refine ev_is (ev_all (bs := (fs.zip (rest.zip os)).map fun p => fitsV p.1 p.2.1 p.2.2) (el_lcZ (K := K) (xs := fs.map V.str) (ys := rest) (ea_cons item (ea_cons (ev_var rfl) ea_nil)) (hT _) (ex_t e4 hp') (by rw [List.length_map]; omega) (by rw [List.length_map]; omega) ?_ ?_)) ?_
            · simp only [List.length_map, List.length_zip]
              omega
            · intro i x y zz H5 e5 hx hy hzz
              obtain ⟨o, ho, th⟩ := pr_get hr' hy
              rw [List.getElem?_map] at hx
              cases eg : fs[i]? with
              | none => rw [eg] at hx; cases hx
              | some g =>
                rw [eg] at hx
                have ex : V.str g = x := Option.some.inj hx
                subst ex
                have ezz : zz = .bl (fitsV g y o) := by
                  have z2 : (rest.zip os)[i]? = some (y, o) := List.getElem?_zip_eq_some.mpr ⟨hy, ho⟩
                  have z3 : (fs.zip (rest.zip os))[i]? = some (g, (y, o)) := List.getElem?_zip_eq_some.mpr ⟨eg, z2⟩
                  rw [List.getElem?_map, List.getElem?_map, z3] at hzz
                  exact (Option.some.inj hzz).symm
                subst ezz
                refine ev_call (ea_cons (ev_var rfl) (ea_cons (ev_var rfl) ea_nil)) fun H6 e6 Q' q' E' => ⟨g, y, o, rfl, th.mono (((eG.trans e4).trans e5).trans e6), fun hg => ?_, q'⟩
                subst hg
                have := f4 (List.mem_of_getElem? eg)
                subst this
                exact (hf rfl y (List.mem_of_getElem? hy)).mono (((eG.trans e4).trans e5).trans e6)
            · unfold ruleB
              simp only [hfo, p0, hb', decide_true, Bool.true_and]
              simp [List.all_map]
      · refine q_when (b := true) (et_is (test2 (b := true) fun z => absurd z hs) (by simp)) (fun _ H4 e4 => ?_) (fun hb => by cases hb)
        refine s_ret (v := .bl (ruleB x0 x1 rest os)) (ev_is ev_c ?_) fun H5 e5 => k H5 ((eG.trans e4).trans e5)
        cases x1 with
        | str z => exact absurd (kd_strV kd1) hs
        | _ => simp [ruleB]
end
end Bp
namespace Bp
open PySem PySem.Spec PyProof.Rows L2 Bk Bm Evl Be Cr
abbrev vTail : List Value := [.type "ValueError", .type "Exception", .type "BaseException", .type "object"]
/-- an error class without a field, at C -/
structure Xc (K : PySem.W.Frag) (mg : Str → Option Value) (x : Str) (C : Addr) : Prop where
  g : mg x = some (.ref C)
  q : PySem.W.excIn K C vTail "ValueError.__new__" = true
  k : PySem.W.keepIn K (.ref C) = true
  b : PySem.W.subIn K (.ref C) (.type "BaseException") = some true
  t : PySem.W.typeIn K (.ref C) = some (.type "type")
section
variable {X : Cx} {C : Addr} {x : Str} {p pos : Pos}
/-- X() -/
theorem pmk_own0 (c : Xc X.K X.mg x C) (hg : Gl X x) (hdb : (x == ("__debug__" : Str)) = false := by decide) : PMk X (.Call (.Name x p) [] [] pos) (fun _ H Q => Q (.ref C) none H) := by
  intro pins s σ H Q I h
  refine wpAny_Call_Name_kw (ld_glob I hg c.g ?_ hdb)
  refine PySem.W.callWith_K0 I.kIn c.k ?_
  show wpAny _ _ (call (.ref C) []) _ _ _
  obtain ⟨bm, N, nm, qn, bs, hdct, sn, sub, ab, col, dd, k0, k1, k2, k3, k5, mN, hC, hN, hni, T⟩ := exc_obj I.kIn c.q
  refine wpAny_call_exc_subT PySem.F.excBase_ValueError T hC hN hni (fun h' e hm => ?_) (by rw [sizeLine_eq]; decide)
  exact mk_of I hm (raises_own c.b c.t) h (I.hok.gone hm.new)
end
section
variable {P : Program} {w : World} {K : PySem.W.Frag} {mg : Str → Option Value} {base : Heap}
/-! ### BadTree: its __init__ -/
abbrev sBtI : Stmt := inClass (top 4) 0
theorem scBtI : FnScope ["self", "index"] ["self", "index"] (defScope sBtI) := ⟨rfl, rfl, rfl, by decide +kernel, rfl, by decide +kernel, by decide +kernel⟩
/-- an error class with a field index, at C, its __init__ at fI -/
structure Xi (K : PySem.W.Frag) (mg : Str → Option Value) (x : Str) (C fI : Addr) : Prop where
  g : mg x = some (.ref C)
  o : OexC K C
  f : XfC K C
  n : PySem.W.findIn K (.ref C) "index" = some none
  i : PySem.W.findIn K (.ref C) "__init__" = some (some (.ref fI))
  t : PySem.W.typeIn K (.ref fI) = some (.type "function")
def spXi (K : PySem.W.Frag) (C : Addr) : Sp := fun vs H Q _ => ∃ a v, vs = [.ref a, v] ∧ H a = some (exo a C none) ∧ OexC K C ∧ PySem.W.findIn K (.ref C) "index" = some none ∧
  ∀ dx, H dx = none → dx ≠ a → Q .non (upd (upd H dx (exd dx [(("index" : Str), v)])) a (exo a C (some dx)))
theorem ok_btI {f C : Addr} {fd : FuncData} {q : Str} (F : Fun K "__init__" q sBtI f fd) : FnOk P w K mg base CX0 1 f fd ["self", "index"] (spXi K C) := by
  refine F.ok scBtI (fun vs H Q E h => ?_) (fun cdv A outer s H vs Q E hr h => ?_)
  · obtain ⟨x, v, rfl, _⟩ := h
    rfl
  · obtain ⟨a, v, rfl, ha, o, n, k⟩ := h
    refine ⟨_, pss_one (ps_ost (pv 0) (pv 1)), ?_⟩
    exact ⟨_, rfl, _, rfl, a, C, rfl, o, n, .inl ⟨ha, fun dx hd hne => k dx hd hne⟩⟩
/-- BadTree(e) -/
theorem pmk_xi {X : Cx} {C fI : Addr} {fd : FuncData} {x : Str} {e : Expr} {te : TE} {p pos : Pos} {k : Nat} (c : Xi X.K X.mg x C fI) (F : FnOk X.prog X.w X.K X.mg X.base CX0 1 fI fd ["self", "index"] (spXi X.K C)) (b : Binds X.K fd ["self", "index"] [])
    (hr : Room k X.A) (hk : 2 ≤ k) (hg : Gl X x) (he : PE X e te) (hdb : (x == ("__debug__" : Str)) = false := by decide)
    (hs : starEach (e :: []) X.env = (false, eval e X.env) :: starEach [] X.env := by rfl) (hpl : (backTo pos (starEach [] X.env)).any (·.1) = false := by rfl) :
    PMk X (.Call (.Name x p) [e] [] pos) (tMkO C (spXi X.K C) [] (tCons te tNil)) :=
  pmk_oex c.o c.i c.t F (hr.mono hk) b .nil pass0 hg c.g (pa_cons he pa_nil hs) hdb hs hpl
theorem xi_make {C fI : Addr} {x : Str} {te : TE} {σ : L2.St} {H : Hp} {v : V} {Q : XK} (c : Xi K mg x C fI) (he : Ev te σ H v) (k : ∀ d H', Ex H H' → H' d = some (.xd [(("index" : Str), v)]) → H d = none → Q (.ref C) (some d) H') : tMkO C (spXi K C) [] (tCons te tNil) σ H Q :=
  he H (Ex.refl _) _ fun H1 e1 => ⟨by show 1 ≤ 1000; decide, fun a ha => ⟨a, v, rfl, upd_same, c.o, c.n, fun dx hd hne => by
    have hdn : H1 dx = none := by rw [upd_ne hne] at hd; exact hd
    refine ⟨rfl, dx, [(("index" : Str), v)], upd_same, ?_, hdn, ?_⟩
    · rw [upd_ne hne, upd_same]
    · refine k dx _ (e1.trans fun b o hb => ?_) upd_same (fresh_back e1 hdn)
      have nb : b ≠ a := ne_of_none hb ha
      rw [upd_ne (ne_of_none hb hdn), del_ne nb, upd_ne nb, upd_ne (ne_of_none hb hdn), upd_ne nb]
      exact hb⟩⟩
end
theorem slice_to {σ : L2.St} {H : Hp} {K : PySem.W.Frag} {te ti : TE} {a : Addr} {xs : List V} {i : Nat} (h : Ev te σ H (.ref a)) (hi : Ev ti σ H (.int (i : Int))) (hx : SqT K H a xs) (hl : i ≤ xs.length) :
    ∀ H1, Ex H H1 → ∀ Q : VK, (∀ p H2, Ex H1 H2 → SqT K H2 p (xs.take i) → Q (.ref p) H2) → tSl (rSlA K) te tNoPart (tPart ti) σ H1 Q := fun H1 e Q q =>
  h H1 e _ fun H2 e2 => hi H2 (e.trans e2) _ fun H3 e3 => ⟨(i : Int), rfl, a, xs, rfl, ex_t ((e.trans e2).trans e3) hx, by
    have c1 : HT.sIx xs.length 0 none = 0 := HT.sIx_none _ _
    have c2 : HT.sIx xs.length xs.length (some (i : Int)) = i := by rw [HT.sIx_nat]; omega
    have c3 : cutV xs none (some (i : Int)) = xs.take i := by
      unfold cutV
      rw [c1, c2]
      simp
    rw [c1, c2]
    refine ⟨fun z => ?_, fun z p hp => ?_⟩
    · have z2 : xs.take i = xs := by rw [z.2]; exact List.take_length
      refine q a H3 (e2.trans e3) ?_
      rw [z2]
      exact ex_t ((e.trans e2).trans e3) hx
    · refine q p _ ((e2.trans e3).trans (Ex.new hp)) ?_
      rw [c3]
      exact st_of upd_same⟩
abbrev sCkRules : Stmt := top 43
/-- what an item of a tuple is: a rule that makes p, or none -/
def Itr (K : PySem.W.Frag) (H : Hp) (v : V) : Option Str → Prop
  | some p => Ru K H v true ∧ (∃ a ts, v = .ref a ∧ H a = some (.tup (.str p :: ts))) ∧ p.length ≤ 1000
  | none => Ru K H v false
theorem Itr.mono {K : PySem.W.Frag} {H H' : Hp} {v : V} {o : Option Str} (e : Ex H H') (h : Itr K H v o) : Itr K H' v o := by
  cases o with
  | some p =>
    obtain ⟨h1, ⟨a, ts, h2, h3⟩, h4⟩ := h
    exact ⟨h1.mono e, ⟨a, ts, h2, e _ _ h3⟩, h4⟩
  | none => exact Ru.mono e h
theorem Itr.ru {K : PySem.W.Frag} {H : Hp} {v : V} {o : Option Str} (h : Itr K H v o) : Ru K H v o.isSome := by
  cases o with
  | some p => exact h.1
  | none => exact h
/-- the first place that is wrong -/
def fb : List Str → List (Option Str) → Option Nat
  | _, [] => none
  | acc, none :: _ => some acc.length
  | acc, some p :: r => if acc.any (way p) = true then some acc.length else fb (acc ++ [p]) r
inductive Rl (K : PySem.W.Frag) (H : Hp) : V → Option V → Prop
  | no {v : V} {n : String} (k : Kd K H v n) (h : n ≠ "tuple") : Rl K H v (some .non)
  | big {a : Addr} {xs : List V} (h : H a = some (.tup xs)) (hl : 8 < xs.length) : Rl K H (.ref a) (some .non)
  | tup {a : Addr} {xs : List V} {os : List (Option Str)} (h : H a = some (.tup xs)) (hl : xs.length ≤ 8) (hp : Paired (Itr K H) xs os) : Rl K H (.ref a) ((fb [] os).map fun i => V.int ((i : Nat) : Int))
section
variable {P : Program} {w : World} {K : PySem.W.Frag} {mg : Str → Option Value} {base : Heap}
abbrev nCk : List Str := ["value", "index", "thing", "rule"]
theorem scCkRules : FnScope nCk ["value"] (defScope sCkRules) := ⟨rfl, rfl, rfl, by decide +kernel, rfl, by decide +kernel, by decide +kernel⟩
theorem Rl.mono {H H' : Hp} {v : V} {o : Option V} (e : Ex H H') (h : Rl K H v o) : Rl K H' v o := by
  cases h with
  | no k h => exact .no (k.mono e) h
  | big h hl => exact .big (e _ _ h) hl
  | tup h hl hp => exact .tup (e _ _ h) hl (pr_mono hp fun _ _ r => r.mono e)
/-- how BadTree comes -/
def RaiseI (C : Addr) (v : V) (H : Hp) (E : XK) : Prop := ∀ d H', Ex H H' → H' d = some (.xd [(("index" : Str), v)]) → H d = none → E (.ref C) (some d) H'
theorem RaiseI.go {C : Addr} {v : V} {H H1 : Hp} {E : XK} (h : RaiseI C v H E) (e : Ex H H1) : RaiseI C v H1 E := fun d H' e1 hd hn => h d H' (e.trans e1) hd (fresh_back e hn)
def spCkRules (C : Addr) : Sp := fun vs H Q E => ∃ v o, vs = [v] ∧ Rl K H v o ∧ (o = none → RetV .non H Q) ∧ (∀ u, o = some u → RaiseI C u H E)
/-- any([in_the_way(thing[0], rule[0]) for rule in value[:index]]) -/
theorem et_ways {H G : Hp} {a b : Addr} {xs ts : List V} {ps : List Str} {p : Str} {i : Nat} {x3 : Option V} (eG : Ex H G) (h : H a = some (.tup xs)) (hix : i ≤ xs.length) (hn : xs.length ≤ 8) (hb : G b = some (.tup (.str p :: ts))) (hp1 : p.length ≤ 1000)
    (hpf : Paired (fun v p => (∃ a ts, v = .ref a ∧ H a = some (.tup (.str p :: ts))) ∧ p.length ≤ 1000) (xs.take i) ps) :
    EvT (tB (tCB (rAny K) (tCons (tLc (iTup K (tSl (rSlA K) (tVar 0) tNoPart (tPart (tVar 1)))) (gName 3) tYes (tCall spWay [] E0 (tCons (tOp (rIxT K) (tVar 2) (tC (.int 0))) (tCons (tOp (rIxT K) (tVar 3) (tC (.int 0))) tNil))) [3]) tNil)))
      [some (.ref a), some (.int (i : Int)), some (.ref b), x3] G (ps.any (way p)) := fun H3 e3 Q q => by
  refine slice_to (i := i) (ev_var (i := 0) rfl) (ev_var (i := 1) rfl) (st_of ((eG.trans e3) _ _ h)) hix H3 (Ex.refl _) _ fun l H4 e4 hl4 => ?_
  have eH4 : Ex H H4 := (eG.trans e3).trans e4
  have big : Ev (tCB (rAny K) (tCons (tLc (iTup K (tC (.ref l))) (gName 3) tYes (tCall spWay [] E0 (tCons (tOp (rIxT K) (tVar 2) (tC (.int 0))) (tCons (tOp (rIxT K) (tVar 3) (tC (.int 0))) tNil))) [3]) tNil))
      [some (.ref a), some (.int (i : Int)), some (.ref b), x3] H4 (.bl ((ps.map (way p)).any id)) := by
    refine ev_any (ev_isL (el_lcT (j := 3) (fun v => match v with | .ref c => (match H c with | some (.tup (.str z :: _)) => .bl (way p z) | _ => .non) | _ => .non) ev_c hl4 ?_ fun x H5 e5 hx => ?_) ?_)
    · have := List.length_take_le' i xs
      omega
    · obtain ⟨z, hz, ⟨c, us, rfl, hc⟩, hzl⟩ := pr_mem hpf hx
      have hcc := (eH4.trans e5) _ _ hc
      have hbb := ((e3.trans e4).trans e5) _ _ hb
      simp only [hc]
      refine ev_call (ea_cons (ev_op (ev_var rfl) ev_c (rv_ixT (st_of hbb) (atI_nat (j := 0) rfl))) (ea_cons (ev_op (ev_var rfl) ev_c (rv_ixT (st_of hcc) (atI_nat (j := 0) rfl))) ea_nil)) fun H6 e6 Q' q' E' => ⟨p, z, rfl, by omega, by omega, q'⟩
    · have hmap : ∀ {ys : List V} {ps : List Str}, Paired (fun v p => (∃ a ts, v = .ref a ∧ H a = some (.tup (.str p :: ts))) ∧ p.length ≤ 1000) ys ps →
          ys.map (fun v => match v with | .ref c => (match H c with | some (.tup (.str z :: _)) => V.bl (way p z) | _ => .non) | _ => .non) = (ps.map (way p)).map V.bl := by
        intro ys ps h
        induction h with
        | nil => rfl
        | cons r _ ih =>
          obtain ⟨⟨c, us, rfl, hc⟩, _⟩ := r
          simp only [List.map_cons, ih, hc]
      exact hmap hpf
  have eqn : (ps.map (way p)).any id = ps.any (way p) := by simp [List.any_map]
  rw [eqn] at big
  exact big H4 (Ex.refl _) _ fun H5 e5 => ⟨_, rfl, q H5 (e4.trans e5)⟩
theorem ok_ckRules {f C fI : Addr} {fd fdI : FuncData} (F : Fun K "check_rules" "check_rules" sCkRules f fd) (T : Gv mg) (c : Xi K mg "BadRules" C fI) (FI : FnOk P w K mg base CX0 1 fI fdI ["self", "index"] (spXi K C)) (bI : Binds K fdI ["self", "index"] [])
    (cR : Cal P w K mg base CX0 5 "is_rule" ["value"] (spRule (K := K))) (cM : Cal P w K mg base CX0 2 "in_the_way" ["one", "other"] spWay) : FnOk P w K mg base (L2.CX P w) 6 f fd ["value"] (spCkRules (K := K) C) := by
  refine F.okX scCkRules (fun vs H Q E h => ?_) (fun cdv A outer s H vs Q E hr h => ?_)
  · obtain ⟨x, o, rfl, _⟩ := h
    rfl
  · obtain ⟨v, o, rfl, tr, k1, k2⟩ := h
    obtain ⟨t1, m1⟩ := T.mr
    have hr2 : Room 2 _ := hr.mono (by decide)
    refine ⟨_, pss_cons (ps_if (pw_or (pt_not (pt_val (pe_callB call_isi (by rfl) T.isi boot_isinstance (pa_cons (pv 0) (pa_cons (pe_bltn (v := .ty "tuple") (by rfl) T.tup (by decide +kernel) rfl) pa_nil)))))
        (pw_or1 (pt_cmpR op_gt (pe_callB call_len_seq (by rfl) T.len PySem.boot_len (pa_cons (pv 0) pa_nil)) (pe_glob (v := .int 8) (by rfl) m1 ⟨_, rfl⟩) (nomark _)))).pt
        (pss_one (ps_raise rfl (takes_of rfl rfl rfl rfl) (pmk_xi c FI bI hr (by decide) (by rfl) pe_non))) pss_nil)
      (pss_one (ps_for (passes_of rfl) rfl (pi_enumT (by rfl) T.enu (pa_cons (pv 0) pa_nil)) (pg_tup rfl (pgs_cons (pg_name (i := 1) scCkRules.nd rfl (Or.inl rfl)) (pgs_cons (pg_name (i := 2) scCkRules.nd rfl (Or.inr rfl)) pgs_nil)))
        (pss_one (ps_if (pw_or (pt_not (pt_val (pe_call cR.F hr (by rfl) cR.g cR.kp cR.b .nil pass0 (pa_cons (pv 2) pa_nil))))
          (pw_or1 (pt_val (pe_callB (cr_any rfl) (by rfl) T.any boot_any (pa_cons (pe_lc (own := [("rule", 3)]) (g := gName 3) (tt := tYes) rfl scCkRules.nd (pi_tup (pe_slice sl_tupA (pv 0) po_none (po_some (pv 1)))) (blkOk_by (N := nCk) (sc := defScope sCkRules) (by decide +kernel))
            (fun _ _ _ _ _ => pg_name (i := 3) scCkRules.nd rfl (Or.inl rfl)) (fun _ _ _ _ _ => pts_nil)
            (fun _ _ _ _ _ => pe_call cM.F hr2 (by rfl) cM.g cM.kp cM.b .nil pass0 (pa_cons (pe_ix (r := rIxT K) ix_tup (pv 2) pe_int (fun _ _ => rfl)) (pa_cons (pe_ix (r := rIxT K) ix_tup (pv 3) pe_int (fun _ _ => rfl)) pa_nil)))) pa_nil))))).pt
          (pss_one (ps_raise rfl (takes_of rfl rfl rfl rfl) (pmk_xi c FI bI hr (by decide) (by rfl) (pv 1)))) pss_nil)))), ?_⟩
    cases tr with
    | no kd hn =>
      refine q_when (b := true) (et_is (et_or (b := true) (et_not (et_B (ev_isi (ev_var rfl) ev_c kd (.inr rfl)))) fun hb => ?_) ?_) (fun _ H1 e1 => ?_) (fun hb => by cases hb)
      · simp [hn] at hb
      · simp [hn]
      · exact xi_make c ev_c (RaiseI.go (k2 _ rfl) e1)
    | @big a xs h hl =>
      refine q_when (b := true) (et_is (et_or (b := true) (et_not (et_B (ev_isi (ev_var rfl) ev_c (kd_tup h) (.inr rfl)))) fun hb => ?_) (by simp)) (fun _ H1 e1 => ?_) (fun hb => by cases hb)
      · exact et_is (et_test (ev_op (ev_lenT (ev_var rfl) (st_of h)) ev_c rv_I0)) (by simp; omega)
      · exact xi_make c ev_c (RaiseI.go (k2 _ rfl) e1)
    | @tup a xs os h hl hp =>
      refine q_when (b := false) (et_is (et_or (b := false) (et_not (et_B (ev_isi (ev_var rfl) ev_c (kd_tup h) (.inr rfl)))) fun hb => ?_) (by simp)) (fun hb => by cases hb) (fun _ H1 e1 => ?_)
      · exact et_is (et_test (ev_op (ev_lenT (ev_var rfl) (st_of h)) ev_c rv_I0)) (by simp; omega)
      · refine ⟨_, rfl, a, xs, rfl, st_of (e1 _ _ h), for_enumT (K := K) (a := a) (xs := xs) (fun i τ G => ∃ (u v : Option V) (fs : List Str), τ = [some (.ref a), u, v, none] ∧ Ex H G ∧ fs.length = i ∧ os.take i = fs.map some ∧ fb [] os = fb fs (os.drop i))
          ⟨none, none, [], rfl, e1, rfl, rfl, rfl⟩ (fun i τ G _ q => by obtain ⟨_, _, _, _, q, _⟩ := q; exact st_of (q _ _ h)) ?_ ?_⟩
        · rintro i x τ G T0 hi ⟨u, v, fs, rfl, eG, hfl, htk, hfb⟩ hT
          obtain ⟨o, ho, it⟩ := pr_get hp hi
          have hdr : os.drop i = o :: os.drop (i + 1) := by
            obtain ⟨hh, e⟩ := List.getElem?_eq_some_iff.mp ho
            rw [List.drop_eq_getElem_cons hh, e]
          rw [hdr] at hfb
          have e2 : Ex H (upd G T0 (.tup [.int (i : Nat), x])) := eG.trans (Ex.new hT)
          have hix : i ≤ xs.length := Nat.le_of_lt (List.getElem?_eq_some_iff.mp hi).1
          have hpf : Paired (fun v p => (∃ a ts, v = .ref a ∧ H a = some (.tup (.str p :: ts))) ∧ p.length ≤ 1000) (xs.take i) fs := by
            have h1 := pr_take hp i
            rw [htk] at h1
            have gen : ∀ {ys : List V} {gs : List Str}, Paired (Itr K H) ys (gs.map some) → Paired (fun v p => (∃ a ts, v = .ref a ∧ H a = some (.tup (.str p :: ts))) ∧ p.length ≤ 1000) ys gs := by
              intro ys gs
              induction gs generalizing ys with
              | nil => intro h; cases h; exact .nil
              | cons g r ih =>
                intro h
                cases h with
                | cons r1 r2 => exact .cons r1.2 (ih r2)
            exact gen h1
          refine ⟨T0, _, rfl, SqT.of upd_same, rfl, _, _, rfl, _, _, rfl, rfl, ?_⟩
          show tIfS _ _ tNext _ ([some (.ref a), some (.int (i : Int)), some x, none] : L2.St) _
          have call1 : EvT (tNot (tB (tCall (spRule (K := K)) [] E0 (tCons (tVar 2) tNil)))) ([some (.ref a), some (.int (i : Int)), some x, none] : L2.St) (upd G T0 (.tup [.int (i : Nat), x])) (!(o.isSome)) :=
            et_not (et_B (ev_call (ea_cons (ev_var rfl) ea_nil) fun H3 e3 Q' q' E' => ⟨x, _, rfl, (it.mono (e2.trans e3)).ru, q'⟩))
          refine s_when (b := !(o.isSome) || (match o with | some p => fs.any (way p) | none => false)) (et_or call1 fun hb => ?_) (fun hb H3 e3 => ?_) (fun hb H3 e3 => ?_)
          · cases o with
            | none => simp at hb
            | some p =>
              obtain ⟨_, ⟨b, ts, rfl, hbb⟩, hpl⟩ := it
              exact et_ways e2 h hix hl (e2 _ _ hbb) hpl hpf
          · have hbad : fb [] os = some i := by
              rw [hfb]
              cases o with
              | none => show some fs.length = some i; rw [hfl]
              | some p =>
                have hn : fs.any (way p) = true := by simpa using hb
                show (if fs.any (way p) = true then some fs.length else _) = some i
                rw [if_pos hn, hfl]
            exact xi_make c (ev_var rfl) (RaiseI.go (k2 _ (by rw [hbad]; rfl)) (e2.trans e3))
          · cases o with
            | none => simp at hb
            | some p =>
              have hn : fs.any (way p) = false := by simpa using hb
              refine ⟨_, _, fs ++ [p], rfl, e2.trans e3, by simp [hfl], ?_, ?_⟩
              · rw [List.take_succ, htk, ho]
                simp
              · rw [hfb]
                show (if fs.any (way p) = true then some fs.length else _) = _
                rw [if_neg (by rw [hn]; decide)]
        · rintro τ G ⟨u, v, fs, rfl, eG, hfl, htk, hfb⟩
          have hlen := pr_len hp
          have hn : fb [] os = none := by
            rw [hfb, hlen, List.drop_length]
            rfl
          exact k1 (by rw [hn]; rfl) G eG
end
end Bp
namespace Bp
open PySem PySem.Spec PyProof.Rows L2 Bk Bm Evl Be Cr
abbrev sInit : Stmt := inClass (top 28) 0
abbrev sGet : Stmt := inClass (top 28) 1
abbrev sLen : Stmt := inClass (top 28) 2
abbrev sEq : Stmt := inClass (top 28) 3

abbrev sCkBook : Stmt := top 44
abbrev kR : Str := "_rules"
/-- the class Book, at C -/
structure Bks (K : PySem.W.Frag) (mg : Str → Option Value) (C fI pR fG fL fE : Addr) : Prop where
  g : mg "Book" = some (.ref C)
  cls : Cls K C
  mkr : Mk K C fI
  na : NoAttr K C kR
  prop : PropOf K C "rules" pR fG
  len : PySem.W.findIn K (.ref C) "__len__" = some (some (.ref fL))
  lenF : PySem.W.isFn K (.ref fL) = true
  eq : PySem.W.findIn K (.ref C) "__eq__" = some (some (.ref fE))
  eqF : PySem.W.isFn K (.ref fE) = true
  nf : PySem.W.notFirst K C (.type "tuple") = true
  ha : PySem.W.findIn K (.ref C) "__class__" = some (some (.builtin "object.__class__"))
  hn : PySem.W.specialIn K (.builtin "object.__class__") "__get__" = some (some (.builtin "getset_descriptor.__get__"))
  htk : PySem.W.takesIn K (.builtin "object.__class__") = some true
  hm : PySem.W.mroIn K C (.type "object") = some true
  kt : PySem.W.kitOne K (.type "tuple") (.ref C) = some false
/-- a book of the rules v stands at a -/
def BkAt (H : Hp) (C a : Addr) (v : V) : Prop := ∃ dx, H a = some (.ins C dx [(kR, v)])
theorem BkAt.mono {H H' : Hp} {C a : Addr} {v : V} (e : Ex H H') (h : BkAt H C a v) : BkAt H' C a v := by
  obtain ⟨dx, h⟩ := h
  exact ⟨dx, e _ _ h⟩
section
variable {P : Program} {w : World} {K : PySem.W.Frag} {mg : Str → Option Value} {base : Heap} {C fI pR fG fL fE : Addr}
/-! ### __init__ -/
def spInit (C Cx : Addr) : Sp := fun vs H Q E => ∃ x dx v o, vs = [.ref x, v] ∧ H x = some (.ins C dx []) ∧ Rl K H v o ∧ (o = none → ∀ H1, Ex H H1 → Q .non (upd H1 x (.ins C dx [(kR, v)]))) ∧ (∀ u, o = some u → RaiseI Cx u H E)
theorem scInit : FnScope ["self", "rules"] ["self", "rules"] (defScope sInit) := ⟨rfl, rfl, rfl, by decide +kernel, rfl, by decide +kernel, by decide +kernel⟩
/-- what is let out of a body as it comes -/
theorem lets {X : Cx} {E : XK} (tk : Takes X (fun cls d _ H => E cls d H)) : Passes (L2.CX X.prog X.w) X E := passes_call tk fun _ _ _ _ h => h
theorem ok_init {f Cx : Addr} {fd : FuncData} {q : Str} (F : Fun K "__init__" q sInit f fd) (B : Bks K mg C fI pR fG fL fE) (cK : Cal P w K mg base (L2.CX P w) 6 "check_rules" ["value"] (spCkRules (K := K) Cx)) :
    FnOk P w K mg base (L2.CX P w) 7 f fd ["self", "rules"] (spInit (K := K) C Cx) := by
  refine F.okX scInit (fun vs H Q E h => ?_) (fun cdv A outer s H vs Q E hr h => ?_)
  · obtain ⟨x, dx, v, o, rfl, _⟩ := h
    rfl
  · obtain ⟨x, dx, v, o, rfl, hx, rl, k1, k2⟩ := h
    refine ⟨_, pss_cons (ps_expr (pe_call cK.F hr (by rfl) cK.g cK.kp cK.b .nil (lets (takes_of rfl rfl rfl rfl)) (pa_cons (pv 1) pa_nil)))
      (pss_one (ps_fld (pv 0) (pv 1) (by rfl))), ?_⟩
    refine ⟨_, rfl, v, o, rfl, rl, fun ho H1 e1 => ?_, fun u hu => k2 u hu⟩
    exact ⟨_, rfl, _, rfl, x, C, dx, [], rfl, e1 _ _ hx, B.cls, B.na, by decide, k1 ho H1 e1⟩
/-! ### the property, len -/
def spGet (C : Addr) : Sp := fun vs H Q _ => ∃ a v, vs = [.ref a] ∧ BkAt H C a v ∧ RetV v H Q
theorem scGet : FnScope ["self"] ["self"] (defScope sGet) := ⟨rfl, rfl, rfl, by decide +kernel, rfl, by decide +kernel, by decide +kernel⟩
theorem ev_fld {σ : L2.St} {H : Hp} {te : TE} {a : Addr} {v : V} (B : Bks K mg C fI pR fG fL fE) (h : Ev te σ H (.ref a)) (b : BkAt H C a v) : Ev (tFld K te kR) σ H v := fun H1 e Q q => h H1 e _ fun H2 e2 => by
  obtain ⟨dx, hb⟩ := b.mono (e.trans e2)
  exact ⟨a, C, dx, _, v, rfl, hb, B.cls, B.na, rfl, q H2 e2⟩
theorem ok_get {f : Addr} {fd : FuncData} {q : Str} (F : Fun K "rules" q sGet f fd) (B : Bks K mg C fI pR fG fL fE) : FnOk P w K mg base CX0 1 f fd ["self"] (spGet C) := by
  refine F.ok scGet (fun vs H Q E h => ?_) (fun cdv A outer s H vs Q E hr h => ?_)
  · obtain ⟨a, v, rfl, _⟩ := h
    rfl
  · obtain ⟨a, v, rfl, b, k⟩ := h
    refine ⟨_, pss_one (ps_ret (pe_fld (pv 0) (by rfl))), ?_⟩
    exact s_ret (ev_fld B (ev_var rfl) b) k
def spLen (C : Addr) : Sp := fun vs H Q _ => ∃ a t xs, vs = [.ref a] ∧ BkAt H C a (.ref t) ∧ SqT K H t xs ∧ RetV (.int (xs.length : Int)) H Q
theorem scLen : FnScope ["self"] ["self"] (defScope sLen) := ⟨rfl, rfl, rfl, by decide +kernel, rfl, by decide +kernel, by decide +kernel⟩
theorem ok_len {f : Addr} {fd : FuncData} {q : Str} (F : Fun K "__len__" q sLen f fd) (T : Gv mg) (B : Bks K mg C fI pR fG fL fE) : FnOk P w K mg base CX0 1 f fd ["self"] (spLen (K := K) C) := by
  refine F.ok scLen (fun vs H Q E h => ?_) (fun cdv A outer s H vs Q E hr h => ?_)
  · obtain ⟨a, t, xs, rfl, _⟩ := h
    rfl
  · obtain ⟨a, t, xs, rfl, b, hx, k⟩ := h
    refine ⟨_, pss_one (ps_ret (pe_callB call_len_seq (by rfl) T.len PySem.boot_len (pa_cons (pe_fld (pv 0) (by rfl)) pa_nil))), ?_⟩
    exact s_ret (ev_lenT (ev_fld B (ev_var rfl) b) hx) k
/-! ### == -/
def spEqB (C : Addr) : Sp := fun vs H Q _ => ∃ a b v, vs = [.ref a, .ref b] ∧ BkAt H C a v ∧
  ((∃ xs, H b = some (.tup xs) ∧ RetV (.bl false) H Q) ∨ ∃ u d e, BkAt H C b u ∧ (∀ G, Ex H G → Dp K G v d ∧ Dp K G u e) ∧ SeqAt.shaped d = true ∧ SeqAt.shaped e = true ∧ RetV (.bl (PyData.eqv d e)) H Q)
theorem scEq : FnScope ["self", "other"] ["self", "other"] (defScope sEq) := ⟨rfl, rfl, rfl, by decide +kernel, rfl, by decide +kernel, by decide +kernel⟩
theorem ty_bk {H : Hp} {a : Addr} {v : V} (B : Bks K mg C fI pR fG fL fE) (b : BkAt H C a v) : TyX K H (.ref a) (.ref C) := by
  obtain ⟨dx, h⟩ := b
  exact .base (.ins h B.cls B.ha B.hn B.htk B.hm)
theorem kt_self : PySem.W.kitOne K (.ref C) (.ref C) = some true := by
  unfold PySem.W.kitOne
  rw [if_pos (by simp)]
theorem ev_isB {σ : L2.St} {H : Hp} {te tx : TE} {a : Addr} {v : V} (B : Bks K mg C fI pR fG fL fE) (h : Ev te σ H (.ref a)) (hc : Ev tx σ H (.ref C)) (b : BkAt H C a v) : Ev (tCB (rIsi K) (tCons te (tCons tx tNil))) σ H (.bl true) := fun H1 e Q q =>
  h H1 e _ fun H2 e2 => hc H2 (e.trans e2) _ fun H3 e3 => ⟨.ref a, .ref C, .ref C, .ref C, true, rfl, .own C, ty_bk B (b.mono ((e.trans e2).trans e3)), kt_self, q H3 (e2.trans e3)⟩
theorem ok_eqB {f : Addr} {fd : FuncData} {q : Str} (F : Fun K "__eq__" q sEq f fd) (T : Gv mg) (B : Bks K mg C fI pR fG fL fE) : FnOk P w K mg base CX0 1 f fd ["self", "other"] (spEqB (K := K) C) := by
  refine F.ok scEq (fun vs H Q E h => ?_) (fun cdv A outer s H vs Q E hr h => ?_)
  · obtain ⟨a, b, v, rfl, _⟩ := h
    rfl
  · obtain ⟨a, b, v, rfl, ba, h⟩ := h
    have hu : (A.deeper (envOfC q (defScope sEq) s.heap.objs.size f cdv)).units + 64 < cLine := by have := hr.un; omega
    refine ⟨_, pss_one (ps_ret (pe_and (pe_callB call_isi (by rfl) T.isi boot_isinstance (pa_cons (pv 1) (pa_cons (pe_glob (v := .ref C) (by rfl) B.g rfl) pa_nil)))
      (pe_one (pe_cmpR (op_eqD hu) (pe_fld (pv 0) (by rfl)) (pe_fld (pv 1) (by rfl)) (nomark _))))), ?_⟩
    rcases h with ⟨xs, hb, k⟩ | ⟨u, d, e, bb, dp, s1, s2, k⟩
    · refine s_ret (v := .bl false) (ev_is (ev_and (a := false) (b := false) (fun H1 e1 Q q => ⟨_, rfl, .ref b, .ref C, .type "tuple", .ref C, false, rfl, .own C, .base (.tup (e1 _ _ hb)), B.kt, q H1 (Ex.refl _)⟩) (fun z => by cases z)) rfl) k
    · refine s_ret (v := .bl (PyData.eqv d e)) (ev_is (ev_and (a := true) (b := PyData.eqv d e) (ev_isB B (ev_var rfl) ev_c bb) fun _ => ev_op (ev_fld B (ev_var rfl) ba) (ev_fld B (ev_var rfl) bb) fun H1 e1 Q q => ?_) rfl) k
      obtain ⟨d1, d2⟩ := dp H1 e1
      exact ⟨d, e, d1, d2, s1, s2, q H1 (Ex.refl _)⟩
/-! ### check_book, made_paths -/
def spCkB (C : Addr) : Sp := fun vs H Q _ => ∃ a v, vs = [.ref a] ∧ BkAt H C a v ∧ RetV .non H Q
theorem scCkBook : FnScope ["value"] ["value"] (defScope sCkBook) := ⟨rfl, rfl, rfl, by decide +kernel, rfl, by decide +kernel, by decide +kernel⟩
theorem ok_ckBook {f : Addr} {fd : FuncData} (F : Fun K "check_book" "check_book" sCkBook f fd) (T : Gv mg) (B : Bks K mg C fI pR fG fL fE) : FnOk P w K mg base CX0 1 f fd ["value"] (spCkB C) := by
  refine F.ok scCkBook (fun vs H Q E h => ?_) (fun cdv A outer s H vs Q E hr h => ?_)
  · obtain ⟨a, v, rfl, _⟩ := h
    rfl
  · obtain ⟨a, v, rfl, b, k⟩ := h
    refine ⟨_, pss_one (ps_if (pt_not (pt_val (pe_callB call_isi (by rfl) T.isi boot_isinstance (pa_cons (pv 0) (pa_cons (pe_glob (v := .ref C) (by rfl) B.g rfl) pa_nil))))) pss_never pss_nil), ?_⟩
    refine s_if (b := false) (et_is (et_not (et_B (ev_isB B (ev_var rfl) ev_c b))) rfl) (fun z => by cases z) (fun _ H1 e1 => ?_)
    exact k H1 e1
/-- the made paths of a tuple of rules -/
def Heads (H : Hp) (xs : List V) (ps : List Str) : Prop := Paired (fun v p => ∃ a ts, v = .ref a ∧ H a = some (.tup (.str p :: ts))) xs ps
theorem Heads.mono {H H' : Hp} {xs : List V} {ps : List Str} (e : Ex H H') (h : Heads H xs ps) : Heads H' xs ps := pr_mono h fun _ _ ⟨a, ts, z, h⟩ => ⟨a, ts, z, e _ _ h⟩
def headV (H : Hp) : V → V
  | .ref c => match H c with
    | some (.tup (.str z :: _)) => .str z
    | _ => .non
  | _ => .non
theorem heads_map {H : Hp} {xs : List V} {ps : List Str} (h : Heads H xs ps) : xs.map (headV H) = ps.map V.str := by
  induction h with
  | nil => rfl
  | cons r _ ih =>
    obtain ⟨a, ts, rfl, h⟩ := r
    simp only [List.map_cons, ih, headV, h]
end
end Bp
namespace Bl
open PySem PySem.Spec PyProof.Rows L2 Bk Bm Evl Be Cr Bp
abbrev sTaken : Stmt := top 69
abbrev sOne : Stmt := top 70
/-- the script, at a: never written -/
def Sc (K : PySem.W.Frag) (H : Hp) (a : Addr) (ns : List Int) : Prop := (∃ o, H a = some (.frz o (.lst (ns.map V.int)))) ∨
  ∃ (o : Obj) (its : Array Value) (n : Nat), K.lookup a = some o ∧ o.cls = .type "list" ∧ o.dict = none ∧ o.data = .seq its n ∧ its.size ≤ sizeLine ∧ Vals (ns.map V.int) its.toList
theorem Sc.sq {K : PySem.W.Frag} {H : Hp} {a : Addr} {ns : List Int} (h : Sc K H a ns) : SqL K H a (ns.map V.int) := by
  rcases h with h | h
  · exact .inl (.inr h)
  · exact .inr h
/-- all but r stands -/
def Kp (r : Addr) (H G : Hp) : Prop := ∀ b o, b ≠ r → H b = some o → G b = some o
theorem Kp.of_ex {r : Addr} {H G : Hp} (e : Ex H G) : Kp r H G := fun b o _ h => e b o h
theorem Kp.refl (r : Addr) (H : Hp) : Kp r H H := fun _ _ _ h => h
theorem Kp.trans {r : Addr} {H G F : Hp} (a : Kp r H G) (b : Kp r G F) : Kp r H F := fun x o n h => b x o n (a x o n h)
theorem Kp.up {r : Addr} {H G : Hp} {o : HO} (a : Kp r H G) : Kp r H (upd G r o) := fun x u n h => by
  rw [upd_ne n]
  exact a x u n h
theorem Sc.keep {K : PySem.W.Frag} {H G : Hp} {r a : Addr} {ns : List Int} {xs : List V} (h : Sc K H a ns) (hr : H r = some (.lst xs)) (k : Kp r H G) : Sc K G a ns := by
  rcases h with ⟨o, h⟩ | h
  · exact .inl ⟨o, k a _ (ne_of h hr (by intro z; cases z)) h⟩
  · exact .inr h
def rowL (a : Addr) (i s z : Int) : List V := [.ref a, .int i, .int s, .int z]
/-- the row of draws stands at r -/
def Row (K : PySem.W.Frag) (H : Hp) (r : Addr) : Prop := ∃ a i s z ns, H r = some (.lst (rowL a i s z)) ∧ Sc K H a ns ∧ 0 ≤ i
structure Dr (K : PySem.W.Frag) (r : Addr) (H G : Hp) : Prop where
  kp : Kp r H G
  row : Row K G r
theorem Row.ex {K : PySem.W.Frag} {H G : Hp} {r : Addr} (h : Row K H r) (e : Ex H G) : Row K G r := by
  obtain ⟨a, i, s, z, ns, hr, sc, hi⟩ := h
  exact ⟨a, i, s, z, ns, e _ _ hr, sc.keep hr (.of_ex e), hi⟩
theorem Dr.refl {K : PySem.W.Frag} {H : Hp} {r : Addr} (h : Row K H r) : Dr K r H H := ⟨.refl r H, h⟩
theorem Dr.trans {K : PySem.W.Frag} {H G F : Hp} {r : Addr} (a : Dr K r H G) (b : Dr K r G F) : Dr K r H F := ⟨a.kp.trans b.kp, b.row⟩
theorem Dr.ex {K : PySem.W.Frag} {H G F : Hp} {r : Addr} (a : Dr K r H G) (e : Ex G F) : Dr K r H F := ⟨a.kp.trans (.of_ex e), a.row.ex e⟩
theorem Dr.pre {K : PySem.W.Frag} {H G F : Hp} {r : Addr} (e : Ex H G) (a : Dr K r G F) : Dr K r H F := ⟨(Kp.of_ex e).trans a.kp, a.row⟩
section
variable {P : Program} {w : World} {K : PySem.W.Frag} {mg : Str → Option Value} {base : Heap}
abbrev nTaken : List Str := ["_law_row", "_law_many", "_law_found", "_law_cell"]
theorem scTaken : FnScope nTaken ["_law_row", "_law_many"] (defScope sTaken) := ⟨rfl, rfl, rfl, by decide +kernel, rfl, by decide +kernel, by decide +kernel⟩
def spTaken : Sp := fun vs H Q _ => ∃ r m, vs = [.ref r, .int m] ∧ Row K H r ∧ 0 < m ∧ m < 1073741824 ∧ ∀ n G, 0 ≤ n → n < m → Dr K r H G → Q (.int n) G
theorem ev_int {σ : L2.St} {H : Hp} {te : TE} {i : Int} (h : Ev te σ H (.int i)) : Ev (tCB (fun xs H Q => (∃ i, xs = [V.int i] ∧ Q (.int i) H) ∨ ∃ k, xs = [.bl k] ∧ Q (.int (if k then 1 else 0)) H) (tCons te tNil)) σ H (.int i) := fun H1 e Q q =>
  h H1 e _ fun H2 e2 => .inl ⟨i, rfl, q H2 e2⟩
theorem rv_mod {H : Hp} {i j : Int} (h : 0 < j) : RV (rI (fun _ j => 0 < j) fun i j => .int (i % j)) (.int i) (.int j) H (.int (i % j)) := rv_I h
theorem ok_taken {f : Addr} {fd : FuncData} (F : Fun K "_law_taken" "_law_taken" sTaken f fd) (T : Gv mg) : FnOk P w K mg base CX0 1 f fd ["_law_row", "_law_many"] (spTaken (K := K)) := by
  refine F.ok scTaken (fun vs H Q E h => ?_) (fun cdv A outer s H vs Q E hr h => ?_)
  · obtain ⟨r, m, rfl, _⟩ := h
    rfl
  · obtain ⟨r, m, rfl, ⟨a, i, z2, z3, ns, hrow, sc, hi⟩, hm0, hm1, k⟩ := h
    refine ⟨_, pss_cons (ps_if (pt_cmpR op_gt (pe_ix ix_list (pv 0) pe_int (fun _ _ => rfl)) pe_int (nomark _))
        (pss_cons (ps_set (i := 2) scTaken.nd rfl (Or.inl rfl) (pe_op op_mod (pe_callTy call_int1 (by rfl) T.int (by decide +kernel) (pa_cons (pe_ix ix_list (pv 0) pe_int (fun _ _ => rfl)) pa_nil)) (pv 1)))
        (pss_cons (ps_asg (pe_op op_fdiv (pe_ix ix_list (pv 0) pe_int (fun _ _ => rfl)) (pv 1)) (pg_sub (pv 0) pe_int set_list))
        (pss_one (ps_ret (pv 2))))) pss_nil)
      (pss_cons (ps_asg (pe_op op_add (pe_ix ix_list (pv 0) pe_int (fun _ _ => rfl)) pe_int) (pg_sub (pv 0) pe_int set_list))
      (pss_cons (ps_if (pt_cmpR op_gt (pe_ix ix_list (pv 0) pe_int (fun _ _ => rfl)) (pe_callB call_len_seq (by rfl) T.len PySem.boot_len (pa_cons (pe_ix ix_list (pv 0) pe_int (fun _ _ => rfl)) pa_nil)) (nomark _))
        (pss_cons (ps_asg (pe_op op_mod (pe_callTy call_int1 (by rfl) T.int (by decide +kernel) (pa_cons (pe_op op_add (pe_op op_mul (pe_ix ix_list (pv 0) pe_int (fun _ _ => rfl)) pe_int) pe_int) pa_nil)) pe_int) (pg_sub (pv 0) pe_int set_list))
        (pss_one (ps_ret (pe_op op_mod (pe_callTy call_int1 (by rfl) T.int (by decide +kernel) (pa_cons (pe_op op_fdiv (pe_ix ix_list (pv 0) pe_int (fun _ _ => rfl)) pe_int) pa_nil)) (pv 1))))) pss_nil)
      (pss_cons (ps_set (i := 3) scTaken.nd rfl (Or.inl rfl) (pe_ix ix_list (pe_ix ix_list (pv 0) pe_int (fun _ _ => rfl)) (pe_op op_sub (pe_ix ix_list (pv 0) pe_int (fun _ _ => rfl)) pe_int) (fun _ _ => rfl)))
      (pss_cons (ps_asg (pe_op op_mod (pe_callTy call_int1 (by rfl) T.int (by decide +kernel) (pa_cons (pe_op op_add (pe_op op_add (pe_op op_mul (pe_ix ix_list (pv 0) pe_int (fun _ _ => rfl)) pe_int) (pv 3)) pe_int) pa_nil)) pe_int) (pg_sub (pv 0) pe_int set_list))
      (pss_cons (ps_if (pt_cmpR op_ge (pv 3) (pe_op op_pow pe_int pe_int) (nomark _)) (pss_one (ps_asg (pe_op op_fdiv (pv 3) (pv 1)) (pg_sub (pv 0) pe_int set_list))) pss_nil)
      (pss_one (ps_ret (pe_op op_mod (pe_callTy call_int1 (by rfl) T.int (by decide +kernel) (pa_cons (pv 3) pa_nil)) (pv 1))))))))), ?_⟩
    have ixr : ∀ {σ : L2.St} {G : Hp} {j : Int} {a' : Addr} {i' s' t' : Int} {v : V}, σ[0]? = some (some (.ref r)) → G r = some (.lst (rowL a' i' s' t')) → atI (rowL a' i' s' t') j = some v → Ev (tOp (rIxL K) (tVar 0) (tC (.int j))) σ G v :=
      fun h1 h2 h3 => ev_op (ev_var h1) ev_c (rv_ixL (sq_of h2) h3)
    refine q_when (b := decide (0 < z3)) (et_test (ev_op (ixr rfl hrow rfl) ev_c rv_I0)) (fun hb H1 e1 => ?_) (fun hb H1 e1 => ?_)
    · -- the rest of a great cell
      refine q_asg (ev_op (ev_int (ixr rfl (e1 _ _ hrow) rfl)) (ev_var rfl) (rv_mod hm0)) fun H2 e2 => ?_
      refine q_setL (j := 3) ((e1.trans e2) _ _ hrow) (ev_op (ixr rfl ((e1.trans e2) _ _ hrow) rfl) (ev_var rfl) (rv_I ⟨hm0, hm1⟩)) (ev_var rfl) ev_c (by show 3 < 4; decide) fun H3 e3 => ?_
      refine s_ret (v := .int (z3 % m)) (ev_var rfl) fun H4 e4 => ?_
      have kp : Kp r H (upd H3 r (.lst ((rowL a i z2 z3).set 3 (.int (z3 / m))))) := (Kp.of_ex ((e1.trans e2).trans e3)).up
      exact k _ H4 (Int.emod_nonneg _ (by omega)) (Int.emod_lt_of_pos _ hm0) (Dr.ex ⟨kp, a, i, z2, z3 / m, ns, upd_same, sc.keep hrow kp, hi⟩ e4)
    · refine q_setL (j := 1) (e1 _ _ hrow) (ev_op (ixr rfl (e1 _ _ hrow) rfl) ev_c rv_I0) (ev_var rfl) ev_c (by show 1 < 4; decide) fun H2 e2 => ?_
      have kp2 : Kp r H (upd H2 r (.lst (rowL a (i + 1) z2 z3))) := (Kp.of_ex (e1.trans e2)).up
      have row2 : (upd H2 r (.lst (rowL a (i + 1) z2 z3))) r = some (.lst (rowL a (i + 1) z2 z3)) := upd_same
      show tSeq (tIfS _ _ tNext) _ _ _ (upd H2 r (.lst (rowL a (i + 1) z2 z3)))
      generalize upd H2 r (.lst (rowL a (i + 1) z2 z3)) = G2 at kp2 row2
      have sc2 := sc.keep hrow kp2
      refine q_when (b := decide ((ns.length : Int) < i + 1)) (et_test (ev_op (ixr rfl row2 rfl) (ev_is (ev_len (ixr rfl row2 rfl) sc2.sq) (by rw [List.length_map])) rv_I0)) (fun hb H3 e3 => ?_) (fun hb H3 e3 => ?_)
      · -- behind the script
        refine q_setL (j := 2) (e3 _ _ row2) (ev_op (ev_int (ev_op (ev_op (ixr rfl (e3 _ _ row2) rfl) ev_c (rv_I (.inr ⟨by decide, by decide⟩))) ev_c rv_I0)) ev_c (rv_mod (by decide))) (ev_var rfl) ev_c (by show 2 < 4; decide) fun H4 e4 => ?_
        show tRet _ _ _ (upd H4 r (.lst (rowL a (i + 1) ((z2 * 48271 + 11) % 2147483647) z3)))
        refine s_ret (v := .int ((z2 * 48271 + 11) % 2147483647 / 7 % m)) (ev_op (ev_int (ev_op (ixr rfl upd_same rfl) ev_c (rv_I ⟨by decide, by decide⟩))) (ev_var rfl) (rv_mod hm0)) fun H5 e5 => ?_
        have kp : Kp r H (upd H4 r (.lst (rowL a (i + 1) ((z2 * 48271 + 11) % 2147483647) z3))) := (kp2.trans (.of_ex (e3.trans e4))).up
        exact k _ H5 (Int.emod_nonneg _ (by omega)) (Int.emod_lt_of_pos _ hm0) (Dr.ex ⟨kp, a, _, _, _, ns, upd_same, sc.keep hrow kp, by omega⟩ e5)
      · have hlt : i + 1 ≤ (ns.length : Int) := by simpa using hb
        have hin : i.toNat < ns.length := by omega
        have hat : atI (ns.map V.int) (i + 1 - 1) = some (V.int ns[i.toNat]) := by
          have e : i + 1 - 1 = (i.toNat : Int) := by omega
          rw [e]
          exact atI_nat (by rw [List.getElem?_map, List.getElem?_eq_getElem hin]; rfl)
        generalize ns[i.toNat] = c at hat
        refine q_asg (ev_op (ixr rfl (e3 _ _ row2) rfl) (ev_op (ixr rfl (e3 _ _ row2) rfl) ev_c rv_I0) (rv_ixL (sc2.keep row2 (.of_ex e3)).sq hat)) fun H4 e4 => ?_
        refine q_setL (j := 2) ((e3.trans e4) _ _ row2) (ev_op (ev_int (ev_op (ev_op (ev_op (ixr rfl ((e3.trans e4) _ _ row2) rfl) ev_c (rv_I (.inr ⟨by decide, by decide⟩))) (ev_var rfl) rv_I0) ev_c rv_I0)) ev_c (rv_mod (by decide))) (ev_var rfl) ev_c (by show 2 < 4; decide) fun H5 e5 => ?_
        have kp5 : Kp r H (upd H5 r (.lst (rowL a (i + 1) ((z2 * 48271 + c + 11) % 2147483647) z3))) := (kp2.trans (.of_ex ((e3.trans e4).trans e5))).up
        have row5 : (upd H5 r (.lst (rowL a (i + 1) ((z2 * 48271 + c + 11) % 2147483647) z3))) r = some (.lst (rowL a (i + 1) ((z2 * 48271 + c + 11) % 2147483647) z3)) := upd_same
        show tSeq (tIfS _ _ tNext) _ _ _ (upd H5 r (.lst (rowL a (i + 1) ((z2 * 48271 + c + 11) % 2147483647) z3)))
        generalize (z2 * 48271 + c + 11) % 2147483647 = z2' at kp5 row5 ⊢
        generalize upd H5 r (.lst (rowL a (i + 1) z2' z3)) = G5 at kp5 row5 ⊢
        have fin : ∀ G6, Kp r H G6 → (∃ t, G6 r = some (.lst (rowL a (i + 1) z2' t))) → tRet (tOp (rI (fun _ j => 0 < j) fun i j => .int (i % j)) (tCB (fun xs H Q => (∃ i, xs = [V.int i] ∧ Q (.int i) H) ∨ ∃ k, xs = [.bl k] ∧ Q (.int (if k then 1 else 0)) H) (tCons (tVar 3) tNil)) (tVar 1))
            { nx := fun _ H' => Q .non H', rt := Q } [some (.ref r), some (.int m), none, some (.int c)] G6 := fun G6 k6 ⟨t, r6⟩ =>
          s_ret (v := .int (c % m)) (ev_op (ev_int (ev_var rfl)) (ev_var rfl) (rv_mod hm0)) fun H7 e7 => k _ H7 (Int.emod_nonneg _ (by omega)) (Int.emod_lt_of_pos _ hm0) (Dr.ex ⟨k6, a, _, _, t, ns, r6, sc.keep hrow k6, by omega⟩ e7)
        refine q_when (b := decide ((10 : Int) ^ 18 ≤ c)) (et_test (ev_op (ev_var rfl) (ev_op ev_c ev_c (rv_I ⟨by decide, by decide, by decide⟩)) rv_I0)) (fun hb6 H6 e6 => ?_) (fun hb6 H6 e6 => fin H6 (kp5.trans (.of_ex e6)) ⟨_, e6 _ _ row5⟩)
        refine s_setL (j := 3) (e6 _ _ row5) (ev_op (ev_var rfl) (ev_var rfl) (rv_I ⟨hm0, hm1⟩)) (ev_var rfl) ev_c (by show 3 < 4; decide) fun H7 e7 => ?_
        exact fin _ ((kp5.trans (.of_ex (e6.trans e7))).up) ⟨c / m, upd_same⟩
end
end Bl
namespace Bl
open PySem PySem.Spec PyProof.Rows L2 Bk Bm Evl Be Cr Bp TL
section
variable {K : PySem.W.Frag} {H G : Hp} {r D : Addr}
theorem Row.updL {ys zs : List V} (h : Row K G r) (hD : G D = some (.lst ys)) (hne : D ≠ r) : Row K (upd G D (.lst zs)) r := by
  obtain ⟨a, i, s, z, ns, hr, sc, hi⟩ := h
  refine ⟨a, i, s, z, ns, by rw [upd_ne hne.symm]; exact hr, ?_, hi⟩
  rcases sc with ⟨o, h⟩ | h
  · exact .inl ⟨o, by rw [upd_ne (ne_of h hD (by intro z; cases z))]; exact h⟩
  · exact .inr h
theorem Kp.updL {o : HO} (h : Kp r H G) (hD : H D = none) : Kp r H (upd G D o) := fun b u n e => by
  rw [upd_ne (ne_of_none e hD)]
  exact h b u n e
theorem Dr.updL {ys zs : List V} (d : Dr K r H G) (hD : H D = none) (hg : G D = some (.lst ys)) (hne : D ≠ r) : Dr K r H (upd G D (.lst zs)) := ⟨d.kp.updL hD, d.row.updL hg hne⟩
theorem Row.at (h : Row K H r) : ∃ xs, H r = some (.lst xs) := by
  obtain ⟨a, i, s, z, ns, hr, _⟩ := h
  exact ⟨_, hr⟩
theorem Row.ne_new (h : Row K H r) {p : Addr} (hp : H p = none) : p ≠ r := by
  obtain ⟨xs, e⟩ := h.at
  exact (ne_of_none e hp).symm
theorem Dr.free {p : Addr} (d : Dr K r H G) (h : Row K H r) (hp : G p = none) : H p = none := by
  cases e : H p with
  | none => rfl
  | some o =>
    have n : p ≠ r := d.row.ne_new hp
    rw [d.kp p o n e] at hp
    cases hp
end
section
variable {P : Program} {w : World} {K : PySem.W.Frag} {mg : Str → Option Value} {base : Heap}
theorem scOne : FnScope ["_law_row", "_law_things"] ["_law_row", "_law_things"] (defScope sOne) := ⟨rfl, rfl, rfl, by decide +kernel, rfl, by decide +kernel, by decide +kernel⟩
def spOne : Sp := fun vs H Q _ => ∃ r t xs, vs = [.ref r, .ref t] ∧ Row K H r ∧ t ≠ r ∧ H t = some (.lst xs) ∧ 0 < xs.length ∧ xs.length < 1000000 ∧ ∀ v G, v ∈ xs → Dr K r H G → Q v G
/-- a draw below m -/
theorem draw {σ : L2.St} {H : Hp} {ta tm : TE} {r : Addr} {m : Int} {Q : VK} (hr : Ev ta σ H (.ref r)) (hm : Ev tm σ H (.int m)) (row : Row K H r) (h0 : 0 < m) (h1 : m < 1000000) (k : ∀ n G, 0 ≤ n → n < m → Dr K r H G → Q (.int n) G) :
    tCall (spTaken (K := K)) [] E0 (tCons ta (tCons tm tNil)) σ H Q :=
  hr H (Ex.refl _) _ fun H1 e1 => hm H1 e1 _ fun H2 e2 => ⟨r, m, rfl, row.ex (e1.trans e2), h0, by omega, fun n G hn hm d => k n G hn hm (Dr.pre (e1.trans e2) d)⟩
theorem ok_one {f : Addr} {fd : FuncData} (F : Fun K "_law_one" "_law_one" sOne f fd) (T : Gv mg) (cT : Cal P w K mg base CX0 1 "_law_taken" ["_law_row", "_law_many"] (spTaken (K := K))) : FnOk P w K mg base CX0 2 f fd ["_law_row", "_law_things"] (spOne (K := K)) := by
  refine F.ok scOne (fun vs H Q E h => ?_) (fun cdv A outer s H vs Q E hr h => ?_)
  · obtain ⟨r, t, xs, rfl, _⟩ := h
    rfl
  · obtain ⟨r, t, xs, rfl, row, hne, ht, h0, h1, k⟩ := h
    refine ⟨_, pss_one (ps_ret (pe_ix ix_list (pv 1) (pe_call cT.F hr (by rfl) cT.g cT.kp cT.b .nil pass0 (pa_cons (pv 0) (pa_cons (pe_callB call_len_seq (by rfl) T.len PySem.boot_len (pa_cons (pv 1) pa_nil)) pa_nil))) (fun _ _ => rfl))), ?_⟩
    refine ⟨_, rfl, draw (m := (xs.length : Int)) (ev_var rfl) (ev_len (ev_var rfl) (sq_of ht)) row (by omega) (by omega) fun n G hn hm d => ?_⟩
    have hin : n.toNat < xs.length := by omega
    refine ⟨t, xs, n, xs[n.toNat], rfl, rfl, sq_of (d.kp _ _ hne ht), ?_, k _ G (List.getElem_mem hin) d⟩
    exact at_of (j := n.toNat) (by omega) (List.getElem?_eq_getElem hin)
/-- written values -/
def tCs : List V → TA
  | [] => tNil
  | v :: r => tCons (tC v) (tCs r)
theorem ea_cs {σ : L2.St} {H : Hp} : ∀ vs : List V, EvA (tCs vs) σ H vs
  | [] => ea_nil
  | _ :: r => ea_cons ev_c (ea_cs r)
theorem el_cat {σ : L2.St} {H : Hp} {ta tb : TE} {l : Addr} {xs zs : List V} (ha : Ev ta σ H (.ref l)) (hl : H l = some (.lst xs)) (hb : EvL tb σ H zs) (hz : xs.length + zs.length ≤ 100000) : EvL (tOp rCat ta tb) σ H (xs ++ zs) := fun H1 e Q q =>
  ha H1 e _ fun H2 e2 => hb H2 (e.trans e2) _ fun b H3 hb3 e3 h3 => ⟨l, b, xs, zs, rfl, rfl, ((e.trans e2).trans e3) _ _ hl, h3, sz_of hz, fun p hp => q p _ (fresh_back (e2.trans e3) hp) ((e2.trans e3).trans (Ex.new hp)) upd_same⟩
end
end Bl
namespace Bl
open PySem PySem.Spec PyProof.Rows L2 Bk Bm Evl Be Cr Bp TL
abbrev sOddP : Stmt := top 75
section
variable {X : Cx}
/-- x * n of a text -/
def rMulS : R2 := fun x y H Q => ∃ z n, x = .str z ∧ y = .int n ∧ MulOk z n ∧ Q (.str (Txt.mul z n)) H
theorem op_mulS : OpR X (binaryOp .Mult) rMulS := by
  intro pins s σ H x y v u Q I rx ry h
  obtain ⟨z, n, rfl, rfl, hok, q⟩ := h
  obtain ⟨t, rfl⟩ := rx
  obtain ⟨t', rfl⟩ := ry
  exact SB.mul hok fun t2 k => ⟨.str (Txt.mul z n), H, I.tok k, ⟨_, rfl⟩, q⟩
end
theorem Sm.kp {r : Addr} {H G : Hp} {v : V} {xs : List V} (h : Sm H v) (hr : H r = some (.lst xs)) (hx : xs.length ≠ 1) (k : Kp r H G) : Sm G v := by
  cases h with
  | non => exact .non
  | bl b => exact .bl b
  | int i => exact .int i
  | str x h => exact .str x h
  | l1 h => exact .l1 (k _ _ (ne_of h hr (by intro z; cases z; exact hx rfl)) h)
  | t1 h => exact .t1 (k _ _ (ne_of h hr (by intro z; cases z)) h)
  | d0 h => exact .d0 (k _ _ (ne_of h hr (by intro z; cases z)) h)
theorem Sm.dr {K : PySem.W.Frag} {r : Addr} {H G : Hp} {v : V} (h : Sm H v) (row : Row K H r) (d : Dr K r H G) : Sm G v := by
  obtain ⟨a, i, s, z, ns, hr, _⟩ := row
  exact Sm.kp h hr (by show 4 ≠ 1; decide) d.kp
section
variable {P : Program} {w : World} {K : PySem.W.Frag} {mg : Str → Option Value} {base : Heap}
theorem scOddP : FnScope ["_law_row", "_law_odd"] ["_law_row"] (defScope sOddP) := ⟨rfl, rfl, rfl, by decide +kernel, rfl, by decide +kernel, by decide +kernel⟩
def oddS : List Str := ["", "/", "a/", "/a", "A", "a b", "a//b", "a/b/c/d", "abcdefg", "a-b"].map Str.ofString
def oddL (t l : Addr) : List V := [.non, .int 0, .bl true] ++ oddS.map V.str ++ [.ref t, .ref l]
theorem odd_strs : ∀ x ∈ Str.ofString "a\n" :: oddS, x.length ≤ 1000 ∧ pathB x = false := by decide +kernel
def spOdd (ok : V → Bool) : Sp := fun vs H Q _ => ∃ r, vs = [.ref r] ∧ Row K H r ∧ ∀ v G, Dr K r H G → Sm G v → ok v = false → Q v G
theorem ok_oddP {f : Addr} {fd : FuncData} (F : Fun K "_law_odd_path" "_law_odd_path" sOddP f fd) (T : Gv mg) (cT : Cal P w K mg base CX0 1 "_law_taken" ["_law_row", "_law_many"] (spTaken (K := K))) : FnOk P w K mg base CX0 2 f fd ["_law_row"] (spOdd (K := K) isPathV) := by
  refine F.ok scOddP (fun vs H Q E h => ?_) (fun cdv A outer s H vs Q E hr h => ?_)
  · obtain ⟨r, rfl, _⟩ := h
    rfl
  · obtain ⟨r, rfl, row, k⟩ := h
    refine ⟨_, pss_cons (ps_set (i := 1) scOddP.nd rfl (Or.inl rfl) (pe_lst (pa_cons pe_non (pa_cons pe_int (pa_cons pe_bl (pa_cons pe_str (pa_cons pe_str (pa_cons pe_str (pa_cons pe_str (pa_cons pe_str (pa_cons pe_str (pa_cons pe_str (pa_cons pe_str (pa_cons pe_str (pa_cons pe_str
        (pa_cons (pe_tup (pa_cons pe_str pa_nil)) (pa_cons (pe_lst (pa_cons pe_str pa_nil)) pa_nil)))))))))))))))))
      (pss_cons (ps_set (i := 1) scOddP.nd rfl (Or.inl rfl) (pe_op op_cat (pv 1) (pe_lst (pa_cons pe_dnewK (pa_cons pe_str pa_nil)))))
      (pss_one (ps_ret (pe_ix ix_list (pv 1) (pe_call cT.F hr (by rfl) cT.g cT.kp cT.b .nil pass0 (pa_cons (pv 0) (pa_cons (pe_callB call_len_seq (by rfl) T.len PySem.boot_len (pa_cons (pv 1) pa_nil)) pa_nil))) (fun _ _ => rfl))))), ?_⟩
    refine ⟨by show 1 ≤ sizeLine; decide, fun t ht => ⟨by show 1 ≤ sizeLine; decide, fun l hl => ⟨by show 15 ≤ sizeLine; decide, fun o ho => ?_⟩⟩⟩
    refine ⟨_, rfl, fun d hd => ⟨by show 2 ≤ sizeLine; decide, fun l2 hl2 => ⟨o, l2, oddL t l, [.ref d, .str (Str.ofString "a\n")], rfl, rfl, ?_, upd_same, by show 15 + 2 ≤ sizeLine; decide, fun o2 ho2 => ?_⟩⟩⟩
    · exact (Ex.new hl2) _ _ ((Ex.new hd) _ _ upd_same)
    have eAll := (Ex.new (o := .tup [.str (Str.ofString "a")]) ht).trans ((Ex.new (o := .lst [.str (Str.ofString "a")]) hl).trans ((Ex.new (o := .lst (oddL t l)) ho).trans ((Ex.new (o := .dK []) hd).trans ((Ex.new (o := .lst [V.ref d, V.str (Str.ofString "a\n")]) hl2).trans (Ex.new (o := .lst (oddL t l ++ [V.ref d, V.str (Str.ofString "a\n")])) ho2)))))
    have row2 := row.ex eAll
    have ft := ((Ex.new (o := .lst [.str (Str.ofString "a")]) hl).trans ((Ex.new (o := .lst (oddL t l)) ho).trans ((Ex.new (o := .dK []) hd).trans ((Ex.new (o := .lst [V.ref d, V.str (Str.ofString "a\n")]) hl2).trans (Ex.new (o := .lst (oddL t l ++ [V.ref d, V.str (Str.ofString "a\n")])) ho2))))) _ _ (upd_same (a := t) (o := .tup [.str (Str.ofString "a")]) (H := H))
    have fl := ((Ex.new (o := .lst (oddL t l)) ho).trans ((Ex.new (o := .dK []) hd).trans ((Ex.new (o := .lst [V.ref d, V.str (Str.ofString "a\n")]) hl2).trans (Ex.new (o := .lst (oddL t l ++ [V.ref d, V.str (Str.ofString "a\n")])) ho2)))) _ _ (upd_same (a := l) (o := .lst [.str (Str.ofString "a")]))
    have fd' := ((Ex.new (o := .lst [V.ref d, V.str (Str.ofString "a\n")]) hl2).trans (Ex.new (o := .lst (oddL t l ++ [V.ref d, V.str (Str.ofString "a\n")])) ho2)) _ _ (upd_same (a := d) (o := .dK []))
    have neo : o2 ≠ r := (row.ex ((Ex.new (o := .tup [.str (Str.ofString "a")]) ht).trans ((Ex.new (o := .lst [.str (Str.ofString "a")]) hl).trans ((Ex.new (o := .lst (oddL t l)) ho).trans ((Ex.new (o := .dK []) hd).trans (Ex.new (o := .lst [V.ref d, V.str (Str.ofString "a\n")]) hl2)))))).ne_new ho2
    refine ⟨_, rfl, draw (m := 17) (ev_var rfl) (ev_is (ev_len (ev_var rfl) (sq_of upd_same)) rfl) row2 (by decide) (by decide) fun n G hn hm dd => ?_⟩
    have hv : ∀ v ∈ oddL t l ++ [V.ref d, V.str (Str.ofString "a\n")], ∀ F : Hp, F t = some (.tup [.str (Str.ofString "a")]) → F l = some (.lst [.str (Str.ofString "a")]) → F d = some (.dK []) → Sm F v ∧ isPathV v = false := by
      intro v hv F f1 f2 f3
      simp only [oddL, List.mem_append, List.mem_cons, List.not_mem_nil, or_false, List.mem_map] at hv
      rcases hv with ((((rfl | rfl | rfl) | ⟨x, hx, rfl⟩) | (rfl | rfl)) | (rfl | rfl))
      · exact ⟨.non, rfl⟩
      · exact ⟨.int _, rfl⟩
      · exact ⟨.bl _, rfl⟩
      · have h := odd_strs x (List.mem_cons_of_mem _ hx)
        exact ⟨.str _ h.1, h.2⟩
      · exact ⟨.t1 f1, rfl⟩
      · exact ⟨.l1 f2, rfl⟩
      · exact ⟨.d0 f3, rfl⟩
      · have h := odd_strs _ List.mem_cons_self
        exact ⟨.str _ h.1, h.2⟩
    have hin : n.toNat < (oddL t l ++ [V.ref d, V.str (Str.ofString "a\n")]).length := by
      show n.toNat < 17
      omega
    obtain ⟨s1, s2⟩ := hv _ (List.getElem_mem hin) _ ft fl fd'
    refine ⟨o2, _, n, _, rfl, rfl, sq_of (dd.kp _ _ neo upd_same), at_of (j := n.toNat) (by omega) (List.getElem?_eq_getElem hin), ?_⟩
    exact k _ G (Dr.pre eAll dd) (Sm.dr s1 row2 dd) s2
end
end Bl
namespace Bl
open PySem PySem.Spec PyProof.Rows L2 Bk Bm Evl Be Cr Bp TL
abbrev sRuleL : Stmt := top 73
def five : List Str := ["m", "n", "o", "p/q", "r"].map Str.ofString
def first5 : List Str := ["a", "b", "c", "d/x", "d/y"].map Str.ofString
def ten : List Str := first5 ++ five
def folds : List Str := ["", "d", "e", "e/f", "a"].map Str.ofString
def wrds : List Str := ["b", "use", "y", "a b", "1", "use a", "use d/x"].map Str.ofString
def knds : List Str := ["join", "join", "size", "sort", "pick", "names", "use", "use", "choose", "choose", "need"].map Str.ofString
def okS (x : Str) : Prop := x.length ≤ 1000 ∧ PyData.strOk x = true ∧ x ≠ Str.ofString "z"
instance (x : Str) : Decidable (okS x) := by unfold okS; infer_instance
theorem ten_ok : ∀ y ∈ ten, okS y ∧ pathB y = true := by decide +kernel
theorem folds_ok : ∀ y ∈ folds, okS y ∧ isFolderV (.str y) = true := by decide +kernel
theorem wrds_ok : ∀ y ∈ wrds, okS y ∧ wordB y = true := by decide +kernel
theorem knds_ok : ∀ k ∈ knds, okS k ∧ k ∈ kinds9 := by decide +kernel
theorem five_ten : ∀ y ∈ five, y ∈ ten := by decide +kernel
/-- a thing of a drawn rule -/
inductive Tg (H : Hp) : V → Option (List V) × PyData → Prop
  | s (x : Str) (h : okS x) : Tg H (.str x) (none, .str x)
  | t {b : Addr} {ys : List Str} (h : H b = some (.tup (ys.map V.str))) (hy : ∀ y ∈ ys, okS y) (hl : ys.length ≤ 100) : Tg H (.ref b) (some (ys.map V.str), .tuple (ys.map PyData.str))
/-- a drawn rule that makes m -/
def Good (H : Hp) (v : V) (md : Str × PyData) : Prop := ∃ a k ts ods, v = .ref a ∧ H a = some (.tup (.str md.1 :: .str k :: ts)) ∧ Paired (Tg H) ts ods ∧ ods.length ≤ 3 ∧ k ∈ knds ∧ (k = Str.ofString "names" → ∀ x ∈ ts, ∃ y, x = .str y ∧ okS y) ∧
  md.1 ∈ five ∧ ruleB (.str md.1) (.str k) ts (ods.map (·.1)) = true ∧ md.2 = .tuple (.str md.1 :: .str k :: ods.map (·.2))
section
variable {H G : Hp} {v : V} {K : PySem.W.Frag} {r : Addr}
theorem Tg.imp {o : Option (List V) × PyData} (f : ∀ b ys, H b = some (.tup ys) → G b = some (.tup ys)) (h : Tg H v o) : Tg G v o := by
  cases h with
  | s x h => exact .s x h
  | t h hy hl => exact .t (f _ _ h) hy hl
theorem Good.imp {md : Str × PyData} (f : ∀ b ys, H b = some (.tup ys) → G b = some (.tup ys)) (h : Good H v md) : Good G v md := by
  obtain ⟨a, k, ts, ods, h0, h1, h2, h3⟩ := h
  exact ⟨a, k, ts, ods, h0, f _ _ h1, pr_mono h2 fun _ _ z => z.imp f, h3⟩
theorem Good.mono {md : Str × PyData} (e : Ex H G) (h : Good H v md) : Good G v md := h.imp fun b ys z => e _ _ z
theorem Good.dr {md : Str × PyData} (h : Good H v md) (row : Row K H r) (d : Dr K r H G) : Good G v md := h.imp fun b ys z => by
  obtain ⟨rl, hr⟩ := row.at
  exact d.kp _ _ (ne_of z hr (by intro z; cases z)) z
theorem Good.updL {md : Str × PyData} {D : Addr} {xs zs : List V} (h : Good H v md) (hr : H D = some (.lst xs)) : Good (upd H D (.lst zs)) v md := h.imp fun b ys z => by
  rw [upd_ne (ne_of z hr (by intro z; cases z))]
  exact z
theorem Tg.th {o : Option (List V) × PyData} (h : Tg H v o) : Th K H v o.1 := by
  cases h with
  | s x h => exact .sm (.str x h.1) (kd_str x) (by decide)
  | @t b ys h hy hl =>
    refine .tu h (fun x hx => ?_) (by rw [List.length_map]; omega)
    obtain ⟨y, hy', rfl⟩ := List.mem_map.mp hx
    exact .str y (hy y hy').1
theorem Good.itr {md : Str × PyData} (h : Good H v md) : Itr K H v (some md.1) := by
  obtain ⟨a, k, ts, ods, rfl, h1, h2, h3, h4, h5, h6, h7, h8⟩ := h
  have hm := (ten_ok _ (five_ten _ h6)).1.1
  have r := Ru.long (K := K) (os := ods.map (·.1)) h1 (Sm.str md.1 hm) (Sm.str k (knds_ok k h4).1.1) (fun z hz => by cases hz; exact (knds_ok k h4).2) ?_ (by have := pr_len h2; omega) (fun z x hx => ?_)
  · rw [h7] at r
    exact ⟨r, ⟨a, _, rfl, h1⟩, hm⟩
  · clear h3 h7 h8 h5 h1
    induction h2 with
    | nil => exact .nil
    | cons r _ ih => exact .cons r.th ih
  · injection z with z
    obtain ⟨y, rfl, hy⟩ := h5 z x hx
    exact .str y hy.1
theorem ruleB_of {m k : Str} {fs : List Str} {ts : List V} {os : List (Option (List V))} (h0 : pathB m = true) (hf : formOf k = some fs) (hl : ts.length = fs.length) (ha : ((fs.zip (ts.zip os)).all fun p => fitsV p.1 p.2.1 p.2.2) = true) :
    ruleB (.str m) (.str k) ts os = true := by
  unfold ruleB
  simp only [hf, ha, hl, decide_true]
  show (pathB m && _) = true
  rw [h0]
  rfl
theorem fit_path {v : V} {o : Option (List V)} : fitsV (Str.ofString "path") v o = isPathV v := by
  unfold fitsV
  rw [if_pos rfl]
theorem fit_word {v : V} {o : Option (List V)} : fitsV (Str.ofString "word") v o = isWordV v := by
  unfold fitsV
  rw [if_neg (by decide +kernel), if_pos rfl]
theorem fit_fold {v : V} {o : Option (List V)} : fitsV (Str.ofString "folder") v o = isFolderV v := by
  unfold fitsV
  rw [if_neg (by decide +kernel), if_neg (by decide +kernel), if_pos rfl]
theorem fit_paths {v : V} {xs : List V} : fitsV (Str.ofString "paths") v (some xs) = (decide (xs.length ≤ 4) && xs.all isPathV) := by
  unfold fitsV
  rw [if_neg (by decide +kernel), if_neg (by decide +kernel), if_neg (by decide +kernel)]
theorem fit_pathsN {v : V} : fitsV (Str.ofString "paths") v none = false := by
  unfold fitsV
  rw [if_neg (by decide +kernel), if_neg (by decide +kernel), if_neg (by decide +kernel)]
theorem f_join : formOf (Str.ofString "join") = some [Str.ofString "paths"] := by decide +kernel
theorem f_choose : formOf (Str.ofString "choose") = some [Str.ofString "path", Str.ofString "path", Str.ofString "path"] := by decide +kernel
theorem f_names : formOf (Str.ofString "names") = some [Str.ofString "folder"] := by decide +kernel
theorem k_pn : ∀ k ∈ knds, inV (.str k) [.str (Str.ofString "pick"), .str (Str.ofString "need")] = true → formOf k = some [Str.ofString "path", Str.ofString "word"] ∧ k ≠ Str.ofString "names" := by decide +kernel
theorem k_one : ∀ k ∈ knds, k ≠ Str.ofString "join" → k ≠ Str.ofString "choose" → inV (.str k) [.str (Str.ofString "pick"), .str (Str.ofString "need")] = false → k ≠ Str.ofString "names" → formOf k = some [Str.ofString "path"] := by decide +kernel
/-- the rules, each with its own things -/
theorem good_1 {a : Addr} {m k y : Str} (h : H a = some (.tup [.str m, .str k, .str y])) (hm : m ∈ five) (hk : k ∈ knds) (hy : okS y) (hf : (formOf k = some [Str.ofString "path"] ∧ pathB y = true) ∨ (k = Str.ofString "names" ∧ isFolderV (.str y) = true)) :
    Good H (.ref a) (m, .tuple [.str m, .str k, .str y]) := by
  refine ⟨a, k, [.str y], [(none, .str y)], rfl, h, .cons (.s y hy) .nil, by show 1 ≤ 3; decide, hk, fun _ x hx => ⟨y, List.mem_singleton.mp hx, hy⟩, hm, ?_, rfl⟩
  rcases hf with ⟨hf, hp⟩ | ⟨rfl, hp⟩
  · exact ruleB_of (ten_ok _ (five_ten _ hm)).2 hf rfl (by show (fitsV _ (.str y) none && true) = true; rw [fit_path]; show (pathB y && true) = true; rw [hp]; rfl)
  · exact ruleB_of (ten_ok _ (five_ten _ hm)).2 f_names rfl (by show (fitsV _ (.str y) none && true) = true; rw [fit_fold, hp]; rfl)
theorem good_2 {a : Addr} {m k y z : Str} (h : H a = some (.tup [.str m, .str k, .str y, .str z])) (hm : m ∈ five) (hk : k ∈ knds) (hy : okS y) (hz : okS z) (hf : formOf k = some [Str.ofString "path", Str.ofString "word"]) (hp : pathB y = true) (hw : wordB z = true) :
    Good H (.ref a) (m, .tuple [.str m, .str k, .str y, .str z]) := by
  refine ⟨a, k, [.str y, .str z], [(none, .str y), (none, .str z)], rfl, h, .cons (.s y hy) (.cons (.s z hz) .nil), by show 2 ≤ 3; decide, hk, fun _ x hx => ?_, hm, ?_, rfl⟩
  · rcases List.mem_cons.mp hx with rfl | hx
    · exact ⟨y, rfl, hy⟩
    · exact ⟨z, List.mem_singleton.mp hx, hz⟩
  · refine ruleB_of (ten_ok _ (five_ten _ hm)).2 hf rfl ?_
    show (fitsV _ (.str y) none && (fitsV _ (.str z) none && true)) = true
    rw [fit_path, fit_word]
    show (pathB y && (wordB z && true)) = true
    rw [hp, hw]
    rfl
theorem good_3 {a : Addr} {m x y z : Str} (h : H a = some (.tup [.str m, .str (Str.ofString "choose"), .str x, .str y, .str z])) (hm : m ∈ five) (hx : x ∈ ten) (hy : y ∈ ten) (hz : z ∈ ten) :
    Good H (.ref a) (m, .tuple [.str m, .str (Str.ofString "choose"), .str x, .str y, .str z]) := by
  refine ⟨a, _, [.str x, .str y, .str z], [(none, .str x), (none, .str y), (none, .str z)], rfl, h, .cons (.s x (ten_ok x hx).1) (.cons (.s y (ten_ok y hy).1) (.cons (.s z (ten_ok z hz).1) .nil)), by show 3 ≤ 3; decide, by decide +kernel, fun c => absurd c (by decide +kernel), hm, ?_, rfl⟩
  refine ruleB_of (ten_ok _ (five_ten _ hm)).2 f_choose rfl ?_
  show (fitsV _ (.str x) none && (fitsV _ (.str y) none && (fitsV _ (.str z) none && true))) = true
  rw [fit_path, fit_path, fit_path]
  show (pathB x && (pathB y && (pathB z && true))) = true
  rw [(ten_ok x hx).2, (ten_ok y hy).2, (ten_ok z hz).2]
  rfl
theorem good_j {a b : Addr} {m : Str} {ys : List Str} (h : H a = some (.tup [.str m, .str (Str.ofString "join"), .ref b])) (hb : H b = some (.tup (ys.map V.str))) (hm : m ∈ five) (hy : ∀ y ∈ ys, y ∈ ten) (hl : ys.length ≤ 4) :
    Good H (.ref a) (m, .tuple [.str m, .str (Str.ofString "join"), .tuple (ys.map PyData.str)]) := by
  refine ⟨a, _, [.ref b], [(some (ys.map V.str), .tuple (ys.map PyData.str))], rfl, h, .cons (.t hb (fun y h => (ten_ok y (hy y h)).1) (by omega)) .nil, by show 1 ≤ 3; decide, by decide +kernel, fun c => absurd c (by decide +kernel), hm, ?_, rfl⟩
  refine ruleB_of (ten_ok _ (five_ten _ hm)).2 f_join rfl ?_
  show (fitsV _ (.ref b) (some (ys.map V.str)) && true) = true
  rw [fit_paths, List.length_map, decide_eq_true hl, Bool.true_and, Bool.and_true, List.all_map, List.all_eq_true]
  exact fun y h => (ten_ok y (hy y h)).2
end
end Bl
namespace Bl
open PySem PySem.Spec PyProof.Rows L2 Bk Bm Evl Be Cr Bp TL
section
variable {P : Program} {w : World} {K : PySem.W.Frag} {mg : Str → Option Value} {base : Heap}
abbrev nRl : List Str := ["_law_row", "_law_made", "_law_all_made", "_law_some", "_law_kind", "_law_many", "_law_k", "_law_more"]
theorem scRuleL : FnScope nRl ["_law_row", "_law_made", "_law_all_made"] (defScope sRuleL) := ⟨rfl, rfl, rfl, by decide +kernel, rfl, by decide +kernel, by decide +kernel⟩
def spRuleL : Sp := fun vs H Q _ => ∃ r t m, vs = [.ref r, .str m, .ref t] ∧ Row K H r ∧ t ≠ r ∧ H t = some (.lst (five.map V.str)) ∧ m ∈ five ∧ ∀ a d G, Dr K r H G → Good G (.ref a) (m, d) → Q (.ref a) G
theorem cut_mem {xs : List V} {lo hi : Option Int} {x : V} (h : x ∈ cutV xs lo hi) : x ∈ xs := by
  unfold cutV at h
  first
    | exact List.mem_of_mem_drop (List.mem_of_mem_take h)
    | exact List.mem_of_mem_take (List.mem_of_mem_drop h)
theorem cut_len {xs : List V} {lo hi : Option Int} : (cutV xs lo hi).length ≤ xs.length := by
  unfold cutV
  simp
  omega
/-- one of a list of texts -/
theorem one_str {xs : List Str} {v : V} (h : v ∈ xs.map V.str) : ∃ y ∈ xs, v = .str y := by
  obtain ⟨y, hy, rfl⟩ := List.mem_map.mp h
  exact ⟨y, hy, rfl⟩
/-- a draw from a list that stands -/
theorem drawL {σ : L2.St} {H : Hp} {ta tb : TE} {r t : Addr} {xs : List V} {Q : VK} (hr : Ev ta σ H (.ref r)) (ht : Ev tb σ H (.ref t)) (row : Row K H r) (hne : t ≠ r) (hx : H t = some (.lst xs)) (h0 : 0 < xs.length) (h1 : xs.length < 1000000)
    (k : ∀ v G, v ∈ xs → Dr K r H G → Q v G) : tCall (spOne (K := K)) [] E0 (tCons ta (tCons tb tNil)) σ H Q :=
  hr H (Ex.refl _) _ fun H1 e1 => ht H1 e1 _ fun H2 e2 => ⟨r, t, xs, rfl, row.ex (e1.trans e2), hne, (e1.trans e2) _ _ hx, h0, h1, fun v G hv d => k v G hv (Dr.pre (e1.trans e2) d)⟩
/-- a draw from a written list of texts -/
theorem drawS {σ : L2.St} {H : Hp} {ta : TE} {r : Addr} {xs : List Str} {Q : VK} (hr : Ev ta σ H (.ref r)) (row : Row K H r) (h0 : 0 < xs.length) (h1 : xs.length < 100000)
    (k : ∀ y G, y ∈ xs → Dr K r H G → Q (.str y) G) : tCall (spOne (K := K)) [] E0 (tCons ta (tCons (tLst (tCs (xs.map V.str))) tNil)) σ H Q :=
  hr H (Ex.refl _) _ fun H1 e1 => el_lst (ea_cs _) (by rw [List.length_map]; omega) H1 e1 _ fun p H2 hp e2 h2 => ⟨r, p, xs.map V.str, rfl, row.ex (e1.trans e2), (row.ex e1).ne_new hp, h2, by rw [List.length_map]; exact h0, by rw [List.length_map]; omega, fun v G hv d => by
    obtain ⟨y, hy, rfl⟩ := one_str hv
    exact k y G hy (Dr.pre (e1.trans e2) d)⟩
theorem q_raw {i : Nat} {te : TE} {tz : TS} {De : Ends} {σ : L2.St} {H : Hp} (h : te σ H (fun v H1 => tz De (σ.set i (some v)) H1)) : tSeq (tAsg te (gName i)) tz De σ H := h
theorem s_raw {i : Nat} {te : TE} {De : Ends} {σ : L2.St} {H : Hp} (h : te σ H (fun v H1 => De.nx (σ.set i (some v)) H1)) : tAsg te (gName i) De σ H := h
theorem op_raw {r : R2} {ta tb : TE} {σ : L2.St} {H : Hp} {Q : VK} (h : ta σ H (fun x H1 => tb σ H1 fun y H2 => r x y H2 Q)) : tOp r ta tb σ H Q := h
theorem tup_raw {ta : TA} {σ : L2.St} {H : Hp} {Q : VK} (h : ta σ H fun vs H1 => vs.length ≤ sizeLine ∧ ∀ p, H1 p = none → Q (.ref p) (upd H1 p (.tup vs))) : tTup ta σ H Q := h
theorem ok_ruleL {f : Addr} {fd : FuncData} (F : Fun K "_law_rule" "_law_rule" sRuleL f fd) (T : Gv mg) (cT : Cal P w K mg base CX0 1 "_law_taken" ["_law_row", "_law_many"] (spTaken (K := K)))
    (cO : Cal P w K mg base CX0 2 "_law_one" ["_law_row", "_law_things"] (spOne (K := K))) : FnOk P w K mg base CX0 3 f fd ["_law_row", "_law_made", "_law_all_made"] (spRuleL (K := K)) := by
  refine F.ok scRuleL (fun vs H Q E h => ?_) (fun cdv A outer s H vs Q E hr h => ?_)
  · obtain ⟨r, t, m, rfl, _⟩ := h
    rfl
  · obtain ⟨r, t, m, rfl, row, hne, ht, hm, k⟩ := h
    have hr1 : Room 1 _ := hr.mono (by decide)
    refine ⟨_, pss_cons (ps_set (i := 3) scRuleL.nd rfl (Or.inr rfl) (pe_op op_cat (pe_lst (pa_cons pe_str (pa_cons pe_str (pa_cons pe_str (pa_cons pe_str (pa_cons pe_str pa_nil))))))
        (pe_slice sl_list (pv 2) po_none (po_some (pe_op op_add pe_int (pe_call cT.F hr1 (by rfl) cT.g cT.kp cT.b .nil pass0 (pa_cons (pv 0) (pa_cons (pe_callB call_len_seq (by rfl) T.len PySem.boot_len (pa_cons (pv 2) pa_nil)) pa_nil))))))))
      (pss_cons (ps_set (i := 4) scRuleL.nd rfl (Or.inl rfl) (pe_call cO.F hr (by rfl) cO.g cO.kp cO.b .nil pass0 (pa_cons (pv 0) (pa_cons (pe_lst (pa_cons pe_str (pa_cons pe_str (pa_cons pe_str (pa_cons pe_str (pa_cons pe_str (pa_cons pe_str (pa_cons pe_str (pa_cons pe_str (pa_cons pe_str (pa_cons pe_str (pa_cons pe_str pa_nil)))))))))))) pa_nil))))
      (pss_cons (ps_if (pt_cmpR op_eq (pv 4) pe_str (nomark _))
        (pss_cons (ps_set (i := 5) scRuleL.nd rfl (Or.inl rfl) (pe_call cT.F hr1 (by rfl) cT.g cT.kp cT.b .nil pass0 (pa_cons (pv 0) (pa_cons (pe_ix ix_list (pe_lst (pa_cons pe_int (pa_cons pe_int (pa_cons pe_int pa_nil))))
          (pe_call cT.F hr1 (by rfl) cT.g cT.kp cT.b .nil pass0 (pa_cons (pv 0) (pa_cons pe_int pa_nil))) (fun _ _ => rfl)) pa_nil))))
        (pss_one (ps_ret (pe_tup (pa_cons (pv 1) (pa_cons (pv 4) (pa_cons (pe_callTy call_tuple_of (by rfl) T.tup (by decide +kernel) (pa_cons (pe_lc (own := [("_law_k", 6)]) (g := gName 6) (tt := tYes) rfl scRuleL.nd
          (pi_range1 (by rfl) T.rng (pa_cons (pv 5) pa_nil)) (blkOk_by (N := nRl) (sc := defScope sRuleL) (by decide +kernel)) (fun _ _ _ _ _ => pg_name (i := 6) scRuleL.nd rfl (Or.inl rfl)) (fun _ _ _ _ _ => pts_nil)
          (fun _ _ _ _ _ => pe_call cO.F hr (by rfl) cO.g cO.kp cO.b .nil pass0 (pa_cons (pv 0) (pa_cons (pv 3) pa_nil)))) pa_nil)) pa_nil))))))) pss_nil)
      (pss_cons (ps_set (i := 7) scRuleL.nd rfl (Or.inl rfl) (pe_tup (pa_cons (pe_call cO.F hr (by rfl) cO.g cO.kp cO.b .nil pass0 (pa_cons (pv 0) (pa_cons (pe_ifExp (pt_cmpR op_eq (pv 4) pe_str (nomark _))
          (pe_lst (pa_cons pe_str (pa_cons pe_str (pa_cons pe_str (pa_cons pe_str (pa_cons pe_str pa_nil)))))) (pv 3)) pa_nil))) pa_nil)))
      (pss_cons (ps_if (pt_cmpR op_eq (pv 4) pe_str (nomark _))
        (pss_one (ps_set (i := 7) scRuleL.nd rfl (Or.inl rfl) (pe_op op_catA (pv 7) (pe_tup (pa_cons (pe_call cO.F hr (by rfl) cO.g cO.kp cO.b .nil pass0 (pa_cons (pv 0) (pa_cons (pv 3) pa_nil))) (pa_cons (pe_call cO.F hr (by rfl) cO.g cO.kp cO.b .nil pass0 (pa_cons (pv 0) (pa_cons (pv 3) pa_nil))) pa_nil))))))
        (pss_one (ps_if (pt_cmpR op_in_seq (pv 4) (pe_lst (pa_cons pe_str (pa_cons pe_str pa_nil))) (by rfl))
          (pss_one (ps_set (i := 7) scRuleL.nd rfl (Or.inl rfl) (pe_op op_catA (pv 7) (pe_tup (pa_cons (pe_call cO.F hr (by rfl) cO.g cO.kp cO.b .nil pass0 (pa_cons (pv 0) (pa_cons (pe_lst (pa_cons pe_str (pa_cons pe_str (pa_cons pe_str (pa_cons pe_str (pa_cons pe_str (pa_cons pe_str (pa_cons pe_str pa_nil)))))))) pa_nil))) pa_nil))))) pss_nil)))
      (pss_one (ps_ret (pe_op op_catA (pe_tup (pa_cons (pv 1) (pa_cons (pv 4) pa_nil))) (pv 7)))))))), ?_⟩
    refine q_raw (op_raw (el_lst (ea_cs (first5.map V.str)) (by decide) H (Ex.refl _) _ fun q0 H0 hq0 e0 h0 => ?_))
    have row0 := row.ex e0
    refine ⟨_, rfl, draw (m := 5) (ev_var rfl) (ev_is (ev_len (ev_var rfl) (sq_of (e0 _ _ ht))) rfl) row0 (by decide) (by decide) fun n0 G0 hn0 hm0 d0 => ?_⟩
    have neq0 : q0 ≠ r := row.ne_new hq0
    refine ⟨1, n0, rfl, rfl, _, rfl, t, _, rfl, sq_of (d0.kp _ _ hne (e0 _ _ ht)), fun q1 hq1 => ?_⟩
    have e5 : (five.map V.str).length = 5 := rfl
    have e6 : (first5.map V.str).length = 5 := rfl
    have cl := cut_len (xs := five.map V.str) (lo := none) (hi := some (1 + n0))
    refine ⟨q0, q1, _, _, rfl, rfl, (Ex.new hq1) _ _ (d0.kp _ _ neq0 h0), upd_same, sz_of (by omega), fun p hp => ?_⟩
    have hL : ∀ x ∈ first5.map V.str ++ cutV (five.map V.str) none (some (1 + n0)), ∃ y ∈ ten, x = .str y := by
      intro x hx
      rcases List.mem_append.mp hx with hx | hx
      · obtain ⟨y, hy, rfl⟩ := one_str hx
        exact ⟨y, List.mem_append_left _ hy, rfl⟩
      · obtain ⟨y, hy, rfl⟩ := one_str (cut_mem hx)
        exact ⟨y, List.mem_append_right _ hy, rfl⟩
    have hL1 : 0 < (first5.map V.str ++ cutV (five.map V.str) none (some (1 + n0))).length := by rw [List.length_append]; omega
    have hL2 : (first5.map V.str ++ cutV (five.map V.str) none (some (1 + n0))).length < 1000 := by rw [List.length_append]; omega
    have d3 : Dr K r H (upd (upd G0 q1 (.lst (cutV (five.map V.str) none (some (1 + n0))))) p (.lst (first5.map V.str ++ cutV (five.map V.str) none (some (1 + n0))))) := Dr.pre e0 (d0.ex ((Ex.new hq1).trans (Ex.new hp)))
    have hs : (upd (upd G0 q1 (.lst (cutV (five.map V.str) none (some (1 + n0))))) p (.lst (first5.map V.str ++ cutV (five.map V.str) none (some (1 + n0))))) p = some (.lst (first5.map V.str ++ cutV (five.map V.str) none (some (1 + n0)))) := upd_same
    have nep : p ≠ r := (d0.row.ex (Ex.new hq1)).ne_new hp
    show tSeq _ _ _ ([some (.ref r), some (.str m), some (.ref t), some (.ref p), none, none, none, none] : L2.St) _
    generalize upd (upd G0 q1 (.lst (cutV (five.map V.str) none (some (1 + n0))))) p (.lst (first5.map V.str ++ cutV (five.map V.str) none (some (1 + n0)))) = H3 at d3 hs ⊢
    generalize first5.map V.str ++ cutV (five.map V.str) none (some (1 + n0)) = L at hL hL1 hL2 hs
    clear hp hq1 cl d0 hm0 hn0 h0 e0 row0 neq0 hq0
    refine q_raw (drawS (xs := knds) (ev_var rfl) d3.row (by decide) (by decide) fun kd G4 hk d4 => ?_)
    have d4' := d3.trans d4
    have hs4 := d4.kp _ _ nep hs
    clear d4 hs d3
    refine q_when (b := decide (kd = Str.ofString "join")) (et_is (et_test (ev_op (ev_var rfl) ev_c (rv_eq rfl))) strEq) (fun hb H5 e5' => ?_) (fun hb H5 e5' => ?_)
    · have hj : kd = Str.ofString "join" := by simpa using hb
      subst hj
      have row5 := d4'.row.ex e5'
      refine ⟨_, rfl, by show 3 ≤ sizeLine; decide, fun q hq => ?_⟩
      have row6 : Row K (upd H5 q (.lst [.int 4, .int 4, .int 5])) r := row5.ex (Ex.new hq)
      have neq : q ≠ r := row5.ne_new hq
      refine draw (m := 3) (ev_var rfl) ev_c row6 (by decide) (by decide) fun n1 G1 hn1 hm1 d1 => ?_
      obtain ⟨m2, ha2, l2, u2⟩ : ∃ m2 : Int, atI [V.int 4, V.int 4, V.int 5] n1 = some (.int m2) ∧ 4 ≤ m2 ∧ m2 ≤ 5 := by
        have : n1 = 0 ∨ n1 = 1 ∨ n1 = 2 := by omega
        rcases this with rfl | rfl | rfl
        · exact ⟨4, rfl, by decide, by decide⟩
        · exact ⟨4, rfl, by decide, by decide⟩
        · exact ⟨5, rfl, by decide, by decide⟩
      refine ⟨q, _, n1, _, rfl, rfl, sq_of (d1.kp _ _ neq upd_same), ha2, r, m2, rfl, d1.row, by omega, by omega, fun n2 G2 hn2 hm2 d2 => ?_⟩
      have d02 : Dr K r H G2 := d4'.trans (Dr.pre e5' (Dr.trans (Dr.pre (Ex.new hq) d1) d2))
      have hs2 : G2 p = some (.lst L) := d2.kp _ _ nep (d1.kp _ _ nep ((Ex.new hq) _ _ (e5' _ _ hs4)))
      refine ⟨_, rfl, _, rfl, _, rfl, n2, rfl, by omega, by omega, fun D hD => ?_⟩
      have hD2 : H D = none := d02.free row hD
      have neD : D ≠ r := row.ne_new hD2
      have neDp : D ≠ p := (ne_of_none hs2 hD).symm
      refine lc_range (lo := 0) (n := n2.toNat) (fun i G => ∃ ys : List Str, ys.length = i ∧ (∀ y ∈ ys, y ∈ ten) ∧ G D = some (.lst (ys.map V.str)) ∧ G p = some (.lst L) ∧ Dr K r H G) ⟨[], rfl, fun _ z => (by cases z), upd_same, by rw [upd_ne neDp.symm]; exact hs2, ?_⟩ ?_ ?_
      · exact ⟨d02.kp.updL hD2, d02.row.ex (Ex.new hD)⟩
      · rintro i G hi ⟨ys, hlen, hys, hGD, hGp, d⟩
        refine ⟨rfl, ?_⟩
        unfold tYes
        dsimp only
        rw [if_pos rfl]
        refine ⟨_, rfl, _, rfl, r, p, L, rfl, d.row, nep, hGp, hL1, by omega, fun v G' hv d' => ?_⟩
        obtain ⟨y, hy, rfl⟩ := hL v hv
        refine ⟨ys.map V.str, d'.kp _ _ neD hGD, sz_lt (by rw [List.length_map]; omega), ys ++ [y], by simp [hlen], fun z hz => ?_, by rw [upd_same]; simp, by rw [upd_ne neDp.symm]; exact d'.kp _ _ nep hGp, (Dr.trans d d').updL hD2 (d'.kp _ _ neD hGD) neD⟩
        rcases List.mem_append.mp hz with hz | hz
        · exact hys z hz
        · rw [List.mem_singleton.mp hz]
          exact hy
      · rintro G ⟨ys, hlen, hys, hGD, hGp, d⟩
        refine ⟨D, ys.map V.str, rfl, .inl ⟨sq_of hGD, fun b hb => ⟨by show 3 ≤ sizeLine; decide, fun a ha => ?_⟩⟩⟩
        refine k a _ _ (d.ex ((Ex.new hb).trans (Ex.new ha))) (good_j upd_same ((Ex.new ha) _ _ upd_same) hm hys (by omega))
    have nj : kd ≠ Str.ofString "join" := by simpa using hb
    clear hb
    have row5 := d4'.row.ex e5'
    have d5 : Dr K r H H5 := d4'.ex e5'
    have hs5 : H5 p = some (.lst L) := e5' _ _ hs4
    show tSeq _ _ _ ([some (.ref r), some (.str m), some (.ref t), some (.ref p), some (.str kd), none, none, none] : L2.St) _
    have more1 : ∀ Q' : VK, (∀ y G, ((kd = Str.ofString "names" ∧ y ∈ folds) ∨ (kd ≠ Str.ofString "names" ∧ y ∈ ten)) → Dr K r H5 G → Q' (.str y) G) →
        tCall (spOne (K := K)) [] E0 (tCons (tVar 0) (tCons (tIf (tTest (tOp rEq (tVar 4) (tC (.str (Str.ofString "names"))))) (tLst (tCs (folds.map V.str))) (tVar 3)) tNil)) ([some (.ref r), some (.str m), some (.ref t), some (.ref p), some (.str kd), none, none, none] : L2.St) H5 Q' := by
      intro Q' q'
      refine ⟨_, rfl, ?_⟩
      show tTest (tOp rEq (tVar 4) (tC (.str (Str.ofString "names")))) ([some (.ref r), some (.str m), some (.ref t), some (.ref p), some (.str kd), none, none, none] : L2.St) H5 (fun c H1 => if c = true then tLst (tCs (folds.map V.str)) ([some (.ref r), some (.str m), some (.ref t), some (.ref p), some (.str kd), none, none, none] : L2.St) H1 (fun y H2 => spOne (K := K) [.ref r, y] H2 Q' E0) else tVar 3 ([some (.ref r), some (.str m), some (.ref t), some (.ref p), some (.str kd), none, none, none] : L2.St) H1 (fun y H2 => spOne (K := K) [.ref r, y] H2 Q' E0))
      refine (et_is (et_test (ev_op (ev_var rfl) ev_c (rv_eq rfl))) strEq : EvT (tTest (tOp rEq (tVar 4) (tC (.str (Str.ofString "names"))))) ([some (.ref r), some (.str m), some (.ref t), some (.ref p), some (.str kd), none, none, none] : L2.St) H5 (decide (kd = Str.ofString "names"))) H5 (Ex.refl _) _ fun H7 e57 => ?_
      by_cases hn : kd = Str.ofString "names"
      · rw [decide_eq_true hn, if_pos rfl]
        refine el_lst (ea_cs (folds.map V.str)) (by decide) H7 (Ex.refl _) _ fun l H8 hl e8 h8 => ?_
        refine ⟨r, l, folds.map V.str, rfl, row5.ex (e57.trans e8), (row5.ex e57).ne_new hl, h8, by decide, by decide, fun v G hv d => ?_⟩
        obtain ⟨y, hy, rfl⟩ := one_str hv
        exact q' y G (.inl ⟨hn, hy⟩) (Dr.pre (e57.trans e8) d)
      · rw [decide_eq_false hn, if_neg (by decide)]
        refine ⟨_, rfl, r, p, L, rfl, row5.ex e57, nep, e57 _ _ hs5, hL1, by omega, fun v G hv d => ?_⟩
        obtain ⟨y, hy, rfl⟩ := hL v hv
        exact q' y G (.inr ⟨hn, hy⟩) (Dr.pre e57 d)
    have fin : ∀ (bs : Addr) (rest : List V) (G : Hp), Dr K r H G → G bs = some (.tup rest) → rest ≠ [] → rest.length ≤ 3 → (∀ a G', Ex G G' → G' a = some (.tup (.str m :: .str kd :: rest)) → ∃ d, Good G' (.ref a) (m, d)) →
        tRet (tOp (rCatA K) (tTup (tCons (tVar 1) (tCons (tVar 4) tNil))) (tVar 7)) { nx := fun _ H' => Q .non H', rt := Q } ([some (.ref r), some (.str m), some (.ref t), some (.ref p), some (.str kd), none, none, some (.ref bs)] : L2.St) G := by
      intro bs rest G d hb hne' hl hg
      refine op_raw (tup_raw ⟨_, rfl, _, rfl, by show 2 ≤ sizeLine; decide, fun c hc => ⟨_, rfl, c, bs, _, rest, rfl, rfl, st_of upd_same, st_of ((Ex.new hc) _ _ hb), sz_of ?_, fun z => (by cases z), fun _ z => absurd z hne', fun _ _ a ha => ?_⟩⟩)
      · show 2 + rest.length ≤ 100000
        omega
      · obtain ⟨dd, hd⟩ := hg a _ ((Ex.new hc).trans (Ex.new ha)) upd_same
        exact k a dd _ (d.ex ((Ex.new hc).trans (Ex.new ha))) hd
    refine q_raw (tup_raw (more1 _ fun y1 G6 hy1 d6 => ⟨by show 1 ≤ sizeLine; decide, fun b1 hb1 => ?_⟩))
    have d6' : Dr K r H (upd G6 b1 (.tup [.str y1])) := (d5.trans d6).ex (Ex.new hb1)
    have h6 : (upd G6 b1 (.tup [.str y1])) b1 = some (.tup [.str y1]) := upd_same
    have hs6 : (upd G6 b1 (.tup [.str y1])) p = some (.lst L) := (Ex.new hb1) _ _ (d6.kp _ _ nep hs5)
    have neb1 : b1 ≠ r := d6.row.ne_new hb1
    show tSeq _ _ _ ([some (.ref r), some (.str m), some (.ref t), some (.ref p), some (.str kd), none, none, some (.ref b1)] : L2.St) _
    generalize upd G6 b1 (.tup [.str y1]) = H6 at d6' h6 hs6 ⊢
    refine q_if (b := decide (kd = Str.ofString "choose")) (et_is (et_test (ev_op (ev_var rfl) ev_c (rv_eq rfl))) strEq) (fun hb H7 e7 => ?_) (fun hb H7 e7 => ?_)
    · have hc : kd = Str.ofString "choose" := by simpa using hb
      subst hc
      have hy : y1 ∈ ten := by
        rcases hy1 with ⟨z, _⟩ | ⟨_, z⟩
        · exact absurd z (by decide +kernel)
        · exact z
      have row7 := d6'.row.ex e7
      refine s_raw (op_raw ⟨_, rfl, tup_raw (drawL (r := r) (t := p) (xs := L) (ev_var rfl) (ev_var rfl) row7 nep (e7 _ _ hs6) hL1 (by omega) fun v2 G2 hv2 d2 => ?_)⟩)
      refine drawL (r := r) (t := p) (xs := L) (ev_var rfl) (ev_var rfl) d2.row nep (d2.kp _ _ nep (e7 _ _ hs6)) hL1 (by omega) fun v3 G3 hv3 d3 => ?_
      obtain ⟨y2, hy2, rfl⟩ := hL v2 hv2
      obtain ⟨y3, hy3, rfl⟩ := hL v3 hv3
      have hb3 : G3 b1 = some (.tup [.str y1]) := d3.kp _ _ neb1 (d2.kp _ _ neb1 (e7 _ _ h6))
      refine ⟨by show 2 ≤ sizeLine; decide, fun b2 hb2 => ⟨b1, b2, [.str y1], [.str y2, .str y3], rfl, rfl, st_of ((Ex.new hb2) _ _ hb3), st_of upd_same, by show 1 + 2 ≤ sizeLine; decide, fun z => (by cases z), fun _ z => (by cases z), fun _ _ b4 hb4 => ?_⟩⟩
      exact fin b4 [.str y1, .str y2, .str y3] _ ((((d6'.ex e7).trans d2).trans d3).ex ((Ex.new hb2).trans (Ex.new hb4))) upd_same (by simp) (by show 3 ≤ 3; decide) fun a G' e' h' => ⟨_, good_3 h' hm hy hy2 hy3⟩
    have nc : kd ≠ Str.ofString "choose" := by simpa using hb
    clear hb
    have row7 := d6'.row.ex e7
    refine s_if (b := inV (.str kd) [.str (Str.ofString "pick"), .str (Str.ofString "need")]) (et_test (ev_opL (ev_var rfl) (el_lst (ea_cs [.str (Str.ofString "pick"), .str (Str.ofString "need")]) (by decide)) fun _ _ h _ => rv_isL (sq_of h) rfl rfl)) (fun hb H8 e8 => ?_) (fun hb H8 e8 => ?_)
    · obtain ⟨ff, fn⟩ := k_pn kd hk hb
      have hy : y1 ∈ ten := by
        rcases hy1 with ⟨z, _⟩ | ⟨_, z⟩
        · exact absurd z fn
        · exact z
      refine s_raw (op_raw ⟨_, rfl, tup_raw (drawS (xs := wrds) (ev_var rfl) (row7.ex e8) (by decide) (by decide) fun y2 G2 hy2 d2 => ?_)⟩)
      have hb3 : G2 b1 = some (.tup [.str y1]) := d2.kp _ _ neb1 ((e7.trans e8) _ _ h6)
      refine ⟨by show 1 ≤ sizeLine; decide, fun b2 hb2 => ⟨b1, b2, [.str y1], [.str y2], rfl, rfl, st_of ((Ex.new hb2) _ _ hb3), st_of upd_same, by show 1 + 1 ≤ sizeLine; decide, fun z => (by cases z), fun _ z => (by cases z), fun _ _ b4 hb4 => ?_⟩⟩
      exact fin b4 [.str y1, .str y2] _ (((d6'.ex (e7.trans e8)).trans d2).ex ((Ex.new hb2).trans (Ex.new hb4))) upd_same (by simp) (by show 2 ≤ 3; decide) fun a G' e' h' => ⟨_, good_2 h' hm hk (ten_ok y1 hy).1 (wrds_ok y2 hy2).1 ff (ten_ok y1 hy).2 (wrds_ok y2 hy2).2⟩
    · refine fin b1 [.str y1] H8 (d6'.ex (e7.trans e8)) ((e7.trans e8) _ _ h6) (by simp) (by show 1 ≤ 3; decide) fun a G' e' h' => ⟨.tuple [.str m, .str kd, .str y1], ?_⟩
      rcases hy1 with ⟨hn, z⟩ | ⟨hn, z⟩
      · exact good_1 h' hm hk (folds_ok y1 z).1 (.inr ⟨hn, (folds_ok y1 z).2⟩)
      · exact good_1 h' hm hk (ten_ok y1 z).1 (.inl ⟨k_one kd hk nj nc hb hn, (ten_ok y1 z).2⟩)
end
end Bl
namespace Bl
open PySem PySem.Spec PyProof.Rows L2 Bk Bm Evl Be Cr Bp TL
abbrev sRulesL : Stmt := top 74
def eight : List Str := ["m", "n", "o", "p/q", "r", "s", "t/u", "v/abc123/def456"].map Str.ofString
theorem cut_to {xs : List V} {j : Nat} (h : j ≤ xs.length) : cutV xs none (some (j : Int)) = xs.take j := by
  have c1 : HT.sIx xs.length 0 none = 0 := HT.sIx_none _ _
  have c2 : HT.sIx xs.length xs.length (some (j : Int)) = j := by rw [HT.sIx_nat]; omega
  unfold cutV
  rw [c1, c2]
  simp
theorem ins_perm {α : Type} (gs : List α) (j : Nat) (g : α) : (gs.take j ++ [g] ++ gs.drop j).Perm (g :: gs) := by
  have h : (gs.take j ++ [g] ++ gs.drop j) = gs.take j ++ g :: gs.drop j := by simp
  rw [h]
  have p := List.perm_middle (a := g) (l₁ := gs.take j) (l₂ := gs.drop j)
  rw [List.take_append_drop] at p
  exact p
theorem five_nodup : five.Nodup := by decide +kernel
theorem five_new {i : Nat} {q : Str} (h : five[i]? = some q) : q ∉ five.take i := by
  intro hm
  obtain ⟨j, e⟩ := List.getElem?_of_mem hm
  have hj2 : j < i := by
    have h1 := (List.getElem?_eq_some_iff.mp e).1
    have := List.length_take_le i five
    omega
  rw [List.getElem?_take_of_lt hj2] at e
  have := nd_ix five_nodup h e
  omega
section
variable {P : Program} {w : World} {K : PySem.W.Frag} {mg : Str → Option Value} {base : Heap}
abbrev nRs : List Str := ["_law_row", "_law_most", "_law_all_made", "_law_found", "_law_made"]
theorem scRulesL : FnScope nRs ["_law_row", "_law_most"] (defScope sRulesL) := ⟨rfl, rfl, rfl, by decide +kernel, rfl, by decide +kernel, by decide +kernel⟩
/-- a drawn tuple of rules -/
def RsAt (H : Hp) (xs : List V) (gs : List (Str × PyData)) : Prop := Paired (Good H) xs gs ∧ (gs.map (·.1)).Nodup ∧ gs.length ≤ 5
def spRulesL : Sp := fun vs H Q _ => ∃ r, vs = [.ref r, .int 4] ∧ Row K H r ∧ ∀ p xs gs G, Dr K r H G → H p = none → G p = some (.tup xs) → RsAt G xs gs → 1 ≤ gs.length → Q (.ref p) G
/-- between the turns -/
def RInv (K : PySem.W.Frag) (r A D l : Addr) (H0 : Hp) (L : List V) (i : Nat) (σ : L2.St) (G : Hp) : Prop :=
  ∃ (vs : List V) (gs : List (Str × PyData)) (u : Option V), σ = [some (.ref r), some (.int 4), some (.ref A), some (.ref D), u] ∧ G D = some (.lst vs) ∧ G l = some (.lst L) ∧ G A = some (.lst (five.map V.str)) ∧
    Paired (Good G) vs gs ∧ (gs.map (·.1)).Nodup ∧ (∀ g ∈ gs, g.1 ∈ five.take i) ∧ gs.length = i ∧ Dr K r H0 G
theorem ok_rulesL {f : Addr} {fd : FuncData} (F : Fun K "_law_rules" "_law_rules" sRulesL f fd) (T : Gv mg) (cT : Cal P w K mg base CX0 1 "_law_taken" ["_law_row", "_law_many"] (spTaken (K := K)))
    (cR : Cal P w K mg base CX0 3 "_law_rule" ["_law_row", "_law_made", "_law_all_made"] (spRuleL (K := K))) : FnOk P w K mg base CX0 4 f fd ["_law_row", "_law_most"] (spRulesL (K := K)) := by
  refine F.ok scRulesL (fun vs H Q E h => ?_) (fun cdv A outer s H vs Q E hr h => ?_)
  · obtain ⟨r, rfl, _⟩ := h
    rfl
  · obtain ⟨r, rfl, row, k⟩ := h
    have hr1 : Room 1 _ := hr.mono (by decide)
    refine ⟨_, pss_cons (ps_par (i := 2) (j := 3) rfl scRulesL.nd rfl rfl (by decide) rfl rfl (pa_cons (pe_slice sl_list (pe_lst (pa_cons pe_str (pa_cons pe_str (pa_cons pe_str (pa_cons pe_str (pa_cons pe_str (pa_cons pe_str (pa_cons pe_str (pa_cons pe_str pa_nil))))))))) po_none
        (po_some (pe_callB (call_max2 rfl) (by rfl) T.max (by decide +kernel) (pa_cons pe_int (pa_cons (pv 1) pa_nil))))) (pa_cons (pe_lst pa_nil) pa_nil)) (by rfl))
      (pss_cons (ps_for PassesOwn.never rfl (pi_list (pe_slice sl_list (pv 2) po_none (po_some (pe_op op_add pe_int (pe_call cT.F hr1 (by rfl) cT.g cT.kp cT.b .nil pass0 (pa_cons (pv 0) (pa_cons (pv 1) pa_nil))))))) (pg_name (i := 4) scRulesL.nd rfl (Or.inl rfl))
        (pss_one (ps_expr (pe_bm PySem.F.plainAttrs_list PySem.F.slot_list_insert PySem.F.type_list_insert mt_insert (pv 3) (pa_cons (pe_call cT.F hr1 (by rfl) cT.g cT.kp cT.b .nil pass0 (pa_cons (pv 0) (pa_cons (pe_op op_add (pe_callB call_len_seq (by rfl) T.len PySem.boot_len (pa_cons (pv 3) pa_nil)) pe_int) pa_nil)))
          (pa_cons (pe_call cR.F hr (by rfl) cR.g cR.kp cR.b .nil pass0 (pa_cons (pv 0) (pa_cons (pv 4) (pa_cons (pv 2) pa_nil)))) pa_nil))))))
      (pss_one (ps_ret (pe_callTy call_tuple_of (by rfl) T.tup (by decide +kernel) (pa_cons (pv 3) pa_nil))))), ?_⟩
    refine ⟨by show 8 ≤ sizeLine; decide, fun q hq => ?_⟩
    refine ⟨_, rfl, 5, 4, rfl, _, rfl, q, eight.map V.str, rfl, sq_of upd_same, fun A' hA => ⟨by show 0 ≤ sizeLine; decide, fun D hD => ⟨_, _, rfl, ?_⟩⟩⟩
    have e0 : Ex H (upd (upd (upd H q (.lst (eight.map V.str))) A' (.lst (five.map V.str))) D (.lst [])) := (Ex.new (o := .lst (eight.map V.str)) hq).trans ((Ex.new (o := .lst (five.map V.str)) hA).trans (Ex.new (o := .lst []) hD))
    have hAt : (upd (upd (upd H q (.lst (eight.map V.str))) A' (.lst (five.map V.str))) D (.lst [])) A' = some (.lst (five.map V.str)) := (Ex.new hD) _ _ upd_same
    have hDt : (upd (upd (upd H q (.lst (eight.map V.str))) A' (.lst (five.map V.str))) D (.lst [])) D = some (.lst []) := upd_same
    have row0 : Row K (upd (upd (upd H q (.lst (eight.map V.str))) A' (.lst (five.map V.str))) D (.lst [])) r := row.ex e0
    have neD : D ≠ r := (row.ex ((Ex.new (o := .lst (eight.map V.str)) hq).trans (Ex.new (o := .lst (five.map V.str)) hA))).ne_new hD
    have neA : A' ≠ r := (row.ex (Ex.new (o := .lst (eight.map V.str)) hq)).ne_new hA
    have neDA : D ≠ A' := (ne_of_none upd_same hD).symm
    have hD0 : H D = none := fresh_back ((Ex.new (o := .lst (eight.map V.str)) hq).trans (Ex.new (o := .lst (five.map V.str)) hA)) hD
    show tSeq _ _ _ ([some (.ref r), some (.int 4), some (.ref A'), some (.ref D), none] : L2.St) (upd (upd (upd H q (.lst (eight.map V.str))) A' (.lst (five.map V.str))) D (.lst []))
    generalize upd (upd (upd H q (.lst (eight.map V.str))) A' (.lst (five.map V.str))) D (.lst []) = H1 at e0 hAt hDt row0 ⊢
    refine ⟨_, rfl, draw (m := 4) (ev_var rfl) (ev_var rfl) row0 (by decide) (by decide) fun n G0 hn hm d0 => ?_⟩
    refine ⟨1, n, rfl, rfl, _, rfl, A', _, rfl, sq_of (d0.kp _ _ neA hAt), fun l hl => ?_⟩
    have hcut : cutV (five.map V.str) none (some (1 + n)) = (five.take (1 + n.toNat)).map V.str := by
      have e : (1 + n) = ((1 + n.toNat : Nat) : Int) := by omega
      rw [e, cut_to (by show 1 + n.toNat ≤ 5; omega), List.map_take]
    rw [hcut]
    have neL : l ≠ r := d0.row.ne_new hl
    have neLD : l ≠ D := (ne_of_none (d0.kp _ _ neD hDt) hl).symm
    have neLA : l ≠ A' := (ne_of_none (d0.kp _ _ neA hAt) hl).symm
    have d1 : Dr K r H (upd G0 l (.lst ((five.take (1 + n.toNat)).map V.str))) := Dr.pre e0 (d0.ex (Ex.new hl))
    have hlen : ((five.take (1 + n.toNat)).map V.str).length = 1 + n.toNat := by
      rw [List.length_map, List.length_take]
      show min (1 + n.toNat) 5 = _
      omega
    refine ⟨l, rfl, ⟨_, sq_of upd_same⟩, for_list (K := K) (xs := (five.take (1 + n.toNat)).map V.str) (RInv K r A' D l H ((five.take (1 + n.toNat)).map V.str)) ?_ (fun i σ' G' _ q => ?_) (fun i x σ' G' hi q => ?_) (fun σ' G' q => ?_)⟩
    · exact ⟨[], [], none, rfl, (Ex.new hl) _ _ (d0.kp _ _ neD hDt), upd_same, (Ex.new hl) _ _ (d0.kp _ _ neA hAt), .nil, List.nodup_nil, fun _ z => (by cases z), rfl, d1⟩
    · obtain ⟨vs, gs, u, _, _, hl', _⟩ := q
      exact sq_of hl'
    · obtain ⟨vs, gs, u, rfl, hGD, hGl, hGA, pf, nd, mem, hgl, d⟩ := q
      obtain ⟨q5, hq5, rfl⟩ : ∃ z, five[i]? = some z ∧ x = V.str z := by
        rw [List.getElem?_map] at hi
        cases e : (five.take (1 + n.toNat))[i]? with
        | none => rw [e] at hi; cases hi
        | some z =>
          rw [e] at hi
          have hi2 : i < 1 + n.toNat := by
            have := (List.getElem?_eq_some_iff.mp e).1
            rw [List.length_take] at this
            omega
          rw [List.getElem?_take_of_lt hi2] at e
          exact ⟨z, e, (Option.some.inj hi).symm⟩
      have hi5 : i < 5 := (List.getElem?_eq_some_iff.mp hq5).1
      have pl := pr_len pf
      refine ⟨_, rfl, .inl ⟨rfl, vs, sq_of hGD⟩, draw (m := (gs.length : Int) + 1) (ev_var rfl) (ev_op (ev_is (ev_len (ev_var rfl) (sq_of hGD)) (by rw [pl])) ev_c rv_I0) d.row (by omega) (by omega) fun j G1 hj hjm d1 => ?_⟩
      refine ⟨_, rfl, _, rfl, _, rfl, r, A', q5, rfl, d1.row, neA, d1.kp _ _ neA hGA, List.mem_of_getElem? hq5, fun a dd G2 d2 hg => ?_⟩
      have hGD2 : G2 D = some (.lst vs) := d2.kp _ _ neD (d1.kp _ _ neD hGD)
      refine ⟨D, vs, j, .ref a, rfl, rfl, hGD2, sz_lt (by omega), hj, by omega, ?_⟩
      have d12 := d1.trans d2
      have pf2 : Paired (Good G2) vs gs := pr_mono pf fun _ _ z => z.dr d.row d12
      refine ⟨vs.take j.toNat ++ [.ref a] ++ vs.drop j.toNat, gs.take j.toNat ++ [(q5, dd)] ++ gs.drop j.toNat, _, rfl, upd_same, ?_, ?_, ?_, ?_, ?_, ?_, ?_⟩
      · rw [upd_ne neLD]
        exact d12.kp _ _ neL hGl
      · rw [upd_ne neDA.symm]
        exact d12.kp _ _ neA hGA
      · exact pr_app (pr_app (pr_take (pr_mono pf2 fun _ _ z => z.updL hGD2) _) (.cons (hg.updL hGD2) .nil)) (pr_drop (pr_mono pf2 fun _ _ z => z.updL hGD2) _)
      · have pm := (ins_perm gs j.toNat (q5, dd)).map (·.1)
        rw [pm.nodup_iff]
        refine List.nodup_cons.mpr ⟨fun hm => ?_, nd⟩
        obtain ⟨g, hg1, hg2⟩ := List.mem_map.mp hm
        have := mem g hg1
        rw [show g.1 = q5 from hg2] at this
        exact five_new hq5 this
      · intro g hg1
        rw [List.take_succ, hq5]
        rcases List.mem_cons.mp ((ins_perm gs j.toNat (q5, dd)).mem_iff.mp hg1) with rfl | hg1
        · exact List.mem_append_right _ (by simp)
        · exact List.mem_append_left _ (mem g hg1)
      · rw [(ins_perm gs j.toNat (q5, dd)).length_eq, List.length_cons, hgl]
      · exact (d.trans d12).updL hD0 hGD2 neD
    · obtain ⟨vs, gs, u, rfl, hGD, hGl, hGA, pf, nd, mem, hgl, d⟩ := q
      rw [hlen] at hgl
      refine ⟨_, rfl, D, vs, rfl, .inl ⟨sq_of hGD, fun p hp => ?_⟩⟩
      exact k p vs gs _ (d.ex (Ex.new hp)) (d.free row hp) upd_same ⟨pr_mono pf fun _ _ z => z.mono (Ex.new hp), nd, by omega⟩ (by omega)
end
end Bl
namespace Bl
open PySem PySem.Spec PyProof.Rows L2 Bk Bm Evl Be Cr Bp TL
section
variable {K : PySem.W.Frag} {H G : Hp} {r : Addr} {v : V}
theorem Kd.kp {n : String} {xs0 ys0 : List V} (h : Kd K H v n) (hr : H r = some (.lst xs0)) (hr' : G r = some (.lst ys0)) (kp : Kp r H G) : Kd K G v n := by
  obtain ⟨t, k⟩ := h
  refine ⟨?_, k⟩
  cases t with
  | base t =>
    refine .base ?_
    cases t with
    | non => exact .non
    | bl b => exact .bl b
    | int i => exact .int i
    | str x => exact .str x
    | flt x => exact .flt x
    | @lst a xs h =>
      by_cases c : a = r
      · subst c; exact .lst hr'
      · exact .lst (kp _ _ c h)
    | frz h => exact .frz (kp _ _ (ne_of h hr (by intro z; cases z)) h)
    | tup h => exact .tup (kp _ _ (ne_of h hr (by intro z; cases z)) h)
    | dK h => exact .dK (kp _ _ (ne_of h hr (by intro z; cases z)) h)
    | dT h => exact .dT (kp _ _ (ne_of h hr (by intro z; cases z)) h)
  | byt b => exact .byt b
  | set h => exact .set (kp _ _ (ne_of h hr (by intro z; cases z)) h)
  | kList h c => exact .kList h c
  | kTuple h c => exact .kTuple h c
  | kDict h c => exact .kDict h c
  | fTuple h => exact .fTuple (kp _ _ (ne_of h hr (by intro z; cases z)) h)
  | fDict h => exact .fDict (kp _ _ (ne_of h hr (by intro z; cases z)) h)
theorem Sc.ex {a : Addr} {ns : List Int} (h : Sc K H a ns) (e : Ex H G) : Sc K G a ns := by
  rcases h with ⟨o, h⟩ | h
  · exact .inl ⟨o, e _ _ h⟩
  · exact .inr h
theorem Th.kp {o : Option (List V)} {xs0 ys0 : List V} (h : Th K H v o) (hr : H r = some (.lst xs0)) (hx0 : xs0.length ≠ 1) (hr' : G r = some (.lst ys0)) (kp : Kp r H G) : Th K G v o := by
  cases h with
  | sm h k hn => exact .sm (Sm.kp h hr hx0 kp) (Kd.kp k hr hr' kp) hn
  | tu h hx hl => exact .tu (kp _ _ (ne_of h hr (by intro z; cases z)) h) (fun x hh => Sm.kp (hx x hh) hr hx0 kp) hl
theorem Ru.kp {b : Bool} {xs0 ys0 : List V} (h : Ru K H v b) (hr : H r = some (.lst xs0)) (hx0 : xs0.length ≠ 1) (hr' : G r = some (.lst ys0)) (kp : Kp r H G) : Ru K G v b := by
  cases h with
  | no k h => exact .no (Kd.kp k hr hr' kp) h
  | short h hl => exact .short (kp _ _ (ne_of h hr (by intro z; cases z)) h) hl
  | long h h0 h1 hk hp hl hf => exact .long (kp _ _ (ne_of h hr (by intro z; cases z)) h) (Sm.kp h0 hr hx0 kp) (Sm.kp h1 hr hx0 kp) hk (pr_mono hp fun _ _ z => Th.kp z hr hx0 hr' kp) hl fun z x hx => Sm.kp (hf z x hx) hr hx0 kp
theorem Itr.kp {o : Option Str} {xs0 ys0 : List V} (h : Itr K H v o) (hr : H r = some (.lst xs0)) (hx0 : xs0.length ≠ 1) (hr' : G r = some (.lst ys0)) (kp : Kp r H G) : Itr K G v o := by
  cases o with
  | some p =>
    obtain ⟨h1, ⟨a, ts, h2, h3⟩, h4⟩ := h
    exact ⟨Ru.kp h1 hr hx0 hr' kp, ⟨a, ts, h2, kp _ _ (ne_of h3 hr (by intro z; cases z)) h3⟩, h4⟩
  | none => exact Ru.kp h hr hx0 hr' kp
theorem Itr.dr {o : Option Str} (h : Itr K H v o) (row : Row K H r) (d : Dr K r H G) : Itr K G v o := by
  obtain ⟨a, i, s, z, ns, hr, _⟩ := row
  obtain ⟨rl', hr'⟩ := d.row.at
  exact Itr.kp h hr (by show 4 ≠ 1; decide) hr' d.kp
/-! sorted made paths are one list -/
def ix (z : Str) : Nat := five.findIdx fun y => decide (y = z)
theorem ix_lt : ∀ x ∈ five, ∀ y ∈ five, ltCps x.cps.toList y.cps.toList = decide (ix x < ix y) := by decide +kernel
theorem ix_inj : ∀ x ∈ five, ∀ y ∈ five, ix x = ix y → x = y := by decide +kernel
theorem ris_pw : ∀ (l : List Str) (p : Str), (∀ z ∈ p :: l, z ∈ five) → risingS p l = true → (p :: l).Pairwise fun a b => ix a ≤ ix b
  | [], p, _, _ => List.pairwise_singleton _ _
  | x :: r, p, hm, h => by
    have h' : (!ltCps x.cps.toList p.cps.toList) = true ∧ risingS x r = true := by
      have h0 : (!ltCps x.cps.toList p.cps.toList && risingS x r) = true := h
      simpa using h0
    have ih := ris_pw r x (fun z hz => hm z (List.mem_cons_of_mem _ hz)) h'.2
    have hx := hm x (List.mem_cons_of_mem _ List.mem_cons_self)
    have hp := hm p List.mem_cons_self
    have le : ix p ≤ ix x := by
      have h1 := h'.1
      rw [ix_lt x hx p hp] at h1
      have h2 : ¬ ix x < ix p := by simpa using h1
      omega
    refine List.pairwise_cons.mpr ⟨fun z hz => ?_, ih⟩
    rcases List.mem_cons.mp hz with rfl | hz
    · exact le
    · exact Nat.le_trans le ((List.pairwise_cons.mp ih).1 z hz)
theorem srt_pw {l : List Str} (hm : ∀ z ∈ l, z ∈ five) (h : sortedS l = true) : l.Pairwise fun a b => ix a ≤ ix b := by
  cases l with
  | nil => exact List.Pairwise.nil
  | cons x r => exact ris_pw r x hm h
theorem uniq : ∀ l m : List Str, l.Pairwise (fun a b => ix a ≤ ix b) → m.Pairwise (fun a b => ix a ≤ ix b) → l.Perm m → (∀ z ∈ l, z ∈ five) → l = m
  | [], m, _, _, p, _ => (List.nil_perm.mp p).symm
  | x :: r, [], _, _, p, _ => absurd p.length_eq (by simp)
  | x :: r, y :: t, hl, hm, p, h5 => by
    have hx : x ∈ y :: t := p.mem_iff.mp List.mem_cons_self
    have hy : y ∈ x :: r := p.mem_iff.mpr List.mem_cons_self
    have le1 : ix x ≤ ix y := by
      rcases List.mem_cons.mp hy with h | h
      · rw [h]; exact Nat.le_refl _
      · exact (List.pairwise_cons.mp hl).1 y h
    have le2 : ix y ≤ ix x := by
      rcases List.mem_cons.mp hx with h | h
      · rw [h]; exact Nat.le_refl _
      · exact (List.pairwise_cons.mp hm).1 x h
    have e : x = y := ix_inj x (h5 x List.mem_cons_self) y (h5 y hy) (by omega)
    subst e
    rw [uniq r t (List.pairwise_cons.mp hl).2 (List.pairwise_cons.mp hm).2 p.cons_inv fun z hz => h5 z (List.mem_cons_of_mem _ hz)]
/-! drawn rules as data -/
theorem Good.dp {md : Str × PyData} (h : Good H v md) : Dp K H v md.2 := by
  obtain ⟨a, k, ts, ods, rfl, h1, h2, h3, h4, h5, h6, h7, h8⟩ := h
  rw [h8]
  refine .tup (SqT.of h1) (.cons (.str _) (.cons (.str _) ?_))
  clear h1 h3 h5 h7 h8
  induction h2 with
  | nil => exact .nil
  | cons r _ ih =>
    refine .cons ?_ ih
    cases r with
    | s x h => exact .str x
    | @t b ys h hy hl =>
      refine .tup (SqT.of h) ?_
      clear h hy hl
      induction ys with
      | nil => exact .nil
      | cons y r ih => exact .cons (.str y) ih
theorem lay_strs : ∀ {ys : List Str}, (∀ y ∈ ys, okS y) → PyData.canLayAll0 (ys.map PyData.str) = true ∧ PyData.depthAll (ys.map PyData.str) ≤ 1
  | [], _ => ⟨rfl, by simp [PyData.depthAll]⟩
  | y :: r, h => by
    obtain ⟨i1, i2⟩ := lay_strs (ys := r) fun z hz => h z (List.mem_cons_of_mem _ hz)
    refine ⟨?_, ?_⟩
    · show (PyData.strOk y && PyData.canLayAll0 (r.map PyData.str)) = true
      rw [(h y List.mem_cons_self).2.1, i1]
      rfl
    · simp only [List.map_cons, PyData.depthAll, PyData.depth] at i2 ⊢
      omega
theorem Good.lay {md : Str × PyData} (h : Good H v md) : md.2.canLay0 = true ∧ md.2.depth ≤ 4 := by
  obtain ⟨a, k, ts, ods, rfl, h1, h2, h3, h4, h5, h6, h7, h8⟩ := h
  rw [h8]
  have rest : PyData.canLayAll0 (ods.map (·.2)) = true ∧ PyData.depthAll (ods.map (·.2)) ≤ 3 := by
    clear h1 h3 h5 h7 h8
    induction h2 with
    | nil => exact ⟨rfl, by simp [PyData.depthAll]⟩
    | cons r _ ih =>
      cases r with
      | s x h =>
        refine ⟨?_, ?_⟩
        · show (PyData.strOk x && PyData.canLayAll0 _) = true
          rw [h.2.1, ih.1]
          rfl
        · have := ih.2
          simp only [List.map_cons, PyData.depthAll, PyData.depth]
          omega
      | @t b ys h hy hl =>
        obtain ⟨l1, l2⟩ := lay_strs hy
        refine ⟨?_, ?_⟩
        · show (PyData.canLayAll0 (ys.map PyData.str) && PyData.canLayAll0 _) = true
          rw [l1, ih.1]
          rfl
        · have := ih.2
          simp only [List.map_cons, PyData.depthAll, PyData.depth]
          omega
  have m1 := (ten_ok _ (five_ten _ h6)).1.2.1
  have k1 := (knds_ok k h4).1.2.1
  refine ⟨?_, ?_⟩
  · show (PyData.strOk md.1 && (PyData.strOk k && PyData.canLayAll0 (ods.map (·.2)))) = true
    rw [m1, k1, rest.1]
    rfl
  · have := rest.2
    simp only [PyData.depthAll, PyData.depth]
    omega
theorem dp_rs {xs : List V} {gs : List (Str × PyData)} (h : Paired (Good H) xs gs) : DpAll K H xs (gs.map (·.2)) := by
  induction h with
  | nil => exact .nil
  | cons r _ ih => exact .cons r.dp ih
theorem lay_rs {xs : List V} {gs : List (Str × PyData)} (h : Paired (Good H) xs gs) : PyData.canLayAll0 (gs.map (·.2)) = true ∧ PyData.depthAll (gs.map (·.2)) ≤ 5 := by
  induction h with
  | nil => exact ⟨rfl, by simp [PyData.depthAll]⟩
  | @cons x g l m r _ ih =>
    obtain ⟨l1, l2⟩ := r.lay
    refine ⟨?_, ?_⟩
    · show (PyData.canLay0 g.2 && PyData.canLayAll0 (m.map (·.2))) = true
      rw [l1, ih.1]
      rfl
    · have := ih.2
      simp only [List.map_cons, PyData.depthAll]
      omega
def dRs (gs : List (Str × PyData)) : PyData := .tuple (gs.map (·.2))
theorem sh_rs {xs : List V} {gs : List (Str × PyData)} (h : Paired (Good H) xs gs) : SeqAt.shaped (dRs gs) = true := by
  obtain ⟨l1, l2⟩ := lay_rs h
  show (PyData.canLayAll0 (gs.map (·.2)) && decide (PyData.depth (.tuple (gs.map (·.2))) ≤ 64)) = true
  rw [l1, decide_eq_true (by simp only [PyData.depth]; omega)]
  rfl
theorem eq_self {d : PyData} (h : SeqAt.shaped d = true) : PyData.eqv d d = true := by
  have h0 : (PyData.canLay0 d && decide (PyData.depth d ≤ 64)) = true := h
  simp only [Bool.and_eq_true] at h0
  exact SeqAt.eqv_refl_plain d (PyData.plain_of_canLay0 d h0.1)
theorem eq_len : ∀ (xs ys : List PyData), xs.length ≠ ys.length → PyData.eqvAll xs ys = false
  | [], [], h => absurd rfl h
  | [], _ :: _, _ => rfl
  | _ :: _, [], _ => rfl
  | x :: xs, y :: ys, h => by
    rw [PyData.eqvAll, eq_len xs ys (by simpa using h), Bool.and_false]
end
end Bl
namespace Bl
open PySem PySem.Spec PyProof.Rows L2 Bk Bm Evl Be Cr Bp TL
abbrev sRef : Stmt := top 78
/-! where a tuple of rules is wrong -/
theorem way_five : ∀ p ∈ five, ∀ q ∈ five, p ≠ q → way p q = false := by decide +kernel
theorem fb_good : ∀ (ps acc : List Str) (rest : List (Option Str)), (acc ++ ps).Nodup → (∀ z ∈ acc ++ ps, z ∈ five) → fb acc (ps.map some ++ rest) = fb (acc ++ ps) rest
  | [], acc, rest, _, _ => by simp
  | p :: r, acc, rest, nd, h5 => by
    have hn : acc.any (way p) = false := by
      rw [List.any_eq_false]
      intro q hq
      have hp5 := h5 p (List.mem_append_right _ List.mem_cons_self)
      have hq5 := h5 q (List.mem_append_left _ hq)
      have hne : p ≠ q := fun e => by
        subst e
        exact (List.nodup_append.mp nd).2.2 p hq p List.mem_cons_self rfl
      rw [way_five p hp5 q hq5 hne]
      decide
    show (if acc.any (way p) = true then some acc.length else fb (acc ++ [p]) (r.map some ++ rest)) = _
    rw [if_neg (by rw [hn]; decide)]
    have e : acc ++ p :: r = acc ++ [p] ++ r := by simp
    rw [e] at nd h5 ⊢
    exact fb_good r (acc ++ [p]) rest nd h5
section
variable {K : PySem.W.Frag} {H G : Hp} {r : Addr} {v : V}
theorem rs_five {xs : List V} {gs : List (Str × PyData)} (h : Paired (Good H) xs gs) : ∀ z ∈ gs.map (·.1), z ∈ five := by
  induction h with
  | nil => intro z hz; cases hz
  | cons r _ ih =>
    intro z hz
    rcases List.mem_cons.mp hz with rfl | hz
    · obtain ⟨a, k, ts, ods, _, _, _, _, _, _, h6, _⟩ := r
      exact h6
    · exact ih z hz
theorem itr_rs {xs : List V} {gs : List (Str × PyData)} (h : Paired (Good H) xs gs) : Paired (Itr K H) xs (gs.map fun g => some g.1) := by
  induction h with
  | nil => exact .nil
  | cons r _ ih => exact .cons r.itr ih
theorem heads_rs {xs : List V} {gs : List (Str × PyData)} (h : Paired (Good H) xs gs) : Heads H xs (gs.map (·.1)) := by
  induction h with
  | nil => exact .nil
  | cons r _ ih =>
    obtain ⟨a, k, ts, ods, h0, h1, _⟩ := r
    exact .cons ⟨a, _, h0, h1⟩ ih
theorem RsAt.mono {xs : List V} {gs : List (Str × PyData)} (e : Ex H G) (h : RsAt H xs gs) : RsAt G xs gs := ⟨pr_mono h.1 fun _ _ z => z.mono e, h.2⟩
theorem RsAt.dr {xs : List V} {gs : List (Str × PyData)} (h : RsAt H xs gs) (row : Row K H r) (d : Dr K r H G) : RsAt G xs gs := ⟨pr_mono h.1 fun _ _ z => z.dr row d, h.2⟩
/-- drawn rules are good ones -/
theorem rl_good {a : Addr} {xs : List V} {gs : List (Str × PyData)} (ha : H a = some (.tup xs)) (h : RsAt H xs gs) : Rl K H (.ref a) none := by
  obtain ⟨h1, h2, h3⟩ := h
  have hl := pr_len h1
  have t := Rl.tup (K := K) ha (by omega) (itr_rs h1)
  have e : (gs.map fun g => some g.1) = (gs.map (·.1)).map some ++ [] := by simp
  rw [e, fb_good (gs.map (·.1)) [] [] (by simpa using h2) (by simpa using rs_five h1)] at t
  exact t
/-- what breaks a tuple of rules behind those that make ps -/
def Bd (K : PySem.W.Frag) (ps : List Str) (H : Hp) (v : V) : Prop := Itr K H v none ∨ ∃ p, Itr K H v (some p) ∧ ps.any (way p) = true
theorem Bd.mono {ps : List Str} (e : Ex H G) (h : Bd K ps H v) : Bd K ps G v := by
  rcases h with h | ⟨p, h, z⟩
  · exact .inl (h.mono e)
  · exact .inr ⟨p, h.mono e, z⟩
theorem Bd.dr {ps : List Str} (h : Bd K ps H v) (row : Row K H r) (d : Dr K r H G) : Bd K ps G v := by
  rcases h with h | ⟨p, h, z⟩
  · exact .inl (Itr.dr h row d)
  · exact .inr ⟨p, Itr.dr h row d, z⟩
theorem Bd.kp {ps : List Str} {xs0 ys0 : List V} (h : Bd K ps H v) (hr : H r = some (.lst xs0)) (hx0 : xs0.length ≠ 1) (hr' : G r = some (.lst ys0)) (kp : Kp r H G) : Bd K ps G v := by
  rcases h with h | ⟨p, h, z⟩
  · exact .inl (Itr.kp h hr hx0 hr' kp)
  · exact .inr ⟨p, Itr.kp h hr hx0 hr' kp, z⟩
theorem rl_bad {a : Addr} {xs : List V} {gs : List (Str × PyData)} {i : Nat} (h : RsAt H xs gs) (hi : i ≤ gs.length) (hb : Bd K ((gs.map (·.1)).take i) H v) (ha : H a = some (.tup (xs.take i ++ [v] ++ xs.drop i))) : Rl K H (.ref a) (some (.int (i : Int))) := by
  obtain ⟨h1, h2, h3⟩ := h
  have hl := pr_len h1
  obtain ⟨o, ho, hx⟩ : ∃ o, Itr K H v o ∧ ∀ rest, fb ((gs.map (·.1)).take i) (o :: rest) = some i := by
    have hlen : ((gs.map (·.1)).take i).length = i := by rw [List.length_take, List.length_map]; omega
    rcases hb with hb | ⟨p, hb, z⟩
    · exact ⟨none, hb, fun rest => by show some _ = some i; rw [hlen]⟩
    · refine ⟨some p, hb, fun rest => ?_⟩
      show (if ((gs.map (·.1)).take i).any (way p) = true then some _ else _) = some i
      rw [if_pos z, hlen]
  have it := itr_rs (K := K) h1
  have t := Rl.tup (K := K) (os := (gs.map fun g => some g.1).take i ++ [o] ++ (gs.map fun g => some g.1).drop i) ha (by
    simp only [List.length_append, List.length_take, List.length_drop, List.length_singleton]
    omega) (pr_app (pr_app (pr_take it i) (.cons ho .nil)) (pr_drop it i))
  have e : (gs.map fun g => some g.1).take i = ((gs.map (·.1)).take i).map some := by rw [← List.map_take, ← List.map_take, List.map_map]; rfl
  have nd : ((gs.map (·.1)).take i).Nodup := h2.sublist (List.take_sublist _ _)
  have h5 : ∀ z ∈ (gs.map (·.1)).take i, z ∈ five := fun z hz => rs_five h1 z (List.mem_of_mem_take hz)
  have e2 : fb [] ((gs.map fun g => some g.1).take i ++ [o] ++ (gs.map fun g => some g.1).drop i) = some i := by
    rw [e, List.append_assoc, fb_good _ [] _ (by simpa using nd) (by simpa using h5)]
    exact hx _
  rw [e2] at t
  exact t
end
section
variable {X : Cx} {CX : CXT} {k : Nat} {f C : Addr} {fd : FuncData} {ps : List Str} {sp : Sp} {E : L2.St → XK} {x : Str} {p pos : Pos} {e : Expr} {es : List Expr} {t : TA}
/-- C(e, ..) within a try -/
def tMakeS (C : Addr) (sp : Sp) (E : L2.St → XK) (t : TA) : TE := fun τ G Q => t τ G fun vs G1 => ∀ y dy, G1 y = none → G1 dy = none → dy ≠ y → sp (.ref y :: vs) (upd (upd G1 dy (.own y)) y (.ins C dy [])) (fun v G2 => v = .non ∧ Q (.ref y) G2) (E τ)
theorem make_run {pins : List (Addr × Obj)} {τ : L2.St} {G : Hp} {s : Shared} {Q : VK} {us : List Value} {vs : List V} (mk : Mk X.K C f) (fo : FnOk X.prog X.w X.K X.mg X.base CX k f fd ps sp) (hr : Room (k + 1) X.A) (hb : Binds X.K fd ps [])
    (ha : PassesAt CX X τ (E τ)) (J : Inv X pins τ G s) (rv : Vals vs us)
    (h : ∀ y dy, G y = none → G dy = none → dy ≠ y → sp (.ref y :: vs) (upd (upd G dy (.own y)) y (.ins C dy [])) (fun v G2 => v = .non ∧ Q (.ref y) G2) (E τ)) : wpAny (model X.prog X.w) X.A (call (.ref C) us) (EP X pins τ Q) X.xe s := by
  have promised := h (s.heap.objs.size + 1) s.heap.objs.size (J.hok.fresh (Nat.le_succ _)) (J.hok.fresh (Nat.le_refl _)) (Nat.ne_of_lt (Nat.lt_succ_self _))
  have J2 := Inv.made (C := C) J
  have all : Vals (V.ref (s.heap.objs.size + 1) :: vs) (Value.ref (s.heap.objs.size + 1) :: us) := .cons rfl rv
  have count : (Value.ref (s.heap.objs.size + 1) :: us).length = ps.length := by
    have c1 := all.length
    rw [fo.len _ _ _ _ promised] at c1
    exact c1.symm
  have bound := hb _ (Value.ref (s.heap.objs.size + 1) :: us) J2.kIn (by rw [List.append_nil]; exact count)
  rw [List.append_nil] at bound
  refine wpAny_call (make_map (f := f) J.kIn mk.makes mk.init (beq_iff_eq.mp mk.fn) (codeAny_mono (fo.run _ X.stack _ _ ⟨Value.ref (s.heap.objs.size + 1) :: us, []⟩ (Value.ref (s.heap.objs.size + 1) :: us) _ _ (E τ) (hr.make C us []) (J2.env0.make C us []) bound all promised) fun out s' got => ?_))
  cases out with
  | error er => exact ha pins _ _ er s' J2 got
  | ok fl =>
    cases fl with
    | ret u =>
      obtain ⟨v, G3, J3, ru, rfl, q3⟩ := J2.after got
      exact ⟨ru, ⟨V.ref (s.heap.objs.size + 1), G3, J3, rfl, q3⟩⟩
    | next => exact got.elim
    | brk => exact got.elim
    | cont => exact got.elim
theorem pe_makeS (mk : Mk X.K C f) (fo : FnOk X.prog X.w X.K X.mg X.base CX k f fd ps sp) (hr : Room (k + 1) X.A) (hg : Gl X x) (hm : X.mg x = some (.ref C)) (hb : Binds X.K fd ps []) (ha : ∀ τ, PassesAt CX X τ (E τ)) (hs : PA X (e :: es) t)
    (hdb : (x == ("__debug__" : Str)) = false := by decide) (h1 : starEach (e :: es) X.env = (false, eval e X.env) :: starEach es X.env := by rfl) (h2 : (backTo pos (starEach es X.env)).any (·.1) = false := by rfl) :
    PE X (.Call (.Name x p) (e :: es) [] pos) (tMakeS C sp E t) := by
  refine ⟨fun pins s τ G Q J h => wpAny_Call_Name_kw (ld_glob J hg hm (PySem.W.callWith_K (h₀ := X.base) J.ok.mod.kin mk.kp (thn (hs.run pos pins s τ G _ J h) fun us s1 got => ?_) h1 h2) hdb)⟩
  obtain ⟨vs, G1, J1, rv, q⟩ := got
  exact ⟨J1.kIn, make_run mk fo hr hb (ha τ) J1 rv q⟩
end
section
variable {P : Program} {w : World} {K : PySem.W.Frag} {mg : Str → Option Value} {base : Heap} {C fI pR fG fL fE : Addr}
end
end Bl
namespace Bt
open PySem PySem.Spec PyProof.Rows L2 Bk Bm Evl Be Cr Bp Bl TL
abbrev sIsFile : Stmt := top 20
abbrev sFollow : Stmt := top 21
section
variable {H H' : Hp} {K : PySem.W.Frag} {v : V}
end
/-- what is_file says of a thing -/
inductive Fil (K : PySem.W.Frag) (H : Hp) : V → Bool → Prop
  | no {v : V} {n : String} (k : Kd K H v n) (h : n ≠ "tuple") : Fil K H v false
  | len {a : Addr} {xs : List V} (h : H a = some (.tup xs)) (hl : xs.length ≠ 2) (hz : xs.length ≤ 1000) : Fil K H (.ref a) false
  | two {a : Addr} {u w : V} (h : H a = some (.tup [u, w])) (hu : Sm H u) (hw : Sm H w) : Fil K H (.ref a) (isPathV u && isTextV w)
theorem Fil.mono {K : PySem.W.Frag} {H H' : Hp} {v : V} {b : Bool} (e : Ex H H') (h : Fil K H v b) : Fil K H' v b := by
  cases h with
  | no k h => exact .no (k.mono e) h
  | len h hl hz => exact .len (e _ _ h) hl hz
  | two h hu hw => exact .two (e _ _ h) (hu.mono e) (hw.mono e)
section
variable {P : Program} {w : World} {K : PySem.W.Frag} {mg : Str → Option Value} {base : Heap}
/-! ### is_folder -/
/-! ### is_file -/
theorem scFile : FnScope ["value"] ["value"] (defScope sIsFile) := ⟨rfl, rfl, rfl, by decide +kernel, rfl, by decide +kernel, by decide +kernel⟩
def spFile : Sp := fun vs H Q _ => ∃ v b, vs = [v] ∧ Fil K H v b ∧ RetV (.bl b) H Q
theorem kd_tupX {H : Hp} {a : Addr} {n : String} {xs : List V} (h : H a = some (.tup xs)) (k : Kd K H (.ref a) n) (hk : n ≠ "tuple") : K.lookup a ≠ none := by
  obtain ⟨t, _⟩ := k
  intro hn
  cases t with
  | base t =>
    cases t with
    | lst e => rw [h] at e; cases e
    | frz e => rw [h] at e; cases e
    | tup e => exact hk rfl
    | dK e => rw [h] at e; cases e
    | dT e => rw [h] at e; cases e
  | set e => rw [h] at e; cases e
  | kList e c => rw [hn] at e; cases e
  | kTuple e c => exact hk rfl
  | kDict e c => rw [hn] at e; cases e
  | fTuple e => exact hk rfl
  | fDict e => rw [h] at e; cases e
theorem ok_file {f : Addr} {fd : FuncData} (F : Fun K "is_file" "is_file" sIsFile f fd) (T : Gv mg) (cP : Cal P w K mg base CX0 2 "is_path" ["value"] (spPath (K := K))) (cT : Cal P w K mg base CX0 2 "is_text" ["value"] (spText (K := K))) :
    FnOk P w K mg base CX0 3 f fd ["value"] (spFile (K := K)) := by
  refine F.ok scFile (fun vs H Q E h => ?_) (fun cdv A outer s H vs Q E hr h => ?_)
  · obtain ⟨x, b, rfl, _⟩ := h
    rfl
  · obtain ⟨v, b, rfl, fi, k⟩ := h
    refine ⟨_, pss_one (ps_ret (pe_and (pe_callB call_isi (by rfl) T.isi boot_isinstance (pa_cons (pv 0) (pa_cons (pe_bltn (v := .ty "tuple") (by rfl) T.tup (by decide +kernel) rfl) pa_nil)))
      (pe_and (pe_cmpR op_eq (pe_callB call_len_seq (by rfl) T.len PySem.boot_len (pa_cons (pv 0) pa_nil)) pe_int (nomark _))
      (pe_and (pe_call cP.F hr (by rfl) cP.g cP.kp cP.b .nil pass0 (pa_cons (pe_ix ix_tup (pv 0) pe_int (fun _ _ => rfl)) pa_nil))
      (pe_one (pe_call cT.F (hr.mono (by decide)) (by rfl) cT.g cT.kp cT.b .nil pass0 (pa_cons (pe_ix ix_tup (pv 0) pe_int (fun _ _ => rfl)) pa_nil))))))), ?_⟩
    refine s_ret (v := .bl b) ?_ k
    cases fi with
    | no kd hn =>
      have e : decide (_ = "tuple") = false := decide_eq_false hn
      exact ev_is (ev_and (b := false) (ev_isi (ev_var rfl) ev_c kd (.inr rfl)) (fun h => by rw [e] at h; cases h)) (by rw [e]; rfl)
    | @len a xs h hl hz =>
      refine ev_is (ev_and (a := true) (b := false) (ev_is (ev_isi (ev_var rfl) ev_c (kd_tup h) (.inr rfl)) rfl) fun _ => ?_) rfl
      have e : decide (V.int (xs.length : Int) = V.int 2) = false := decide_eq_false (fun z => by injection z with z; omega)
      exact ev_is (ev_and (b := false) (ev_is (ev_op (ev_lenT (ev_var rfl) (st_of h)) ev_c (rv_eq rfl)) (by rw [e])) (fun h => by cases h)) rfl
    | @two a u wv h hu hw =>
      refine ev_is (ev_and (a := true) (b := isPathV u && isTextV wv) (ev_is (ev_isi (ev_var rfl) ev_c (kd_tup h) (.inr rfl)) rfl) fun _ => ?_) (by simp)
      refine ev_is (ev_and (a := true) (b := isPathV u && isTextV wv) (ev_is (ev_op (ev_lenT (ev_var rfl) (st_of h)) ev_c (rv_eq rfl)) rfl) fun _ => ?_) (by simp)
      refine ev_and (ev_call (ea_cons (ev_op (ev_var rfl) ev_c (rv_ixT (st_of h) rfl)) ea_nil) (spv_path hu)) fun _ => ?_
      exact ev_call (ea_cons (ev_op (ev_var rfl) ev_c (rv_ixT (st_of h) rfl)) ea_nil) (spv_text hw)
end
end Bt
namespace Bt
open PySem PySem.Spec PyProof.Rows L2 Bk Bm Evl Be Cr Bp Bl TL
abbrev Fl := Str × Str
/-- a pair (path, text) stands at v -/
def FileAt (H : Hp) (v : V) (f : Fl) : Prop := ∃ b, v = .ref b ∧ H b = some (.tup [.str f.1, .str f.2])
theorem FileAt.mono {H H' : Hp} {v : V} {f : Fl} (e : Ex H H') (h : FileAt H v f) : FileAt H' v f := by
  obtain ⟨b, hv, hb⟩ := h
  exact ⟨b, hv, e _ _ hb⟩
def okF (f : Fl) : Prop := f.1.length ≤ 1000 ∧ f.2.length ≤ 1000 ∧ PyData.strOk f.1 = true ∧ PyData.strOk f.2 = true
theorem paired_mono {α β : Type} {F G : α → β → Prop} {l : List α} {m : List β} (h : Paired F l m) (f : ∀ a b, F a b → G a b) : Paired G l m := by
  induction h with
  | nil => exact .nil
  | cons r _ ih => exact .cons (f _ _ r) ih
theorem paired_mem {α β : Type} {F : α → β → Prop} {l : List α} {m : List β} (h : Paired F l m) {x : α} (hx : x ∈ l) : ∃ y ∈ m, F x y := by
  induction h with
  | nil => cases hx
  | cons r _ ih =>
    rcases List.mem_cons.mp hx with rfl | hx
    · exact ⟨_, List.mem_cons_self, r⟩
    · obtain ⟨y, hy, q⟩ := ih hx
      exact ⟨y, List.mem_cons_of_mem _ hy, q⟩
theorem paired_take {α β : Type} {F : α → β → Prop} {l : List α} {m : List β} (h : Paired F l m) : ∀ n, Paired F (l.take n) (m.take n) := by
  induction h with
  | nil => intro n; simp; exact .nil
  | cons r _ ih =>
    intro n
    cases n with
    | zero => exact .nil
    | succ n => exact .cons r (ih n)
theorem paired_len {α β : Type} {F : α → β → Prop} {l : List α} {m : List β} (h : Paired F l m) : l.length = m.length := by
  induction h with
  | nil => rfl
  | cons r _ ih => simp [ih]
theorem paired_get {α β : Type} {F : α → β → Prop} {l : List α} {m : List β} (h : Paired F l m) : ∀ {i : Nat} {x : α}, l[i]? = some x → ∃ y, m[i]? = some y ∧ F x y := by
  induction h with
  | nil => intro i x e; simp at e
  | cons r _ ih =>
    intro i x e
    cases i with
    | zero =>
      have e' := Option.some.inj e
      subst e'
      exact ⟨_, rfl, r⟩
    | succ i => exact ih (i := i) e
theorem paired_append {α β : Type} {F : α → β → Prop} {l l' : List α} {m m' : List β} (h : Paired F l m) (h' : Paired F l' m') : Paired F (l ++ l') (m ++ m') := by
  induction h with
  | nil => exact h'
  | cons r _ ih => exact .cons r ih
def dF (f : Fl) : PyData := .tuple [.str f.1, .str f.2]
theorem dp_files {K : PySem.W.Frag} {H : Hp} {xs : List V} {fs : List Fl} (h : Paired (FileAt H) xs fs) : DpAll K H xs (fs.map dF) := by
  induction h with
  | nil => exact .nil
  | cons r _ ih =>
    obtain ⟨b, rfl, hb⟩ := r
    exact .cons (.tup (SqT.of hb) (.cons (.str _) (.cons (.str _) .nil))) ih
theorem can_files : ∀ {fs : List Fl}, (∀ f ∈ fs, okF f) → PyData.canLayAll0 (fs.map dF) = true
  | [], _ => rfl
  | f :: r, h => by
    have h1 := h f List.mem_cons_self
    have ih := can_files (fs := r) fun g hg => h g (List.mem_cons_of_mem _ hg)
    show (PyData.canLay0 (dF f) && PyData.canLayAll0 (r.map dF)) = true
    rw [ih, Bool.and_true]
    show ((PyData.strOk f.1) && ((PyData.strOk f.2) && true)) = true
    rw [h1.2.2.1, h1.2.2.2]
    rfl
theorem depth_files : ∀ {fs : List Fl}, PyData.depthAll (fs.map dF) ≤ 3
  | [] => by simp [PyData.depthAll]
  | f :: r => by
    have ih := depth_files (fs := r)
    simp only [List.map_cons, PyData.depthAll, dF, PyData.depth] at ih ⊢
    omega
theorem shaped_files {fs : List Fl} (h : ∀ f ∈ fs, okF f) : SeqAt.shaped (.tuple (fs.map dF)) = true := by
  have h1 := can_files h
  have h2 := depth_files (fs := fs)
  have h3 : PyData.depth (.tuple (fs.map dF)) ≤ 64 := by
    simp only [PyData.depth]
    omega
  show (PyData.canLayAll0 (fs.map dF) && decide (PyData.depth (.tuple (fs.map dF)) ≤ 64)) = true
  rw [h1, decide_eq_true h3]
  rfl
/-- may the path stand behind these files -/
def follow (p : Str) (fs : List Fl) : Bool := match fs.getLast? with
  | none => true
  | some l => decide (l.1.cps.toList < p.cps.toList) && !(fs.any fun f => within p f.1)
section
variable {P : Program} {w : World} {K : PySem.W.Frag} {mg : Str → Option Value} {base : Heap}
theorem scFollow : FnScope ["path", "files", "file"] ["path", "files"] (defScope sFollow) := ⟨rfl, rfl, rfl, by decide +kernel, rfl, by decide +kernel, by decide +kernel⟩
def spFollow : Sp := fun vs H Q _ => ∃ p a xs fs, vs = [.str p, .ref a] ∧ SqT K H a xs ∧ Paired (FileAt H) xs fs ∧ (∀ f ∈ fs, okF f) ∧ p.length ≤ 1000 ∧ fs.length ≤ 1000 ∧ RetV (.bl (follow p fs)) H Q
theorem ok_follow {f : Addr} {fd : FuncData} (F : Fun K "may_follow" "may_follow" sFollow f fd) (T : Gv mg) (cL : Cal P w K mg base CX0 1 "lies_within" ["path", "folder"] spLies) :
    FnOk P w K mg base CX0 2 f fd ["path", "files"] (spFollow (K := K)) := by
  refine F.ok scFollow (fun vs H Q E h => ?_) (fun cdv A outer s H vs Q E hr h => ?_)
  · obtain ⟨p, a, xs, fs, rfl, _⟩ := h
    rfl
  · obtain ⟨p, a, xs, fs, rfl, hx, hp, hok, hl, hn, k⟩ := h
    have hu : (A.deeper (envOfC "may_follow" (defScope sFollow) s.heap.objs.size f cdv)).units + 64 < cLine := by have := hr.un; omega
    refine ⟨_, pss_cons (ps_if (pt_cmpR (op_eqD hu) (pv 1) (pe_tup pa_nil) (nomark _)) (pss_one (ps_ret pe_bl)) pss_nil)
      (pss_one (ps_ret (pe_and (pe_cmpR op_gt_str (pv 0) (pe_ix ix_tup (pe_ix ix_tup (pv 1) (pe_un un_neg pe_int) (fun _ _ => rfl)) pe_int (fun _ _ => rfl)) (nomark _))
        (pe_one (pe_not (pe_callB (cr_any rfl) (by rfl) T.any boot_any (pa_cons (pe_lc (own := [("file", 2)]) (g := gName 2) (tt := tYes) rfl scFollow.nd (pi_tup (pv 1)) (blkOk_by (N := ["path", "files", "file"]) (sc := defScope sFollow) (by decide +kernel))
          (fun _ _ _ _ _ => pg_name (i := 2) scFollow.nd rfl (Or.inl rfl)) (fun _ _ _ _ _ => pts_nil)
          (fun _ _ _ _ _ => pe_call cL.F hr rfl cL.g cL.kp cL.b .nil pass0 (pa_cons (pv 0) (pa_cons (pe_ix (r := rIxT K) ix_tup (pv 2) pe_int (fun _ _ => rfl)) pa_nil)))) pa_nil))))))), ?_⟩
    have test : EvT (tTest (tOp (rEqD K) (tVar 1) (tTup tNil))) (L2.start ["path", "files", "file"] [.str p, .ref a]) H (PyData.eqv (.tuple (fs.map dF)) (.tuple [])) :=
      et_test (ev_opU (ev_var rfl) (eu_tup ea_nil (by decide)) fun q H1 hq e1 H2 e2 Q' q' => ⟨.tuple (fs.map dF), .tuple [], .tup (ex_t (e1.trans e2) hx) (dp_files (paired_mono hp fun _ _ r => r.mono (e1.trans e2))), .tup (st_of (e2 _ _ hq)) .nil, shaped_files hok, by decide +kernel, q' H2 (Ex.refl _)⟩)
    refine q_when test (fun hb H1 e1 => ?_) (fun hb H1 e1 => ?_)
    · have hf : fs = [] := by
        cases fs with
        | nil => rfl
        | cons g r => simp [PyData.eqv, PyData.eqvAll] at hb
      subst hf
      exact s_ret (v := .bl true) ev_c fun H2 e2 => k H2 (e1.trans e2)
    · have hne : fs ≠ [] := fun z => by
        subst z
        simp [PyData.eqv, PyData.eqvAll] at hb
      obtain ⟨gs, g, rfl⟩ : ∃ gs g, fs = gs ++ [g] := ⟨fs.dropLast, fs.getLast hne, (List.dropLast_concat_getLast hne).symm⟩
      have hfol : follow p (gs ++ [g]) = (decide (g.1.cps.toList < p.cps.toList) && !((gs ++ [g]).any fun f => within p f.1)) := by
        unfold follow
        rw [List.getLast?_append]
        rfl
      have hlen := paired_len hp
      have hxg : xs[xs.length - 1]? = some (xs.getD (xs.length - 1) .non) := by
        rw [List.getD_eq_getElem?_getD]
        have : xs.length - 1 < xs.length := by rw [hlen]; simp
        rw [List.getElem?_eq_getElem this]
        rfl
      obtain ⟨y, hy, b, hb1, hb2⟩ := paired_get hp hxg
      have ey : y = g := by
        rw [hlen, List.length_append] at hy
        simp at hy
        exact hy.symm
      subst ey
      have hat : atI xs (-1) = some (.ref b) := by
        unfold atI ixN
        have h0 : 0 < xs.length := by rw [hlen]; simp
        rw [if_neg (by decide), if_pos (by omega)]
        have e1 : ((-1 : Int) + (xs.length : Int)).toNat = xs.length - 1 := by omega
        show xs[((-1 : Int) + (xs.length : Int)).toNat]? = _
        rw [e1, hxg, hb1]
      refine s_ret (v := .bl (follow p (gs ++ [y]))) ?_ fun H2 e2 => k H2 (e1.trans e2)
      rw [hfol]
      refine ev_and (ev_op (ev_var rfl) (ev_op (ev_op (ev_var rfl) (ev_un ev_c ru_neg) (rv_ixT (ex_t e1 hx) hat)) ev_c (rv_ixT (st_of (e1 _ _ hb2)) rfl)) rv_gtS) fun _ => ?_
      refine ev_notV (ev_is (ev_any (bs := (gs ++ [y]).map fun f => within p f.1) (fun H2 e2 Q2 q2 => ?_)) ?_)
      · have big := el_lcT (K := K) (σ := L2.start ["path", "files", "file"] [.str p, .ref a]) (H := H1) (j := 2) (te := tCall spLies [] E0 (tCons (tVar 0) (tCons (tOp (rIxT K) (tVar 2) (tC (.int 0))) tNil)))
          (fun v => match v with | .ref c => (match H c with | some (.tup (.str z :: _)) => .bl (within p z) | _ => .non) | _ => .non) (ev_var (i := 1) (v := .ref a) rfl) (ex_t e1 hx) (by rw [hlen]; omega) (fun x H3 e3 hx3 => ?_)
        · refine ev_isL big ?_ H2 e2 Q2 q2
          have hmap : ∀ {xs : List V} {fs : List Fl}, Paired (FileAt H) xs fs → xs.map (fun v => match v with | .ref c => (match H c with | some (.tup (.str z :: _)) => V.bl (within p z) | _ => .non) | _ => .non) = (fs.map fun f => within p f.1).map V.bl := by
            intro xs fs h
            induction h with
            | nil => rfl
            | cons r _ ih =>
              obtain ⟨c, rfl, hc⟩ := r
              simp only [List.map_cons, ih, hc]
          exact hmap hp
        · obtain ⟨f, hf, c, rfl, hc⟩ := paired_mem hp hx3
          have hcc := e3 _ _ (e1 _ _ hc)
          simp only [hc]
          exact ev_call (ea_cons (ev_var rfl) (ea_cons (ev_op (ev_var rfl) ev_c (rv_ixT (st_of hcc) rfl)) ea_nil)) fun H5 e5 Q' q' E' => ⟨p, f.1, rfl, Nat.le_trans (hok f hf).1 (by decide), q'⟩
      · simp
end
end Bt
namespace Bt
open PySem PySem.Spec PyProof.Rows L2 Bk Bm Evl Be Cr Bp Bl TL
section
variable {X : Cx} {C : Addr} {x : Str} {p pos : Pos}
end
section
variable {P : Program} {w : World} {K : PySem.W.Frag} {mg : Str → Option Value} {base : Heap}
/-! ### BadTree: its __init__ -/
abbrev sBtI : Stmt := inClass (top 3) 0
theorem scBtI : FnScope ["self", "index"] ["self", "index"] (defScope sBtI) := ⟨rfl, rfl, rfl, by decide +kernel, rfl, by decide +kernel, by decide +kernel⟩
theorem ok_btI {f C : Addr} {fd : FuncData} {q : Str} (F : Fun K "__init__" q sBtI f fd) : FnOk P w K mg base CX0 1 f fd ["self", "index"] (spXi K C) := by
  refine F.ok scBtI (fun vs H Q E h => ?_) (fun cdv A outer s H vs Q E hr h => ?_)
  · obtain ⟨x, v, rfl, _⟩ := h
    rfl
  · obtain ⟨a, v, rfl, ha, o, n, k⟩ := h
    refine ⟨_, pss_one (ps_ost (pv 0) (pv 1)), ?_⟩
    exact ⟨_, rfl, _, rfl, a, C, rfl, o, n, .inl ⟨ha, fun dx hd hne => k dx hd hne⟩⟩
end
end Bt
namespace Bt
open PySem PySem.Spec PyProof.Rows L2 Bk Bm Evl Be Cr Bp Bl TL
abbrev sCkTree : Stmt := top 22
/-- what an item of a tuple is: a file, or none -/
def Itm (K : PySem.W.Frag) (H : Hp) (v : V) : Option Fl → Prop
  | some f => FileAt H v f ∧ okF f ∧ (pathB f.1 && textB f.2) = true
  | none => Fil K H v false
theorem Itm.mono {K : PySem.W.Frag} {H H' : Hp} {v : V} {o : Option Fl} (e : Ex H H') (h : Itm K H v o) : Itm K H' v o := by
  cases o with
  | some f => exact ⟨h.1.mono e, h.2⟩
  | none => exact Fil.mono e h
theorem Itm.fil {K : PySem.W.Frag} {H : Hp} {v : V} {o : Option Fl} (h : Itm K H v o) : Fil K H v o.isSome := by
  cases o with
  | some f =>
    obtain ⟨⟨b, rfl, hb⟩, hk, hp⟩ := h
    have r := Fil.two (K := K) hb (Sm.str f.1 hk.1) (Sm.str f.2 hk.2.1)
    have e : (isPathV (.str f.1) && isTextV (.str f.2)) = true := hp
    rw [e] at r
    exact r
  | none => exact h
/-- the first place that is wrong -/
def fb : List Fl → List (Option Fl) → Option Nat
  | _, [] => none
  | acc, none :: _ => some acc.length
  | acc, some f :: r => if follow f.1 acc = true then fb (acc ++ [f]) r else some acc.length
section
variable {P : Program} {w : World} {K : PySem.W.Frag} {mg : Str → Option Value} {base : Heap}
theorem scCkTree : FnScope ["value", "index", "thing"] ["value"] (defScope sCkTree) := ⟨rfl, rfl, rfl, by decide +kernel, rfl, by decide +kernel, by decide +kernel⟩
/-- a tuple, fresh or known to be plain -/
def IsTU (o : HO) (xs : List V) : Prop := o = .tup xs ∨ ∃ b, o = .frz b (.tup xs)
theorem IsTU.st {K : PySem.W.Frag} {H : Hp} {a : Addr} {o : HO} {xs : List V} (h : IsTU o xs) (ha : H a = some o) : SqT K H a xs := by
  rcases h with rfl | ⟨b, rfl⟩
  · exact .inl (.inl ha)
  · exact .inl (.inr ⟨b, ha⟩)
theorem IsTU.kd {K : PySem.W.Frag} {H : Hp} {a : Addr} {o : HO} {xs : List V} (h : IsTU o xs) (ha : H a = some o) : Kd K H (.ref a) "tuple" := by
  rcases h with rfl | ⟨b, rfl⟩
  · exact kd_tup ha
  · exact ⟨.fTuple ha, by decide⟩
theorem IsTU.nl {o : HO} {xs : List V} (h : IsTU o xs) (ys : List V) : o ≠ .lst ys := by
  rcases h with rfl | ⟨b, rfl⟩ <;> (intro z; cases z)
/-- what is handed to check_tree: no tuple (of few things), or a tuple of items -/
inductive Tr (K : PySem.W.Frag) (H : Hp) : V → Option V → Prop
  | no {v : V} {n : String} (k : Kd K H v n) (h : n ≠ "tuple") : Tr K H v (some .non)
  | big {a : Addr} {xs : List V} (h : H a = some (.tup xs)) (hl : 20 < xs.length) : Tr K H (.ref a) (some .non)
  | tup {a : Addr} {o : HO} {xs : List V} {os : List (Option Fl)} (h : H a = some o) (hc : IsTU o xs) (hl : xs.length ≤ 20) (hp : Paired (Itm K H) xs os) : Tr K H (.ref a) ((fb [] os).map fun i => V.int ((i : Nat) : Int))
theorem Tr.mono {H H' : Hp} {v : V} {o : Option V} (e : Ex H H') (h : Tr K H v o) : Tr K H' v o := by
  cases h with
  | no k h => exact .no (k.mono e) h
  | big h hl => exact .big (e _ _ h) hl
  | tup h hc hl hp => exact .tup (e _ _ h) hc hl (paired_mono hp fun _ _ r => r.mono e)
def spCkTree (C : Addr) : Sp := fun vs H Q E => ∃ v o, vs = [v] ∧ Tr K H v o ∧ (o = none → RetV .non H Q) ∧ (∀ u, o = some u → RaiseI C u H E)
theorem ok_ckTree {f C fI : Addr} {fd fdI : FuncData} (F : Fun K "check_tree" "check_tree" sCkTree f fd) (T : Gv mg) (c : Xi K mg "BadTree" C fI) (FI : FnOk P w K mg base CX0 1 fI fdI ["self", "index"] (spXi K C)) (bI : Binds K fdI ["self", "index"] [])
    (cF : Cal P w K mg base CX0 3 "is_file" ["value"] (spFile (K := K))) (cM : Cal P w K mg base CX0 2 "may_follow" ["path", "files"] (spFollow (K := K))) : FnOk P w K mg base (L2.CX P w) 4 f fd ["value"] (spCkTree (K := K) C) := by
  refine F.okX scCkTree (fun vs H Q E h => ?_) (fun cdv A outer s H vs Q E hr h => ?_)
  · obtain ⟨x, o, rfl, _⟩ := h
    rfl
  · obtain ⟨v, o, rfl, tr, k1, k2⟩ := h
    obtain ⟨t1, m1⟩ := T.mf
    refine ⟨_, pss_cons (ps_if (pw_or (pt_not (pt_val (pe_callB call_isi (by rfl) T.isi boot_isinstance (pa_cons (pv 0) (pa_cons (pe_bltn (v := .ty "tuple") (by rfl) T.tup (by decide +kernel) rfl) pa_nil)))))
        (pw_or1 (pt_cmpR op_gt (pe_callB call_len_seq (by rfl) T.len PySem.boot_len (pa_cons (pv 0) pa_nil)) (pe_glob (v := .int 20) (by rfl) m1 ⟨_, rfl⟩) (nomark _)))).pt
        (pss_one (ps_raise rfl (takes_of rfl rfl rfl rfl) (pmk_xi c FI bI hr (by decide) (by rfl) pe_non))) pss_nil)
      (pss_one (ps_for (passes_of rfl) rfl (pi_enumT (by rfl) T.enu (pa_cons (pv 0) pa_nil)) (pg_tup rfl (pgs_cons (pg_name (i := 1) scCkTree.nd rfl (Or.inl rfl)) (pgs_cons (pg_name (i := 2) scCkTree.nd rfl (Or.inl rfl)) pgs_nil)))
        (pss_one (ps_if (pw_or (pt_not (pt_val (pe_call cF.F hr (by rfl) cF.g cF.kp cF.b .nil pass0 (pa_cons (pv 2) pa_nil))))
          (pw_or1 (pt_not (pt_val (pe_call cM.F (hr.mono (by decide)) (by rfl) cM.g cM.kp cM.b .nil pass0 (pa_cons (pe_ix ix_tup (pv 2) pe_int (fun _ _ => rfl)) (pa_cons (pe_slice sl_tupA (pv 0) po_none (po_some (pv 1))) pa_nil))))))).pt
          (pss_one (ps_raise rfl (takes_of rfl rfl rfl rfl) (pmk_xi c FI bI hr (by decide) (by rfl) (pv 1)))) pss_nil)))), ?_⟩
    cases tr with
    | no kd hn =>
      refine q_when (b := true) (et_is (et_or (b := true) (et_not (et_B (ev_isi (ev_var rfl) ev_c kd (.inr rfl)))) fun hb => ?_) ?_) (fun _ H1 e1 => ?_) (fun hb => by cases hb)
      · simp [hn] at hb
      · simp [hn]
      · exact xi_make c ev_c (RaiseI.go (k2 _ rfl) e1)
    | @big a xs h hl =>
      refine q_when (b := true) (et_is (et_or (b := true) (et_not (et_B (ev_isi (ev_var rfl) ev_c (kd_tup h) (.inr rfl)))) fun hb => ?_) (by simp)) (fun _ H1 e1 => ?_) (fun hb => by cases hb)
      · exact et_is (et_test (ev_op (ev_lenT (ev_var rfl) (st_of h)) ev_c rv_I0)) (by simp; omega)
      · exact xi_make c ev_c (RaiseI.go (k2 _ rfl) e1)
    | @tup a ho xs os h hc hl hp =>
      refine q_when (b := false) (et_is (et_or (b := false) (et_not (et_B (ev_isi (ev_var rfl) ev_c (hc.kd h) (.inr rfl)))) fun hb => ?_) (by simp)) (fun hb => by cases hb) (fun _ H1 e1 => ?_)
      · exact et_is (et_test (ev_op (ev_lenT (ev_var rfl) (hc.st h)) ev_c rv_I0)) (by simp; omega)
      · refine ⟨_, rfl, a, xs, rfl, hc.st (e1 _ _ h), for_enumT (K := K) (a := a) (xs := xs) (fun i τ G => ∃ (u v : Option V) (fs : List Fl), τ = [some (.ref a), u, v] ∧ Ex H G ∧ fs.length = i ∧ os.take i = fs.map some ∧ fb [] os = fb fs (os.drop i))
          ⟨none, none, [], rfl, e1, rfl, rfl, rfl⟩ (fun i τ G _ q => by obtain ⟨_, _, _, _, q, _⟩ := q; exact hc.st (q _ _ h)) ?_ ?_⟩
        · rintro i x τ G T0 hi ⟨u, v, fs, rfl, eG, hfl, htk, hfb⟩ hT
          obtain ⟨o, ho, it⟩ := paired_get hp hi
          have hdr : os.drop i = o :: os.drop (i + 1) := by
            obtain ⟨hh, e⟩ := List.getElem?_eq_some_iff.mp ho
            rw [List.drop_eq_getElem_cons hh, e]
          rw [hdr] at hfb
          have e2 : Ex H (upd G T0 (.tup [.int (i : Nat), x])) := eG.trans (Ex.new hT)
          have hix : i ≤ xs.length := Nat.le_of_lt (List.getElem?_eq_some_iff.mp hi).1
          have hpf : Paired (FileAt H) (xs.take i) fs := by
            have h1 := paired_take hp i
            rw [htk] at h1
            have gen : ∀ {ys : List V} {gs : List Fl}, Paired (Itm K H) ys (gs.map some) → Paired (FileAt H) ys gs ∧ ∀ g ∈ gs, okF g := by
              intro ys gs
              induction gs generalizing ys with
              | nil => intro h; cases h; exact ⟨.nil, fun _ z => by cases z⟩
              | cons g r ih =>
                intro h
                cases h with
                | cons r1 r2 =>
                  obtain ⟨p1, p2⟩ := ih r2
                  exact ⟨.cons r1.1 p1, fun z hz => by
                    rcases List.mem_cons.mp hz with rfl | hz
                    · exact r1.2.1
                    · exact p2 z hz⟩
            exact (gen h1).1
          have hokf : ∀ g ∈ fs, okF g := by
            intro g hg
            have h1 : some g ∈ os.take i := by rw [htk]; exact List.mem_map.mpr ⟨g, hg, rfl⟩
            have h2 : some g ∈ os := List.mem_of_mem_take h1
            have gen : ∀ {ys : List V} {zs : List (Option Fl)}, Paired (Itm K H) ys zs → ∀ g, some g ∈ zs → okF g := by
              intro ys zs h
              induction h with
              | nil => intro g z; cases z
              | cons r _ ih =>
                intro g z
                rcases List.mem_cons.mp z with z | z
                · subst z; exact r.2.1
                · exact ih g z
            exact gen hp g h2
          have hfn : fs.length ≤ 1000 := by omega
          refine ⟨T0, _, rfl, SqT.of upd_same, rfl, _, _, rfl, _, _, rfl, rfl, ?_⟩
          show tIfS _ _ tNext _ ([some (.ref a), some (.int (i : Int)), some x] : L2.St) _
          have call1 : EvT (tNot (tB (tCall (spFile (K := K)) [] E0 (tCons (tVar 2) tNil)))) ([some (.ref a), some (.int (i : Int)), some x] : L2.St) (upd G T0 (.tup [.int (i : Nat), x])) (!(o.isSome)) :=
            et_not (et_B (ev_call (ea_cons (ev_var rfl) ea_nil) fun H3 e3 Q' q' E' => ⟨x, _, rfl, (it.mono (e2.trans e3)).fil, q'⟩))
          refine s_when (b := !(o.isSome) || !(match o with | some f => follow f.1 fs | none => true)) (et_or call1 fun hb => ?_) (fun hb H3 e3 => ?_) (fun hb H3 e3 => ?_)
          · cases o with
            | none => simp at hb
            | some f =>
              obtain ⟨⟨b, rfl, hbb⟩, hok, hpt⟩ := it
              intro H3 e3 Q' q'
              refine ev_op (z := .str f.1) (ev_var (i := 2) rfl) ev_c (rv_ixT (st_of ((e2.trans e3) _ _ hbb)) rfl) H3 (Ex.refl _) _ fun H4 e4 => ?_
              refine slice_to (i := i) (ev_var (i := 0) rfl) (ev_var (i := 1) rfl) (hc.st (((e2.trans e3).trans e4) _ _ h)) hix H4 (Ex.refl _) _ fun p H5 e5 hp5 => ?_
              exact ⟨f.1, p, xs.take i, fs, rfl, hp5, paired_mono hpf fun _ _ r => r.mono (((e2.trans e3).trans e4).trans e5), hokf, hok.1, hfn, fun H6 e6 => ⟨_, rfl, q' H6 ((e4.trans e5).trans e6)⟩⟩
          · have hbad : fb [] os = some i := by
              rw [hfb]
              cases o with
              | none => show some fs.length = some i; rw [hfl]
              | some f =>
                have hn : follow f.1 fs = false := by simpa using hb
                show (if follow f.1 fs = true then _ else some fs.length) = some i
                rw [hn, if_neg (by decide), hfl]
            exact xi_make c (ev_var rfl) (RaiseI.go (k2 _ (by rw [hbad]; rfl)) (e2.trans e3))
          · cases o with
            | none => simp at hb
            | some f =>
              have hn : follow f.1 fs = true := by simpa using hb
              refine ⟨_, _, fs ++ [f], rfl, e2.trans e3, by simp [hfl], ?_, ?_⟩
              · rw [List.take_succ, htk, ho]
                simp
              · rw [hfb]
                show (if follow f.1 fs = true then _ else some fs.length) = _
                rw [if_pos hn]
        · rintro τ G ⟨u, v, fs, rfl, eG, hfl, htk, hfb⟩
          have hlen := paired_len hp
          have hn : fb [] os = none := by
            rw [hfb, hlen, List.drop_length]
            rfl
          exact k1 (by rw [hn]; rfl) G eG
end
end Bt
namespace Bt
open PySem PySem.Spec PyProof.Rows L2 Bk Bm Evl Be Cr Bp Bl TL
abbrev sWords : Stmt := top 71
abbrev sTree : Stmt := top 72
section
variable {K : PySem.W.Frag} {H G : Hp} {r D : Addr}
end
section
variable {P : Program} {w : World} {K : PySem.W.Frag} {mg : Str → Option Value} {base : Heap}
/-! ### the words -/
def someW : List Str := ["", "x", "yes", "yes", "b", "a b", "use a", "use b", "use d/x", "use m", "use n", "use", "use A", "y y", "use o"].map Str.ofString
def okW (x : Str) : Prop := x.length ≤ 200 ∧ textB x = true ∧ PyData.strOk x = true
theorem join_all (p : Nat → Bool) (S : List Nat) (hS : S.all p = true) : ∀ l : List (List Nat), (∀ x ∈ l, x.all p = true) → (joinL S l).all p = true
  | [], _ => rfl
  | [x], h => h x List.mem_cons_self
  | x :: y :: r, h => by
    have ih := join_all p S hS (y :: r) fun z hz => h z (List.mem_cons_of_mem _ hz)
    have hx := h x List.mem_cons_self
    show (x ++ (S ++ joinL S (y :: r))).all p = true
    rw [List.all_append, List.all_append, hx, hS, ih]
    rfl
theorem some_ok : ∀ y ∈ someW, y.length ≤ 7 ∧ (tl y).all sgnT = true := by decide +kernel
theorem str_ok {x : Str} (h : (tl x).all sgnT = true) : PyData.strOk x = true := by
  unfold PyData.strOk
  rw [Array.all_eq_true']
  intro c hc
  rw [List.all_eq_true] at h
  have h1 := h c (by simpa [tl] using hc)
  simp only [sgnT, Bool.or_eq_true, Bool.and_eq_true, decide_eq_true_eq] at h1
  simp
  omega
theorem joined_ok {ys : List Str} (h : ∀ y ∈ ys, y ∈ someW) (hl : ys.length ≤ 8) : okW (Txt.join (Str.ofString "\n") ys) ∧ (ys.map (·.length)).sum + ys.length * (Str.ofString "\n").length ≤ 16777216 := by
  have l1 : (Str.ofString "\n").length = 1 := rfl
  have sum : (ys.map (·.length)).sum ≤ 7 * ys.length := by
    clear hl
    induction ys with
    | nil => simp
    | cons y r ih =>
      have h1 := (some_ok y (h y List.mem_cons_self)).1
      have h2 := ih fun z hz => h z (List.mem_cons_of_mem _ hz)
      simp only [List.map_cons, List.sum_cons, List.length_cons]
      omega
  have len := StrLaws.join_length_le (Str.ofString "\n") ys
  rw [l1, Nat.mul_one] at len
  have sg : (tl (Txt.join (Str.ofString "\n") ys)).all sgnT = true := by
    rw [join_eq, tl_join]
    refine join_all sgnT _ (by decide +kernel) _ fun x hx => ?_
    obtain ⟨y, hy, rfl⟩ := List.mem_map.mp hx
    exact (some_ok y (h y hy)).2
  have le : (Txt.join (Str.ofString "\n") ys).length ≤ 64 := by
    rw [join_eq]
    omega
  refine ⟨⟨by omega, ?_, str_ok sg⟩, by rw [l1]; omega⟩
  unfold textB
  rw [decide_eq_true (by omega : (Txt.join (Str.ofString "\n") ys).length ≤ 200)]
  exact sg
abbrev nWords : List Str := ["_law_row", "_law_some", "_law_k"]
theorem scWords : FnScope nWords ["_law_row"] (defScope sWords) := ⟨rfl, rfl, rfl, by decide +kernel, rfl, by decide +kernel, by decide +kernel⟩
def spWords : Sp := fun vs H Q _ => ∃ r, vs = [.ref r] ∧ Row K H r ∧ ∀ x G, okW x → Dr K r H G → Q (.str x) G
theorem ok_words {f : Addr} {fd : FuncData} (F : Fun K "_law_words" "_law_words" sWords f fd) (T : Gv mg) (cT : Cal P w K mg base CX0 1 "_law_taken" ["_law_row", "_law_many"] (spTaken (K := K)))
    (cO : Cal P w K mg base CX0 2 "_law_one" ["_law_row", "_law_things"] (spOne (K := K))) : FnOk P w K mg base CX0 3 f fd ["_law_row"] (spWords (K := K)) := by
  refine F.ok scWords (fun vs H Q E h => ?_) (fun cdv A outer s H vs Q E hr h => ?_)
  · obtain ⟨r, rfl, _⟩ := h
    rfl
  · obtain ⟨r, rfl, row, k⟩ := h
    have hr1 : Room 1 _ := hr.mono (by decide)
    refine ⟨_, pss_cons (ps_set (i := 1) scWords.nd rfl (Or.inr rfl) (pe_lst (pa_cons pe_str (pa_cons pe_str (pa_cons pe_str (pa_cons pe_str (pa_cons pe_str (pa_cons pe_str (pa_cons pe_str (pa_cons pe_str (pa_cons pe_str (pa_cons pe_str (pa_cons pe_str (pa_cons pe_str (pa_cons pe_str pa_nil)))))))))))))))
      (pss_cons (ps_set (i := 1) scWords.nd rfl (Or.inr rfl) (pe_op op_cat (pv 1) (pe_lst (pa_cons pe_str (pa_cons pe_str pa_nil)))))
      (pss_one (ps_ret (pe_join pe_str (pe_lc (own := [("_law_k", 2)]) (g := gName 2) (tt := tYes) rfl scWords.nd
        (pi_range1 (by rfl) T.rng (pa_cons (pe_op op_add pe_int (pe_call cT.F hr1 (by rfl) cT.g cT.kp cT.b .nil pass0 (pa_cons (pv 0) (pa_cons (pe_ix ix_list (pe_lst (pa_cons pe_int (pa_cons pe_int (pa_cons pe_int (pa_cons pe_int pa_nil)))))
          (pe_call cT.F hr1 (by rfl) cT.g cT.kp cT.b .nil pass0 (pa_cons (pv 0) (pa_cons pe_int pa_nil))) (fun _ _ => rfl)) pa_nil)))) pa_nil))
        (blkOk_by (N := nWords) (sc := defScope sWords) (by decide +kernel)) (fun _ _ _ _ _ => pg_name (i := 2) scWords.nd rfl (Or.inl rfl)) (fun _ _ _ _ _ => pts_nil)
        (fun _ _ _ _ _ => pe_call cO.F hr rfl cO.g cO.kp cO.b .nil pass0 (pa_cons (pv 0) (pa_cons (pv 1) pa_nil)))))))), ?_⟩
    refine q_asgL (xs := (someW.take 13).map V.str) (el_lst (ea_cs _) (by decide)) fun p1 H1 hp1 e1 h1 => ?_
    refine q_asgL (xs := (someW.take 13).map V.str ++ (someW.drop 13).map V.str) (el_cat (ev_var rfl) h1 (el_lst (ea_cs ((someW.drop 13).map V.str)) (by decide)) (by decide)) fun p2 H2 hp2 e2 h2 => ?_
    have h2' : H2 p2 = some (.lst (someW.map V.str)) := h2
    clear h2
    have row2 : Row K H2 r := row.ex (e1.trans e2)
    have nep : p2 ≠ r := (row.ex e1).ne_new hp2
    refine ⟨⟨_, rfl⟩, ?_⟩
    refine ⟨_, rfl, by show 4 ≤ sizeLine; decide, fun q hq => ?_⟩
    have row3 : Row K (upd H2 q (.lst [.int 1, .int 2, .int 4, .int 8])) r := row2.ex (Ex.new hq)
    have neq : q ≠ r := row2.ne_new hq
    refine draw (m := 4) (ev_var rfl) ev_c row3 (by decide) (by decide) fun n1 G1 hn1 hm1 d1 => ?_
    obtain ⟨m2, ha2, l2, u2⟩ : ∃ m2 : Int, atI [V.int 1, V.int 2, V.int 4, V.int 8] n1 = some (.int m2) ∧ 1 ≤ m2 ∧ m2 ≤ 8 := by
      have : n1 = 0 ∨ n1 = 1 ∨ n1 = 2 ∨ n1 = 3 := by omega
      rcases this with rfl | rfl | rfl | rfl
      · exact ⟨1, rfl, by decide, by decide⟩
      · exact ⟨2, rfl, by decide, by decide⟩
      · exact ⟨4, rfl, by decide, by decide⟩
      · exact ⟨8, rfl, by decide, by decide⟩
    refine ⟨q, _, n1, _, rfl, rfl, sq_of (d1.kp _ _ neq upd_same), ha2, r, m2, rfl, d1.row, by omega, by omega, fun n2 G2 hn2 hm2 d2 => ?_⟩
    have d02 : Dr K r H2 G2 := Dr.trans (Dr.pre (Ex.new hq) d1) d2
    refine ⟨1, n2, rfl, rfl, 1 + n2, rfl, by omega, by omega, fun D hD => ?_⟩
    have hD2 : H2 D = none := d02.free row2 hD
    have neD : D ≠ r := row2.ne_new hD2
    have neDp : D ≠ p2 := (ne_of_none h2' hD2).symm
    refine lc_range (lo := 0) (n := (1 + n2).toNat) (fun i G => ∃ ys : List Str, ys.length = i ∧ (∀ y ∈ ys, y ∈ someW) ∧ G D = some (.lst (ys.map V.str)) ∧ Dr K r H2 G) ⟨[], rfl, fun _ z => (by cases z), upd_same, ?_⟩ ?_ ?_
    · exact ⟨d02.kp.updL hD2, d02.row.ex (Ex.new hD)⟩
    · rintro i G hi ⟨ys, hlen, hys, hGD, d⟩
      refine ⟨rfl, ?_⟩
      unfold tYes
      dsimp only
      rw [if_pos rfl]
      refine ⟨_, rfl, _, rfl, r, p2, someW.map V.str, rfl, d.row, nep, d.kp _ _ nep h2', by decide, by decide, fun v G' hv d' => ?_⟩
      obtain ⟨y, hy, rfl⟩ := List.mem_map.mp hv
      refine ⟨ys.map V.str, d'.kp _ _ neD hGD, sz_lt (by rw [List.length_map]; omega), ys ++ [y], by simp [hlen], fun z hz => ?_, by rw [upd_same]; simp, (Dr.trans d d').updL hD2 (d'.kp _ _ neD hGD) neD⟩
      rcases List.mem_append.mp hz with hz | hz
      · exact hys z hz
      · rw [List.mem_singleton.mp hz]
        exact hy
    · rintro G ⟨ys, hlen, hys, hGD, d⟩
      obtain ⟨w1, w2⟩ := joined_ok hys (by omega)
      exact ⟨_, D, ys, rfl, rfl, .inl (sq_of hGD), w2, k _ G w1 (Dr.pre (e1.trans e2) d)⟩
end
end Bt
namespace Bt
open PySem PySem.Spec PyProof.Rows L2 Bk Bm Evl Be Cr Kr Bp Bl TL
def ps1 : List Str := ["a", "b", "c", "d/x", "d/y", "e/f/g"].map Str.ofString
def ps2 : List Str := ["m", "p/q"].map Str.ofString
theorem FileAt.kp {r : Addr} {H G : Hp} {v : V} {f : Fl} {xs : List V} (h : FileAt H v f) (hr : H r = some (.lst xs)) (k : Kp r H G) : FileAt G v f := by
  obtain ⟨b, rfl, hb⟩ := h
  exact ⟨b, rfl, k b _ (ne_of hb hr (by intro z; cases z)) hb⟩
theorem FileAt.updL {H : Hp} {D : Addr} {v : V} {f : Fl} {xs zs : List V} (h : FileAt H v f) (hr : H D = some (.lst xs)) : FileAt (upd H D (.lst zs)) v f := by
  obtain ⟨b, rfl, hb⟩ := h
  exact ⟨b, rfl, by rw [upd_ne (ne_of hb hr (by intro z; cases z))]; exact hb⟩
section
variable {P : Program} {w : World} {K : PySem.W.Frag} {mg : Str → Option Value} {base : Heap}
abbrev nTree : List Str := ["_law_row", "_law_found", "_law_path"]
theorem scTree : FnScope nTree ["_law_row"] (defScope sTree) := ⟨rfl, rfl, rfl, by decide +kernel, rfl, by decide +kernel, by decide +kernel⟩
/-- between the turns: the list at D holds files whose paths stand in done, in order -/
def TInv (K : PySem.W.Frag) (r : Addr) (H0 : Hp) (D : Addr) (done : List Str) (σ : L2.St) (G : Hp) : Prop :=
  ∃ (vs : List V) (fs : List Fl) (u : Option V), σ = [some (.ref r), some (.ref D), u] ∧ G D = some (.lst vs) ∧ Paired (FileAt G) vs fs ∧ (fs.map (·.1)).Sublist done ∧ (∀ f ∈ fs, okW f.2) ∧ Dr K r H0 G
theorem tree_turns {r D : Addr} {H0 G : Hp} {ps done : List Str} {tt : TT} {De : Ends} {σ : L2.St} (inv : TInv K r H0 D done σ G) (hD0 : H0 D = none) (hDr : D ≠ r) (hz : done.length + ps.length ≤ 100)
    (test : ∀ (q : Str) G (Q : Bool → Hp → Prop), Row K G r → (∀ b G', Dr K r G G' → Q b G') → tt [some (.ref r), some (.ref D), some (.str q)] G Q)
    (k : ∀ σ' G', TInv K r H0 D (done ++ ps) σ' G' → De.nx σ' G') :
    tFor (iList K (tLst (tCs (ps.map V.str)))) (gName 2) (tIfS tt (tDrop (tBM K "list" rAppend (tVar 1) (tCons (tTup (tCons (tVar 2) (tCons (tCall (spWords (K := K)) [] E0 (tCons (tVar 0) tNil)) tNil))) tNil))) tNext) De σ G := by
  obtain ⟨vs0, fs0, u0, es0, hD, _, _, _, d0⟩ := id inv
  refine s_forNL (xs := ps.map V.str) (el_lst (ea_cs _) (by rw [List.length_map]; omega)) (fun p i σ' G' => TInv K r H0 D (done ++ ps.take i) σ' G' ∧ G' p = some (.lst (ps.map V.str)) ∧ p ≠ D ∧ p ≠ r) (fun p H1 hp e h1 => ?_) (fun p i σ' G' _ q => sq_of q.2.1) (fun p i x σ' G' hi q => ?_) (fun p σ' G' q => ?_)
  · obtain ⟨vs, fs, u, es, hD, pf, sl, ok, d⟩ := inv
    refine ⟨⟨vs, fs, u, es, e _ _ hD, paired_mono pf fun _ _ z => z.mono e, by simpa using sl, ok, d.ex e⟩, h1, (ne_of_none hD hp).symm, d.row.ne_new hp⟩
  · obtain ⟨⟨vs, fs, u, rfl, hD, pf, sl, ok, d⟩, hp, npD, npr⟩ := q
    obtain ⟨q, hq, rfl⟩ : ∃ q, ps[i]? = some q ∧ x = V.str q := by
      rw [List.getElem?_map] at hi
      cases e : ps[i]? with
      | none => rw [e] at hi; cases hi
      | some q => rw [e] at hi; exact ⟨q, rfl, (Option.some.inj hi).symm⟩
    have htk : ps.take (i + 1) = ps.take i ++ [q] := by rw [List.take_succ, hq]; rfl
    have hlen : fs.length ≤ 100 := by
      have h1 := sl.length_le
      rw [List.length_map, List.length_append, List.length_take] at h1
      omega
    obtain ⟨rl, hrl⟩ := d.row.at
    refine test q G' _ d.row fun b G1 d1 => ?_
    have hD1 : G1 D = some (.lst vs) := d1.kp _ _ hDr hD
    have pf1 : Paired (FileAt G1) vs fs := paired_mono pf fun _ _ z => FileAt.kp z hrl d1.kp
    cases b with
    | false =>
      rw [if_neg (by decide)]
      exact ⟨⟨vs, fs, _, rfl, hD1, pf1, by rw [htk, ← List.append_assoc]; exact sl.trans (List.sublist_append_left _ _), ok, d.trans d1⟩, d1.kp _ _ npr hp, npD, npr⟩
    | true =>
      rw [if_pos rfl]
      refine ⟨_, rfl, Or.inl ⟨rfl, vs, sq_of hD1⟩, _, rfl, _, rfl, r, rfl, d1.row, fun y G2 hy d2 => ⟨by show 2 ≤ sizeLine; decide, fun T hT => ?_⟩⟩
      obtain ⟨rl1, hrl1⟩ := d1.row.at
      have hD2 : G2 D = some (.lst vs) := d2.kp _ _ hDr hD1
      have pf2 : Paired (FileAt G2) vs fs := paired_mono pf1 fun _ _ z => FileAt.kp z hrl1 d2.kp
      have hD3 : (upd G2 T (.tup [.str q, .str y])) D = some (.lst vs) := (Ex.new hT) _ _ hD2
      have pl := paired_len pf2
      refine ⟨D, vs, .ref T, rfl, rfl, hD3, sz_lt (by omega), ?_⟩
      have d02 : Dr K r H0 (upd G2 T (.tup [.str q, .str y])) := ((d.trans d1).trans d2).ex (Ex.new hT)
      refine ⟨⟨vs ++ [.ref T], fs ++ [(q, y)], _, rfl, upd_same, ?_, ?_, ?_, d02.updL hD0 hD3 hDr⟩, ?_, npD, npr⟩
      · refine paired_append (paired_mono pf2 fun _ _ z => FileAt.updL (z.mono (Ex.new hT)) hD3) (.cons ⟨T, rfl, ?_⟩ .nil)
        rw [upd_ne (ne_of_none hD2 hT).symm, upd_same]
      · rw [htk, ← List.append_assoc, List.map_append]
        exact sl.append (List.Sublist.refl _)
      · intro f hf
        rcases List.mem_append.mp hf with hf | hf
        · exact ok f hf
        · rw [List.mem_singleton.mp hf]
          exact hy
      · rw [upd_ne npD]
        exact (Ex.new hT) _ _ (d2.kp _ _ npr (d1.kp _ _ npr hp))
  · have e : ps.take (ps.map V.str).length = ps := by rw [List.length_map, List.take_length]
    rw [e] at q
    exact k σ' G' q.1
def TreeOk (fs : List Fl) : Prop := (fs.map (·.1)).Sublist (ps1 ++ ps2) ∧ ∀ f ∈ fs, okW f.2
def spTree : Sp := fun vs H Q _ => ∃ r, vs = [.ref r] ∧ Row K H r ∧ ∀ p o xs fs G, Dr K r H G → H p = none → G p = some (.frz o (.tup xs)) → Pln o → Paired (FileAt G) xs fs → TreeOk fs → Q (.ref p) G
theorem ok_tree {f : Addr} {fd : FuncData} (F : Fun K "_law_tree" "_law_tree" sTree f fd) (T : Gv mg) (cT : Cal P w K mg base CX0 1 "_law_taken" ["_law_row", "_law_many"] (spTaken (K := K)))
    (cW : Cal P w K mg base CX0 3 "_law_words" ["_law_row"] (spWords (K := K))) : FnOk P w K mg base CX0 4 f fd ["_law_row"] (spTree (K := K)) := by
  refine F.ok scTree (fun vs H Q E h => ?_) (fun cdv A outer s H vs Q E hr h => ?_)
  · obtain ⟨r, rfl, _⟩ := h
    rfl
  · obtain ⟨r, rfl, row, k⟩ := h
    have hr1 : Room 1 _ := hr.mono (by decide)
    refine ⟨_, pss_cons (ps_set (i := 1) scTree.nd rfl (Or.inl rfl) (pe_lst pa_nil))
      (pss_cons (ps_for PassesOwn.never rfl (pi_list (pe_lst (pa_cons pe_str (pa_cons pe_str (pa_cons pe_str (pa_cons pe_str (pa_cons pe_str (pa_cons pe_str pa_nil)))))))) (pg_name (i := 2) scTree.nd rfl (Or.inl rfl))
        (pss_one (ps_if (pt_cmpR op_gt (pe_call cT.F hr1 (by rfl) cT.g cT.kp cT.b .nil pass0 (pa_cons (pv 0) (pa_cons pe_int pa_nil))) pe_int (nomark _))
          (pss_one (ps_expr (pe_bm PySem.F.plainAttrs_list PySem.F.slot_list_append PySem.F.type_list_append mt_append (pv 1) (pa_cons (pe_tup (pa_cons (pv 2) (pa_cons (pe_call cW.F hr (by rfl) cW.g cW.kp cW.b .nil pass0 (pa_cons (pv 0) pa_nil)) pa_nil))) pa_nil)))) pss_nil)))
      (pss_cons (ps_for PassesOwn.never rfl (pi_list (pe_lst (pa_cons pe_str (pa_cons pe_str pa_nil)))) (pg_name (i := 2) scTree.nd rfl (Or.inl rfl))
        (pss_one (ps_if (pt_cmpR op_eq (pe_call cT.F hr1 (by rfl) cT.g cT.kp cT.b .nil pass0 (pa_cons (pv 0) (pa_cons pe_int pa_nil))) pe_int (nomark _))
          (pss_one (ps_expr (pe_bm PySem.F.plainAttrs_list PySem.F.slot_list_append PySem.F.type_list_append mt_append (pv 1) (pa_cons (pe_tup (pa_cons (pv 2) (pa_cons (pe_call cW.F hr (by rfl) cW.g cW.kp cW.b .nil pass0 (pa_cons (pv 0) pa_nil)) pa_nil))) pa_nil)))) pss_nil)))
      (pss_one (ps_ret (pe_callTy call_tuple_ofZ (by rfl) T.tup (by decide +kernel) (pa_cons (pv 1) pa_nil)))))), ?_⟩
    refine q_asgL (xs := []) (el_lst ea_nil (by decide)) fun D H1 hD e1 h1 => ?_
    have row1 := row.ex e1
    have hDr : D ≠ r := row.ne_new hD
    refine tree_turns (K := K) (r := r) (D := D) (H0 := H) (ps := ps1) (done := []) (De := ⟨_, _, _, _⟩) ⟨[], [], none, rfl, h1, .nil, List.Sublist.refl _, fun _ z => (by cases z), Dr.pre e1 (Dr.refl row1)⟩ hD hDr (by decide) (fun q G Q' rw q' => ?_) fun σ' G' inv => ?_
    · exact draw (m := 4) (ev_var rfl) ev_c rw (by decide) (by decide) fun n G1 hn hm d => ⟨n, 0, rfl, rfl, _, rfl, q' _ G1 d⟩
    refine tree_turns (K := K) (r := r) (D := D) (H0 := H) (ps := ps2) (done := [] ++ ps1) (De := ⟨_, _, _, _⟩) inv hD hDr (by decide) (fun q G Q' rw q' => ?_) fun σ2 G2 inv2 => ?_
    · exact draw (m := 4) (ev_var rfl) ev_c rw (by decide) (by decide) fun n G1 hn hm d => ⟨rfl, _, rfl, q' _ G1 d⟩
    obtain ⟨vs, fs, u, rfl, hD2, pf, sl, ok, d⟩ := inv2
    refine ⟨_, rfl, D, vs, rfl, sq_of hD2, fun l o hl po => ?_⟩
    exact k l o vs fs _ (d.ex (Ex.new hl)) (d.free row hl) upd_same po (paired_mono pf fun _ _ z => z.mono (Ex.new hl)) ⟨sl, ok⟩
end
end Bt
namespace Bt
open PySem PySem.Spec PyProof.Rows L2 Bk Bm Evl Be Cr Bp Bl TL
abbrev sOddW : Stmt := top 76
section
variable {X : Cx}
end
section
variable {P : Program} {w : World} {K : PySem.W.Frag} {mg : Str → Option Value} {base : Heap}
theorem scOddW : FnScope ["_law_row"] ["_law_row"] (defScope sOddW) := ⟨rfl, rfl, rfl, by decide +kernel, rfl, by decide +kernel, by decide +kernel⟩
def oddW : List V := [.non, .int 0, .bl true, .str (Txt.mul (Str.ofString "a") 201)]
theorem mul_ok : MulOk (Str.ofString "a") 201 := by
  refine ⟨by decide, fun _ _ => by decide +kernel, fun _ _ => by decide +kernel⟩
theorem mul_bad : (Txt.mul (Str.ofString "a") 201).length ≤ 1000 ∧ textB (Txt.mul (Str.ofString "a") 201) = false := by decide +kernel
theorem ok_oddW {f : Addr} {fd : FuncData} (F : Fun K "_law_odd_words" "_law_odd_words" sOddW f fd) (T : Gv mg) (cT : Cal P w K mg base CX0 1 "_law_taken" ["_law_row", "_law_many"] (spTaken (K := K))) : FnOk P w K mg base CX0 2 f fd ["_law_row"] (spOdd (K := K) isTextV) := by
  refine F.ok scOddW (fun vs H Q E h => ?_) (fun cdv A outer s H vs Q E hr h => ?_)
  · obtain ⟨r, rfl, _⟩ := h
    rfl
  · obtain ⟨r, rfl, row, k⟩ := h
    refine ⟨_, pss_one (ps_ret (pe_ix ix_list (pe_lst (pa_cons pe_non (pa_cons pe_int (pa_cons pe_bl (pa_cons (pe_op op_mulS pe_str pe_int) (pa_cons (pe_tup (pa_cons pe_str pa_nil)) (pa_cons (pe_lst (pa_cons pe_str pa_nil)) (pa_cons pe_dnewK pa_nil))))))))
      (pe_call cT.F hr (by rfl) cT.g cT.kp cT.b .nil pass0 (pa_cons (pv 0) (pa_cons pe_int pa_nil))) (fun _ _ => rfl))), ?_⟩
    refine ⟨_, _, rfl, rfl, mul_ok, ⟨by show 1 ≤ sizeLine; decide, fun t ht => ⟨by show 1 ≤ sizeLine; decide, fun l hl => fun d hd => ⟨by show 7 ≤ sizeLine; decide, fun o ho => ?_⟩⟩⟩⟩
    have eAll := (Ex.new (o := .tup [.str (Str.ofString "a")]) ht).trans ((Ex.new (o := .lst [.str (Str.ofString "a")]) hl).trans ((Ex.new (o := .dK []) hd).trans (Ex.new (o := .lst (oddW ++ [V.ref t, V.ref l, V.ref d])) ho)))
    have row2 := row.ex eAll
    have ft := ((Ex.new (o := .lst [.str (Str.ofString "a")]) hl).trans ((Ex.new (o := .dK []) hd).trans (Ex.new (o := .lst (oddW ++ [V.ref t, V.ref l, V.ref d])) ho))) _ _ (upd_same (a := t) (o := .tup [.str (Str.ofString "a")]) (H := H))
    have fl := ((Ex.new (o := .dK []) hd).trans (Ex.new (o := .lst (oddW ++ [V.ref t, V.ref l, V.ref d])) ho)) _ _ (upd_same (a := l) (o := .lst [.str (Str.ofString "a")]))
    have fd' := (Ex.new (o := .lst (oddW ++ [V.ref t, V.ref l, V.ref d])) ho) _ _ (upd_same (a := d) (o := .dK []))
    have neo : o ≠ r := (row.ex ((Ex.new (o := .tup [.str (Str.ofString "a")]) ht).trans ((Ex.new (o := .lst [.str (Str.ofString "a")]) hl).trans (Ex.new (o := .dK []) hd)))).ne_new ho
    refine draw (m := 7) (ev_var rfl) ev_c row2 (by decide) (by decide) fun n G hn hm dd => ?_
    have hv : ∀ v ∈ oddW ++ [V.ref t, V.ref l, V.ref d], ∀ F : Hp, F t = some (.tup [.str (Str.ofString "a")]) → F l = some (.lst [.str (Str.ofString "a")]) → F d = some (.dK []) → Sm F v ∧ isTextV v = false := by
      intro v hv F f1 f2 f3
      simp only [oddW, List.mem_append, List.mem_cons, List.not_mem_nil, or_false] at hv
      rcases hv with ((rfl | rfl | rfl | rfl) | (rfl | rfl | rfl))
      · exact ⟨.non, rfl⟩
      · exact ⟨.int _, rfl⟩
      · exact ⟨.bl _, rfl⟩
      · exact ⟨.str _ mul_bad.1, mul_bad.2⟩
      · exact ⟨.t1 f1, rfl⟩
      · exact ⟨.l1 f2, rfl⟩
      · exact ⟨.d0 f3, rfl⟩
    have hin : n.toNat < (oddW ++ [V.ref t, V.ref l, V.ref d]).length := by
      show n.toNat < 7
      omega
    obtain ⟨s1, s2⟩ := hv _ (List.getElem_mem hin) _ ft fl fd'
    refine ⟨o, _, n, _, rfl, rfl, sq_of (dd.kp _ _ neo upd_same), at_of (j := n.toNat) (by omega) (List.getElem?_eq_getElem hin), ?_⟩
    exact k _ G (Dr.pre eAll dd) (Sm.dr s1 row2 dd) s2
end
end Bt
namespace Bt
open PySem PySem.Spec PyProof.Rows L2 Bk Bm Evl Be Cr Bp Bl TL
/-! ### the mathematics of spoilt trees -/
abbrev lt (p q : Str) : Prop := p.cps.toList < q.cps.toList
/-- q may stand behind p -/
def Rp (p q : Str) : Prop := lt p q ∧ within q p = false
instance (p q : Str) : Decidable (Rp p q) := inferInstanceAs (Decidable (_ ∧ _))
def allP : List Str := ps1 ++ ps2
theorem allP_pw : allP.Pairwise Rp := by decide +kernel
theorem allP_ok : ∀ p ∈ allP, pathB p = true ∧ p.length ≤ 5 ∧ PyData.strOk p = true ∧
    ((Txt.split p (Str.ofString "/")).length = 3 ∨ ((Txt.split p (Str.ofString "/")).length ≠ 3 ∧ pathB (p ++ Str.ofString "/z") = true ∧ within (p ++ Str.ofString "/z") p = true ∧ PyData.strOk (p ++ Str.ofString "/z") = true ∧ (p ++ Str.ofString "/z").length ≤ 1000)) := by decide +kernel
theorem lt_irr (p : Str) : ¬ lt p p := List.lt_irrefl _
theorem lt_asy {p q : Str} (h : lt p q) : ¬ lt q p := fun h' => lt_irr p (List.lt_trans h h')
theorem follow_good {pre : List Fl} {f : Fl} (h : ((pre ++ [f]).map (·.1)).Pairwise Rp) : follow f.1 pre = true := by
  rw [List.map_append, List.pairwise_append] at h
  have h1 : ∀ g ∈ pre, Rp g.1 f.1 := fun g hg => h.2.2 _ (List.mem_map.mpr ⟨g, hg, rfl⟩) _ (by simp)
  unfold follow
  cases e : pre.getLast? with
  | none => rfl
  | some l =>
    have hl : l ∈ pre := List.mem_of_getLast? e
    have h2 : (pre.any fun g => within f.1 g.1) = false := by
      rw [List.any_eq_false]
      intro g hg
      rw [(h1 g hg).2]
      decide
    show (decide (lt l.1 f.1) && !(pre.any fun g => within f.1 g.1)) = true
    rw [decide_eq_true (h1 l hl).1, h2]
    rfl
theorem fb_good : ∀ (suf pre : List Fl) (rest : List (Option Fl)), ((pre ++ suf).map (·.1)).Pairwise Rp → fb pre (suf.map some ++ rest) = fb (pre ++ suf) rest
  | [], pre, rest, _ => by simp
  | f :: r, pre, rest, h => by
    have e : pre ++ f :: r = (pre ++ [f]) ++ r := by simp
    have h0 : ((pre ++ [f]).map (·.1)).Pairwise Rp := by
      rw [e, List.map_append] at h
      exact (List.pairwise_append.mp h).1
    show (if follow f.1 pre = true then fb (pre ++ [f]) (r.map some ++ rest) else _) = _
    rw [if_pos (follow_good h0), fb_good r (pre ++ [f]) rest (by rw [← e]; exact h), e]
theorem tree_pw {fs : List Fl} (h : TreeOk fs) : (fs.map (·.1)).Pairwise Rp := allP_pw.sublist h.1
theorem tree_len {fs : List Fl} (h : TreeOk fs) : fs.length ≤ 8 := by
  have h1 := h.1.length_le
  rw [List.length_map] at h1
  exact h1
theorem tree_mem {fs : List Fl} (h : TreeOk fs) {f : Fl} (hf : f ∈ fs) : f.1 ∈ allP ∧ okW f.2 := ⟨h.1.subset (List.mem_map.mpr ⟨f, hf, rfl⟩), h.2 f hf⟩
theorem tree_okF {fs : List Fl} (h : TreeOk fs) {f : Fl} (hf : f ∈ fs) : okF f ∧ (pathB f.1 && textB f.2) = true := by
  obtain ⟨h1, h2⟩ := tree_mem h hf
  have h3 := allP_ok _ h1
  refine ⟨⟨by omega, by have := h2.1; omega, h3.2.2.1, h2.2.2⟩, ?_⟩
  rw [h3.1, h2.2.1]
  rfl
theorem fb_tree {fs : List Fl} (h : TreeOk fs) : fb [] (fs.map some) = none := by
  have e := fb_good fs [] [] (by simpa using tree_pw h)
  rw [List.append_nil] at e
  rw [e]
  rfl
/-- a wrong thing at a place of a good tree -/
theorem fb_at {fs : List Fl} (h : TreeOk fs) {i : Nat} (hi : i ≤ fs.length) {o : Option Fl} (ho : ∀ f, o = some f → follow f.1 (fs.take i) = false) (rest : List (Option Fl)) : fb [] ((fs.take i).map some ++ (o :: rest)) = some i := by
  have e := fb_good (fs.take i) [] (o :: rest) (by
    rw [List.nil_append]
    have h1 := tree_pw h
    exact h1.sublist ((List.take_sublist i fs).map _))
  rw [e]
  have hl : (fs.take i).length = i := by rw [List.length_take]; omega
  cases o with
  | none =>
    show some ([] ++ fs.take i).length = some i
    rw [List.nil_append, hl]
  | some f =>
    show (if follow f.1 ([] ++ fs.take i) = true then _ else some ([] ++ fs.take i).length) = some i
    rw [List.nil_append, ho f rfl, if_neg (by decide), hl]
/-- a path that stands at an earlier place -/
theorem follow_dup {fs : List Fl} (h : TreeOk fs) {i j : Nat} (hi : i ≤ fs.length) (hj : j < i) {f : Fl} (hf : fs[j]? = some f) : follow f.1 (fs.take i) = false := by
  have hl : (fs.take i).length = i := by rw [List.length_take]; omega
  have hfl : (fs.take i).getLast? = fs[i - 1]? := by
    rw [List.getLast?_eq_getElem?, hl, List.getElem?_take_of_lt (by omega)]
  have hb : i - 1 < fs.length := by omega
  unfold follow
  rw [hfl, List.getElem?_eq_getElem hb]
  show (decide (lt fs[i - 1].1 f.1) && _) = false
  have no : ¬ lt fs[i - 1].1 f.1 := by
    obtain ⟨hjl, e⟩ := List.getElem?_eq_some_iff.mp hf
    by_cases c : j = i - 1
    · subst c
      rw [e]
      exact lt_irr _
    · have pw := tree_pw h
      rw [List.pairwise_iff_getElem] at pw
      have r := pw j (i - 1) (by simpa using hjl) (by simpa using hb) (by omega)
      rw [List.getElem_map, List.getElem_map, e] at r
      exact lt_asy r.1
  rw [decide_eq_false no]
  rfl
/-- a path within the one ahead -/
theorem follow_in {fs : List Fl} {i : Nat} {l : Fl} {p : Str} (hl : fs[i]? = some l) (hw : within p l.1 = true) : follow p (fs.take (i + 1)) = false := by
  have hm : l ∈ fs.take (i + 1) := by
    rw [List.take_succ, hl]
    simp
  unfold follow
  cases e : (fs.take (i + 1)).getLast? with
  | none =>
    rw [List.getLast?_eq_none_iff.mp e] at hm
    cases hm
  | some z =>
    have h2 : ((fs.take (i + 1)).any fun g => within p g.1) = true := List.any_eq_true.mpr ⟨l, hm, hw⟩
    show (decide _ && !((fs.take (i + 1)).any fun g => within p g.1)) = false
    rw [h2]
    simp
end Bt
namespace Bt
open PySem PySem.Spec PyProof.Rows L2 Bk Bm Evl Be Cr Bp Bl TL
abbrev sOddT : Stmt := top 77
abbrev nOddT : List Str := ["_law_row", "_law_tree_here", "_law_kind", "_law_none", "_law_at", "_law_odd", "_law_bad", "_law_file", "_law_k"]
theorem scOddT : FnScope nOddT ["_law_row", "_law_tree_here"] (defScope sOddT) := ⟨rfl, rfl, rfl, by decide +kernel, rfl, by decide +kernel, by decide +kernel⟩
/-! ### tuples cut and put together -/
def EvX (te : TE) (σ : L2.St) (H : Hp) (xs : List V) : Prop := ∀ H1, Ex H H1 → ∀ Q : VK, (∀ p o H2, Ex H1 H2 → H2 p = some o → IsTU o xs → Q (.ref p) H2) → te σ H1 Q
section
variable {K : PySem.W.Frag} {σ : L2.St} {H : Hp} {ta tb te ti : TE} {a : Addr} {xs ys : List V}
theorem ex_tup {ta : TA} {vs : List V} (h : EvA ta σ H vs) (hl : vs.length ≤ 100000) : EvX (tTup ta) σ H vs := fun H1 e Q q =>
  h H1 e _ fun H2 e2 => ⟨sz_of hl, fun p hp => q p _ _ (e2.trans (Ex.new hp)) upd_same (.inl rfl)⟩
theorem ex_cat (h1 : EvX ta σ H xs) (h2 : EvX tb σ H ys) (hl : xs.length + ys.length ≤ 100000) : EvX (tOp (rCatA K) ta tb) σ H (xs ++ ys) := fun H1 e Q q =>
  h1 H1 e _ fun a oa H2 e2 ha ca => h2 H2 (e.trans e2) _ fun b ob H3 e3 hb cb => ⟨a, b, xs, ys, rfl, rfl, ca.st (e3 _ _ ha), cb.st hb, sz_of hl,
    fun z => q b ob H3 (e2.trans e3) hb (by rw [z]; exact cb), fun _ z => q a oa H3 (e2.trans e3) (e3 _ _ ha) (by rw [z, List.append_nil]; exact ca), fun _ _ p hp => q p _ _ ((e2.trans e3).trans (Ex.new hp)) upd_same (.inl rfl)⟩
theorem ex_to {i : Nat} {o : HO} (h : Ev te σ H (.ref a)) (hi : Ev ti σ H (.int (i : Int))) (hx : H a = some o) (hc : IsTU o xs) (hl : i ≤ xs.length) : EvX (tSl (rSlA K) te tNoPart (tPart ti)) σ H (xs.take i) := fun H1 e Q q =>
  h H1 e _ fun H2 e2 => hi H2 (e.trans e2) _ fun H3 e3 => ⟨(i : Int), rfl, a, xs, rfl, hc.st (((e.trans e2).trans e3) _ _ hx), by
    have c1 : HT.sIx xs.length 0 none = 0 := HT.sIx_none _ _
    have c2 : HT.sIx xs.length xs.length (some (i : Int)) = i := by rw [HT.sIx_nat]; omega
    have c3 : cutV xs none (some (i : Int)) = xs.take i := by
      unfold cutV
      rw [c1, c2]
      simp
    rw [c1, c2]
    refine ⟨fun z => ?_, fun z p hp => ?_⟩
    · refine q a o H3 (e2.trans e3) (((e.trans e2).trans e3) _ _ hx) ?_
      rw [z.2, List.take_length]
      exact hc
    · exact q p _ _ ((e2.trans e3).trans (Ex.new hp)) upd_same (by rw [c3]; exact .inl rfl)⟩
theorem ex_from {i : Nat} {o : HO} (h : Ev te σ H (.ref a)) (hi : Ev ti σ H (.int (i : Int))) (hx : H a = some o) (hc : IsTU o xs) (hl : i ≤ xs.length) : EvX (tSl (rSlA K) te (tPart ti) tNoPart) σ H (xs.drop i) := fun H1 e Q q =>
  h H1 e _ fun H2 e2 => hi H2 (e.trans e2) _ fun H3 e3 => ⟨(i : Int), rfl, a, xs, rfl, hc.st (((e.trans e2).trans e3) _ _ hx), by
    have c1 : HT.sIx xs.length 0 (some (i : Int)) = i := by rw [HT.sIx_nat]; omega
    have c2 : HT.sIx xs.length xs.length none = xs.length := HT.sIx_none _ _
    have c3 : cutV xs (some (i : Int)) none = xs.drop i := by
      unfold cutV
      rw [c1, c2, List.take_of_length_le (by rw [List.length_drop]; omega)]
    rw [c1, c2]
    refine ⟨fun z => ?_, fun z p hp => ?_⟩
    · refine q a o H3 (e2.trans e3) (((e.trans e2).trans e3) _ _ hx) ?_
      rw [z.1]
      exact hc
    · exact q p _ _ ((e2.trans e3).trans (Ex.new hp)) upd_same (by rw [c3]; exact .inl rfl)⟩
end
theorem small_str : ∀ k < 21, Nat.log2 k < 1920 ∧ (toString (k : Int) : Str).length ≤ 100 := by decide +kernel
/-- a thing that is no file -/
inductive OddIt (H : Hp) : V → Prop
  | non : OddIt H .non
  | i0 : OddIt H (.int 0)
  | sz : OddIt H (.str (Str.ofString "z"))
  | t1 {a : Addr} (h : H a = some (.tup [.str (Str.ofString "a")])) : OddIt H (.ref a)
  | l2 {a : Addr} (h : H a = some (.lst [.str (Str.ofString "z"), .str (Str.ofString "")])) : OddIt H (.ref a)
  | t3 {a : Addr} (h : H a = some (.tup [.str (Str.ofString "z"), .str (Str.ofString ""), .str (Str.ofString "")])) : OddIt H (.ref a)
  | pt {a : Addr} {u : V} (h : H a = some (.tup [u, .str (Str.ofString "")])) (su : Sm H u) (bu : isPathV u = false) : OddIt H (.ref a)
  | wt {a : Addr} {u : V} (h : H a = some (.tup [.str (Str.ofString "z"), u])) (su : Sm H u) (bu : isTextV u = false) : OddIt H (.ref a)
theorem OddIt.ex {H G : Hp} {v : V} (h : OddIt H v) (e : Ex H G) : OddIt G v := by
  cases h with
  | non => exact .non
  | i0 => exact .i0
  | sz => exact .sz
  | t1 h => exact .t1 (e _ _ h)
  | l2 h => exact .l2 (e _ _ h)
  | t3 h => exact .t3 (e _ _ h)
  | pt h su bu => exact .pt (e _ _ h) (su.mono e) bu
  | wt h su bu => exact .wt (e _ _ h) (su.mono e) bu
theorem OddIt.dr {K : PySem.W.Frag} {r : Addr} {H G : Hp} {v : V} (h : OddIt H v) (row : Row K H r) (d : Dr K r H G) : OddIt G v := by
  obtain ⟨a, i, s, z, ns, hr, _⟩ := id row
  cases h with
  | non => exact .non
  | i0 => exact .i0
  | sz => exact .sz
  | t1 h => exact .t1 (d.kp _ _ (ne_of h hr (by intro z; cases z)) h)
  | l2 h => exact .l2 (d.kp _ _ (ne_of h hr (by intro z; cases z)) h)
  | t3 h => exact .t3 (d.kp _ _ (ne_of h hr (by intro z; cases z)) h)
  | pt h su bu => exact .pt (d.kp _ _ (ne_of h hr (by intro z; cases z)) h) (Sm.dr su row d) bu
  | wt h su bu => exact .wt (d.kp _ _ (ne_of h hr (by intro z; cases z)) h) (Sm.dr su row d) bu
theorem OddIt.fil {K : PySem.W.Frag} {H : Hp} {v : V} (h : OddIt H v) : Fil K H v false := by
  cases h with
  | non => exact .no kd_non (by decide)
  | i0 => exact .no (kd_int 0) (by decide)
  | sz => exact .no (kd_str _) (by decide)
  | t1 h => exact .len h (by decide) (by decide)
  | l2 h => exact .no (kd_lst h) (by decide)
  | t3 h => exact .len h (by decide) (by decide)
  | pt h su bu =>
    have q := Fil.two (K := K) h su (.str (Str.ofString "") (by decide))
    rw [bu] at q
    exact q
  | @wt a u h su bu =>
    have q := Fil.two (K := K) h (.str (Str.ofString "z") (by decide)) su
    rw [bu, Bool.and_false] at q
    exact q
theorem itm_files {K : PySem.W.Frag} {H : Hp} {xs : List V} {fs : List Fl} (h : Paired (FileAt H) xs fs) (ok : ∀ f ∈ fs, okF f ∧ (pathB f.1 && textB f.2) = true) : Paired (Itm K H) xs (fs.map some) := by
  induction h with
  | nil => exact .nil
  | cons r _ ih => exact .cons ⟨r, ok _ List.mem_cons_self⟩ (ih fun f hf => ok f (List.mem_cons_of_mem _ hf))
theorem paired_drop {α β : Type} {F : α → β → Prop} {l : List α} {m : List β} (h : Paired F l m) : ∀ n, Paired F (l.drop n) (m.drop n) := by
  induction h with
  | nil => intro n; simp; exact .nil
  | cons r t ih =>
    intro n
    cases n with
    | zero => exact .cons r t
    | succ n => exact ih n
/-- a thing put into a good tree -/
theorem tr_spoilt {K : PySem.W.Frag} {H : Hp} {q : Addr} {xs : List V} {fs : List Fl} {b : V} {o : Option Fl} {i : Nat} {oq : HO} (hq : H q = some oq) (hcq : IsTU oq (xs.take i ++ [b] ++ xs.drop i)) (pf : Paired (FileAt H) xs fs) (ok : TreeOk fs) (hi : i ≤ fs.length)
    (it : Itm K H b o) (ho : ∀ f, o = some f → follow f.1 (fs.take i) = false) : Tr K H (.ref q) (some (.int (i : Int))) := by
  have ip : Paired (Itm K H) xs (fs.map some) := itm_files pf fun f hf => tree_okF ok hf
  have ps : Paired (Itm K H) (xs.take i ++ [b] ++ xs.drop i) ((fs.take i).map some ++ (o :: (fs.drop i).map some)) := by
    have h1 := paired_append (paired_append (paired_take ip i) (.cons it .nil)) (paired_drop ip i)
    rw [List.map_take, List.map_drop]
    simpa using h1
  have hl := paired_len ps
  have hl2 := paired_len pf
  have h8 := tree_len ok
  have t := Tr.tup hq hcq (by simp only [List.length_append, List.length_take, List.length_drop, List.length_cons, List.length_nil]; omega) ps
  rw [fb_at ok hi ho] at t
  exact t
section
variable {P : Program} {w : World} {K : PySem.W.Frag} {mg : Str → Option Value} {base : Heap}
def spOddT : Sp := fun vs H Q _ => ∃ r p ho xs fs, vs = [.ref r, .ref p] ∧ Row K H r ∧ H p = some ho ∧ IsTU ho xs ∧ Paired (FileAt H) xs fs ∧ TreeOk fs ∧
  ∀ l bad u G, Dr K r H G → G l = some (.lst [bad, u]) → Tr K G bad (some u) → (u = .non ∨ ∃ i : Nat, u = .int (i : Int)) → Q (.ref l) G
theorem ok_oddT {f : Addr} {fd : FuncData} (F : Fun K "_law_odd_tree" "_law_odd_tree" sOddT f fd) (T : Gv mg) (cT : Cal P w K mg base CX0 1 "_law_taken" ["_law_row", "_law_many"] (spTaken (K := K)))
    (cP : Cal P w K mg base CX0 2 "_law_odd_path" ["_law_row"] (spOdd (K := K) isPathV)) (cW : Cal P w K mg base CX0 2 "_law_odd_words" ["_law_row"] (spOdd (K := K) isTextV)) : FnOk P w K mg base CX0 3 f fd ["_law_row", "_law_tree_here"] (spOddT (K := K)) := by
  refine F.ok scOddT (fun vs H Q E h => ?_) (fun cdv A outer s H vs Q E hr h => ?_)
  · obtain ⟨r, p, hto, xs, fs, rfl, _⟩ := h
    rfl
  · obtain ⟨r, p, hto, xs, fs, rfl, row, hp, hc, pf, ok, k⟩ := h
    have hr1 : Room 1 _ := hr.mono (by decide)
    refine ⟨_, pss_cons (ps_set (i := 2) scOddT.nd rfl (Or.inl rfl) (pe_call cT.F hr1 (by rfl) cT.g cT.kp cT.b .nil pass0 (pa_cons (pv 0) (pa_cons pe_int pa_nil))))
      (pss_cons (ps_if (pt_cmpR op_eq (pv 2) pe_int (nomark _))
        (pss_cons (ps_set (i := 3) scOddT.nd rfl (Or.inl rfl) (pe_lst (pa_cons pe_non (pa_cons (pe_callTy call_list_of (by rfl) T.lst (by decide +kernel) (pa_cons (pv 1) pa_nil)) (pa_cons pe_int (pa_cons pe_str (pa_cons pe_dnewK
          (pa_cons (pe_callTy call_tuple_of (by rfl) T.tup (by decide +kernel) (pa_cons (pe_lc (own := [("_law_k", 8)]) (g := gName 8) (tt := tYes) rfl scOddT.nd (pi_range1 (by rfl) T.rng (pa_cons pe_int pa_nil)) (blkOk_by (N := nOddT) (sc := defScope sOddT) (by decide +kernel))
            (fun _ _ _ _ _ => pg_name (i := 8) scOddT.nd rfl (Or.inl rfl)) (fun _ _ _ _ _ => pts_nil)
            (fun _ _ _ _ _ => pe_tup (pa_cons (pe_op op_add_str pe_str (pe_callTy call_str_int (by rfl) T.str (by decide +kernel) (pa_cons (pv 8) pa_nil))) (pa_cons pe_str pa_nil)))) pa_nil))
          (pa_cons pe_bl pa_nil)))))))))
        (pss_one (ps_ret (pe_lst (pa_cons (pe_ix ix_list (pv 3) (pe_call cT.F hr1 (by rfl) cT.g cT.kp cT.b .nil pass0 (pa_cons (pv 0) (pa_cons pe_int pa_nil))) (fun _ _ => rfl)) (pa_cons pe_non pa_nil)))))) pss_nil)
      (pss_cons (ps_set (i := 4) scOddT.nd rfl (Or.inl rfl) (pe_call cT.F hr1 (by rfl) cT.g cT.kp cT.b .nil pass0 (pa_cons (pv 0) (pa_cons (pe_op op_add (pe_callB call_len_seq (by rfl) T.len PySem.boot_len (pa_cons (pv 1) pa_nil)) pe_int) pa_nil))))
      (pss_cons (ps_set (i := 5) scOddT.nd rfl (Or.inl rfl) (pe_lst (pa_cons pe_non (pa_cons (pe_tup (pa_cons pe_str pa_nil)) (pa_cons (pe_lst (pa_cons pe_str (pa_cons pe_str pa_nil)))
          (pa_cons (pe_tup (pa_cons (pe_call cP.F hr (by rfl) cP.g cP.kp cP.b .nil pass0 (pa_cons (pv 0) pa_nil)) (pa_cons pe_str pa_nil)))
          (pa_cons (pe_tup (pa_cons pe_str (pa_cons (pe_call cW.F hr (by rfl) cW.g cW.kp cW.b .nil pass0 (pa_cons (pv 0) pa_nil)) pa_nil)))
          (pa_cons (pe_tup (pa_cons pe_str (pa_cons pe_str (pa_cons pe_str pa_nil)))) (pa_cons pe_int (pa_cons pe_str pa_nil))))))))))
      (pss_cons (ps_set (i := 6) scOddT.nd rfl (Or.inl rfl) (pe_ix ix_list (pv 5) (pe_call cT.F hr1 (by rfl) cT.g cT.kp cT.b .nil pass0 (pa_cons (pv 0) (pa_cons (pe_callB call_len_seq (by rfl) T.len PySem.boot_len (pa_cons (pv 5) pa_nil)) pa_nil))) (fun _ _ => rfl)))
      (pss_cut (ps_if (pw_and (pt_cmpR op_lt (pv 2) pe_int (nomark _)) (pw_and1 (pt_cmpR op_gt (pv 4) pe_int (nomark _)))).pt
        (pss_cons (ps_set (i := 7) scOddT.nd rfl (Or.inl rfl) (pe_ix ix_tup (pv 1) (pe_call cT.F hr1 (by rfl) cT.g cT.kp cT.b .nil pass0 (pa_cons (pv 0) (pa_cons (pv 4) pa_nil))) (fun _ _ => rfl)))
        (pss_cons (ps_set (i := 6) scOddT.nd rfl (Or.inl rfl) (pe_ix ix_list (pe_lst (pa_cons (pv 7) (pa_cons (pe_tup (pa_cons (pe_ix ix_tup (pv 7) pe_int (fun _ _ => rfl)) (pa_cons pe_str pa_nil)))
            (pa_cons (pe_tup (pa_cons (pe_op op_add_str (pe_ix ix_tup (pe_ix ix_tup (pv 1) (pe_op op_sub (pv 4) pe_int) (fun _ _ => rfl)) pe_int (fun _ _ => rfl)) pe_str) (pa_cons pe_str pa_nil))) pa_nil))))
          (pe_call cT.F hr1 (by rfl) cT.g cT.kp cT.b .nil pass0 (pa_cons (pv 0) (pa_cons pe_int pa_nil))) (fun _ _ => rfl)))
        (pss_one (ps_if (pt_cmpR op_eq (pe_callB call_len_seq (by rfl) T.len PySem.boot_len (pa_cons (pe_split (pe_ix ix_tup (pe_ix ix_tup (pv 1) (pe_op op_sub (pv 4) pe_int) (fun _ _ => rfl)) pe_int (fun _ _ => rfl)) pe_str) pa_nil)) pe_int (nomark _))
          (pss_one (ps_set (i := 6) scOddT.nd rfl (Or.inl rfl) (pv 7))) pss_nil)))) pss_nil)
      (pss_one (ps_ret (pe_lst (pa_cons (pe_op op_catA (pe_op op_catA (pe_slice sl_tupA (pv 1) po_none (po_some (pv 4))) (pe_tup (pa_cons (pv 6) pa_nil))) (pe_slice sl_tupA (pv 1) (po_some (pv 4)) po_none)) (pa_cons (pv 4) pa_nil)))))))))), ?_⟩
    have hpr : p ≠ r := by
      obtain ⟨rl, hrl⟩ := row.at
      exact ne_of hp hrl (hc.nl _)
    refine draw (m := 6) (ev_var rfl) ev_c row (by decide) (by decide) fun kd G1 hk0 hk6 d1 => ?_
    have hp1 : G1 p = some hto := d1.kp _ _ hpr hp
    refine q_when (b := decide (V.int kd = V.int 0)) (et_test (ev_op (ev_var rfl) ev_c (rv_eq rfl))) (fun hb H2 e2 => ?_) (fun hb H2 e2 => ?_)
    · -- a thing that is no tree
      have row2 : Row K H2 r := d1.row.ex e2
      refine ⟨_, rfl, p, xs, rfl, .inr (hc.st (e2 _ _ hp1)), fun l hl d hd => ⟨21, rfl, by decide, by decide, fun D hD => ?_⟩⟩
      have e3 : Ex H2 (upd (upd H2 l (.lst xs)) d (.dK [])) := (Ex.new hl).trans (Ex.new hd)
      refine lc_range (lo := 0) (n := (21 : Int).toNat) (fun i G => Ex (upd (upd H2 l (.lst xs)) d (.dK [])) G ∧ ∃ vs, G D = some (.lst vs) ∧ vs.length = i) ⟨Ex.new hD, [], upd_same, rfl⟩ ?_ ?_
      · rintro i G hi ⟨eG, vs, hGD, hvs⟩
        refine ⟨rfl, ?_⟩
        unfold tYes
        dsimp only
        rw [if_pos rfl]
        have e0 : (0 : Int) + (i : Int) = (i : Int) := Int.zero_add _
        have h21 : i < 21 := hi
        obtain ⟨s1, s2⟩ := small_str i h21
        refine ⟨_, rfl, (0 : Int) + (i : Int), rfl, by rw [e0]; exact s1, _, _, rfl, rfl, ?_, by show 2 ≤ sizeLine; decide, fun t ht => ⟨vs, (Ex.new ht) _ _ hGD, sz_lt (by omega), (eG.trans (Ex.new ht)).mut hD, vs ++ [.ref t], upd_same, by simp [hvs]⟩⟩
        rw [e0]
        refine Nat.le_trans (Nat.add_le_add_left s2 1) (by rw [sizeLine_eq]; decide)
      · rintro G ⟨eG, vs, hGD, hvs⟩
        refine ⟨D, vs, rfl, .inl ⟨sq_of hGD, fun l2 hl2 => ⟨by show 7 ≤ sizeLine; decide, fun o ho => ?_⟩⟩⟩
        have e4 : Ex G (upd (upd G l2 (.tup vs)) o (.lst [.non, .ref l, .int 0, .str (Str.ofString "a"), .ref d, .ref l2, .bl true])) := (Ex.new hl2).trans (Ex.new ho)
        have row4 := row2.ex ((e3.trans eG).trans e4)
        have neo : o ≠ r := ((row2.ex (e3.trans eG)).ex (Ex.new hl2)).ne_new ho
        have nel : l ≠ r := row2.ne_new hl
        have ned : d ≠ r := (row2.ex (Ex.new hl)).ne_new hd
        have nel2 : l2 ≠ r := (row2.ex (e3.trans eG)).ne_new hl2
        refine ⟨_, rfl, draw (m := 7) (ev_var rfl) ev_c row4 (by decide) (by decide) fun n G5 hn hm d5 => ?_⟩
        have hin : n.toNat < ([.non, .ref l, .int 0, .str (Str.ofString "a"), .ref d, .ref l2, .bl true] : List V).length := by show n.toNat < 7; omega
        refine ⟨o, _, n, _, rfl, rfl, sq_of (d5.kp _ _ neo upd_same), at_of (j := n.toNat) (by omega) (List.getElem?_eq_getElem hin), by show 2 ≤ sizeLine; decide, fun z hz => ?_⟩
        have dAll : Dr K r H (upd G5 z (.lst [([.non, .ref l, .int 0, .str (Str.ofString "a"), .ref d, .ref l2, .bl true] : List V)[n.toNat], .non])) := ((d1.ex ((e2.trans (e3.trans eG)).trans e4)).trans d5).ex (Ex.new hz)
        have fl : G5 l = some (.lst xs) := d5.kp _ _ nel (e4 _ _ (eG _ _ ((Ex.new hd) _ _ upd_same)))
        have fd5 : G5 d = some (.dK []) := d5.kp _ _ ned (e4 _ _ (eG _ _ upd_same))
        have fl2 : G5 l2 = some (.tup vs) := d5.kp _ _ nel2 ((Ex.new ho) _ _ upd_same)
        have trs : ∀ v ∈ ([.non, .ref l, .int 0, .str (Str.ofString "a"), .ref d, .ref l2, .bl true] : List V), Tr K G5 v (some .non) := by
          intro v hv
          simp only [List.mem_cons, List.not_mem_nil, or_false] at hv
          rcases hv with rfl | rfl | rfl | rfl | rfl | rfl | rfl
          · exact .no kd_non (by decide)
          · exact .no (kd_lst fl) (by decide)
          · exact .no (kd_int 0) (by decide)
          · exact .no (kd_str _) (by decide)
          · exact .no (kd_dK fd5) (by decide)
          · exact .big fl2 (by rw [hvs]; decide)
          · exact .no (kd_bl true) (by decide)
        exact k z _ .non _ dAll upd_same ((trs _ (List.getElem_mem hin)).mono (Ex.new hz)) (.inl rfl)
    · -- a thing put into the tree
      have dH2 : Dr K r H H2 := d1.ex e2
      have hp2 : H2 p = some hto := e2 _ _ hp1
      have hlen := paired_len pf
      have h8 := tree_len ok
      refine draw (m := (xs.length : Int) + 1) (ev_var rfl) (ev_op (ev_lenT (ev_var rfl) (hc.st hp2)) ev_c rv_I0) dH2.row (by omega) (by omega) fun at0 G3 ha0 ha1 d3 => ?_
      obtain ⟨i, rfl⟩ : ∃ i : Nat, at0 = (i : Int) := ⟨at0.toNat, by omega⟩
      have hi : i ≤ fs.length := by omega
      have hp3 : G3 p = some hto := d3.kp _ _ hpr hp2
      refine ⟨by show 1 ≤ sizeLine; decide, fun t1 ht1 => ⟨by show 2 ≤ sizeLine; decide, fun l1 hl1 => ?_⟩⟩
      have e4 : Ex G3 (upd (upd G3 t1 (.tup [.str (Str.ofString "a")])) l1 (.lst [.str (Str.ofString "z"), .str (Str.ofString "")])) := (Ex.new ht1).trans (Ex.new hl1)
      have row4 := d3.row.ex e4
      have it1 : OddIt (upd (upd G3 t1 (.tup [.str (Str.ofString "a")])) l1 (.lst [.str (Str.ofString "z"), .str (Str.ofString "")])) (.ref t1) := .t1 ((Ex.new hl1) _ _ upd_same)
      have it2 : OddIt (upd (upd G3 t1 (.tup [.str (Str.ofString "a")])) l1 (.lst [.str (Str.ofString "z"), .str (Str.ofString "")])) (.ref l1) := .l2 upd_same
      have d34 : Dr K r H (upd (upd G3 t1 (.tup [.str (Str.ofString "a")])) l1 (.lst [.str (Str.ofString "z"), .str (Str.ofString "")])) := (dH2.trans d3).ex e4
      have hp4 := e4 _ _ hp3
      generalize upd (upd G3 t1 (.tup [.str (Str.ofString "a")])) l1 (.lst [.str (Str.ofString "z"), .str (Str.ofString "")]) = G4 at row4 it1 it2 d34 hp4 ⊢
      refine ⟨_, rfl, r, rfl, row4, fun u Gu du su bu => ⟨by show 2 ≤ sizeLine; decide, fun t2 ht2 => ?_⟩⟩
      have it1 := (it1.dr row4 du).ex (Ex.new (o := .tup [u, .str (Str.ofString "")]) ht2)
      have it2 := (it2.dr row4 du).ex (Ex.new (o := .tup [u, .str (Str.ofString "")]) ht2)
      have it3 : OddIt (upd Gu t2 (.tup [u, .str (Str.ofString "")])) (.ref t2) := .pt upd_same (su.mono (Ex.new ht2)) bu
      have row5 := du.row.ex (Ex.new (o := .tup [u, .str (Str.ofString "")]) ht2)
      have d5 := (d34.trans du).ex (Ex.new (o := .tup [u, .str (Str.ofString "")]) ht2)
      have hp5 := (Ex.new (o := .tup [u, .str (Str.ofString "")]) ht2) _ _ (du.kp _ _ hpr hp4)
      generalize upd Gu t2 (.tup [u, .str (Str.ofString "")]) = G5 at row5 it1 it2 it3 d5 hp5 ⊢
      refine ⟨_, rfl, r, rfl, row5, fun wv Gw dw sw bw => ⟨by show 2 ≤ sizeLine; decide, fun t3 ht3 => ?_⟩⟩
      have it1 := (it1.dr row5 dw).ex (Ex.new (o := .tup [.str (Str.ofString "z"), wv]) ht3)
      have it2 := (it2.dr row5 dw).ex (Ex.new (o := .tup [.str (Str.ofString "z"), wv]) ht3)
      have it3 := (it3.dr row5 dw).ex (Ex.new (o := .tup [.str (Str.ofString "z"), wv]) ht3)
      have it4 : OddIt (upd Gw t3 (.tup [.str (Str.ofString "z"), wv])) (.ref t3) := .wt upd_same (sw.mono (Ex.new ht3)) bw
      have row6 := dw.row.ex (Ex.new (o := .tup [.str (Str.ofString "z"), wv]) ht3)
      have d6 := (d5.trans dw).ex (Ex.new (o := .tup [.str (Str.ofString "z"), wv]) ht3)
      have hp6 := (Ex.new (o := .tup [.str (Str.ofString "z"), wv]) ht3) _ _ (dw.kp _ _ hpr hp5)
      generalize upd Gw t3 (.tup [.str (Str.ofString "z"), wv]) = G6 at row6 it1 it2 it3 it4 d6 hp6 ⊢
      refine ⟨by show 3 ≤ sizeLine; decide, fun t4 ht4 => ⟨by show 8 ≤ sizeLine; decide, fun o ho => ?_⟩⟩
      have e7 : Ex G6 (upd (upd G6 t4 (.tup [.str (Str.ofString "z"), .str (Str.ofString ""), .str (Str.ofString "")])) o (.lst [.non, .ref t1, .ref l1, .ref t2, .ref t3, .ref t4, .int 0, .str (Str.ofString "z")])) := (Ex.new ht4).trans (Ex.new ho)
      have neo : o ≠ r := (row6.ex (Ex.new ht4)).ne_new ho
      have it1 := it1.ex e7
      have it2 := it2.ex e7
      have it3 := it3.ex e7
      have it4 := it4.ex e7
      have it5 : OddIt (upd (upd G6 t4 (.tup [.str (Str.ofString "z"), .str (Str.ofString ""), .str (Str.ofString "")])) o (.lst [.non, .ref t1, .ref l1, .ref t2, .ref t3, .ref t4, .int 0, .str (Str.ofString "z")])) (.ref t4) := .t3 ((Ex.new ho) _ _ upd_same)
      have row7 := row6.ex e7
      have d7 := d6.ex e7
      have hp7 := e7 _ _ hp6
      have ho7 : (upd (upd G6 t4 (.tup [.str (Str.ofString "z"), .str (Str.ofString ""), .str (Str.ofString "")])) o (.lst [.non, .ref t1, .ref l1, .ref t2, .ref t3, .ref t4, .int 0, .str (Str.ofString "z")])) o = some (.lst [.non, .ref t1, .ref l1, .ref t2, .ref t3, .ref t4, .int 0, .str (Str.ofString "z")]) := upd_same
      generalize upd (upd G6 t4 (.tup [.str (Str.ofString "z"), .str (Str.ofString ""), .str (Str.ofString "")])) o (.lst [.non, .ref t1, .ref l1, .ref t2, .ref t3, .ref t4, .int 0, .str (Str.ofString "z")]) = G7 at row7 it1 it2 it3 it4 it5 d7 hp7 ho7 ⊢
      have odds : ∀ v ∈ ([.non, .ref t1, .ref l1, .ref t2, .ref t3, .ref t4, .int 0, .str (Str.ofString "z")] : List V), OddIt G7 v := by
        intro v hv
        simp only [List.mem_cons, List.not_mem_nil, or_false] at hv
        rcases hv with rfl | rfl | rfl | rfl | rfl | rfl | rfl | rfl
        · exact .non
        · exact it1
        · exact it2
        · exact it3
        · exact it4
        · exact it5
        · exact .i0
        · exact .sz
      -- bad = odd[..]
      refine ⟨_, rfl, draw (m := 8) (ev_var rfl) (ev_is (ev_len (ev_var rfl) (sq_of ho7)) rfl) row7 (by decide) (by decide) fun n G8 hn hm d8 => ?_⟩
      have hin : n.toNat < ([.non, .ref t1, .ref l1, .ref t2, .ref t3, .ref t4, .int 0, .str (Str.ofString "z")] : List V).length := by show n.toNat < 8; omega
      refine ⟨o, _, n, _, rfl, rfl, sq_of (d8.kp _ _ neo ho7), at_of (j := n.toNat) (by omega) (List.getElem?_eq_getElem hin), ?_⟩
      have ob := (odds _ (List.getElem_mem hin)).dr row7 d8
      generalize ([.non, .ref t1, .ref l1, .ref t2, .ref t3, .ref t4, .int 0, .str (Str.ofString "z")] : List V)[n.toNat] = b0 at ob ⊢
      have d08 : Dr K r H G8 := d7.trans d8
      have hp8 : G8 p = some hto := d08.kp _ _ hpr hp
      have files : ∀ {G}, Dr K r H G → Paired (FileAt G) xs fs := fun d => by
        obtain ⟨rl, hrl⟩ := row.at
        exact paired_mono pf fun _ _ z => FileAt.kp z hrl d.kp
      refine q_cut (M := fun σ' G => ∃ (b : V) (oo : Option Fl) (u2 u3 u5 u7 u8 : Option V), σ' = [some (.ref r), some (.ref p), u2, u3, some (.int (i : Int)), u5, some b, u7, u8] ∧ Dr K r H G ∧ Itm K G b oo ∧ (∀ f, oo = some f → follow f.1 (fs.take i) = false)) ?_ ?_
      · refine s_when (b := decide (kd < 3) && decide ((0 : Int) < (i : Int))) (et_and (et_test (ev_op (ev_var rfl) ev_c rv_I0)) fun _ => et_test (ev_op (ev_var rfl) ev_c rv_I0)) (fun hb9 F1 e9 => ?_) (fun _ F1 e9 => ⟨b0, none, _, _, _, _, _, rfl, d08.ex e9, (ob.ex e9).fil, by intro f z; cases z⟩)
        have hipos : 0 < i := by
          simp only [Bool.and_eq_true, decide_eq_true_eq] at hb9
          omega
        have d9 : Dr K r H F1 := d08.ex e9
        refine ⟨_, rfl, draw (m := (i : Int)) (ev_var rfl) (ev_var rfl) d9.row (by omega) (by omega) fun j F2 hj0 hj1 d10 => ?_⟩
        have d2 : Dr K r H F2 := d9.trans d10
        have hp10 := d2.kp _ _ hpr hp
        have jlt : j.toNat < xs.length := by omega
        obtain ⟨f, hf, bj, ebj, hbj⟩ := paired_get (files d2) (List.getElem?_eq_getElem jlt)
        have llt : i - 1 < xs.length := by omega
        obtain ⟨g, hg, bg, ebg, hbg⟩ := paired_get (files d2) (List.getElem?_eq_getElem llt)
        refine ⟨p, xs, j, _, rfl, rfl, hc.st hp10, at_of (j := j.toNat) (by omega) (List.getElem?_eq_getElem jlt), ?_⟩
        rw [ebj]
        have hatg : atI xs ((i : Int) - 1) = some (.ref bg) := at_of (j := i - 1) (by omega) (by rw [List.getElem?_eq_getElem llt, ebg])
        have gok := tree_okF ok (List.mem_of_getElem? hg)
        have fok := tree_okF ok (List.mem_of_getElem? hf)
        have gp := (tree_mem ok (List.mem_of_getElem? hg)).1
        have ga := allP_ok _ gp
        refine ⟨_, rfl, _, rfl, bj, _, 0, _, rfl, rfl, st_of hbj, rfl, by show 2 ≤ sizeLine; decide, fun q1 hq1 => ?_⟩
        have e11 : Ex F2 (upd F2 q1 (.tup [.str f.1, .str (Str.ofString "other")])) := Ex.new hq1
        have h11 : (upd F2 q1 (.tup [.str f.1, .str (Str.ofString "other")])) q1 = some (.tup [.str f.1, .str (Str.ofString "other")]) := upd_same
        show tCons (tTup _) _ _ (upd F2 q1 (.tup [.str f.1, .str (Str.ofString "other")])) _
        have d3 := d2.ex e11
        generalize upd F2 q1 (.tup [.str f.1, .str (Str.ofString "other")]) = F3 at e11 h11 d3 ⊢
        refine ⟨_, rfl, _, rfl, _, _, rfl, rfl, p, xs, _, _, rfl, rfl, hc.st (e11 _ _ hp10), hatg, bg, _, 0, _, rfl, rfl, st_of (e11 _ _ hbg), rfl, _, _, rfl, rfl, Nat.le_trans (Nat.add_le_add_right gok.1.1 2) (by rw [sizeLine_eq]; decide), by show 2 ≤ sizeLine; decide, fun q2 hq2 => ⟨by show 3 ≤ sizeLine; decide, fun o3 ho3 => ?_⟩⟩
        have e12 : Ex F3 (upd (upd F3 q2 (.tup [.str (g.1 ++ Str.ofString "/z"), .str (Str.ofString "")])) o3 (.lst [.ref bj, .ref q1, .ref q2])) := (Ex.new hq2).trans (Ex.new ho3)
        have h12 : (upd (upd F3 q2 (.tup [.str (g.1 ++ Str.ofString "/z"), .str (Str.ofString "")])) o3 (.lst [.ref bj, .ref q1, .ref q2])) q2 = some (.tup [.str (g.1 ++ Str.ofString "/z"), .str (Str.ofString "")]) := (Ex.new ho3) _ _ upd_same
        have o12 : (upd (upd F3 q2 (.tup [.str (g.1 ++ Str.ofString "/z"), .str (Str.ofString "")])) o3 (.lst [.ref bj, .ref q1, .ref q2])) o3 = some (.lst [.ref bj, .ref q1, .ref q2]) := upd_same
        have neo3 : o3 ≠ r := (d3.row.ex (Ex.new hq2)).ne_new ho3
        have d4 := d3.ex e12
        generalize upd (upd F3 q2 (.tup [.str (g.1 ++ Str.ofString "/z"), .str (Str.ofString "")])) o3 (.lst [.ref bj, .ref q1, .ref q2]) = F4 at e12 h12 o12 d4 ⊢
        refine draw (m := 3) (ev_var rfl) ev_c d4.row (by decide) (by decide) fun n3 F5 hn30 hn33 d5' => ?_
        have d5 := d4.trans d5'
        obtain ⟨rl4, hrl4⟩ := d4.row.at
        have tup5 : ∀ {b : Addr} {l : List V}, F4 b = some (.tup l) → F5 b = some (.tup l) := fun hb => d5'.kp _ _ (ne_of hb hrl4 (by intro z; cases z)) hb
        have hn3 : n3.toNat < ([.ref bj, .ref q1, .ref q2] : List V).length := by show n3.toNat < 3; omega
        refine ⟨o3, _, n3, _, rfl, rfl, sq_of (d5'.kp _ _ neo3 o12), at_of (j := n3.toNat) (by omega) (List.getElem?_eq_getElem hn3), ?_⟩
        have fdup : follow f.1 (fs.take i) = false := follow_dup ok hi (by omega : j.toNat < i) hf
        have e24 : Ex F2 F4 := e11.trans e12
        have hbj5 := tup5 (e24 _ _ hbj)
        have hbg5 := tup5 (e24 _ _ hbg)
        have hp5' : F5 p = some hto := d5'.kp _ _ hpr (e24 _ _ hp10)
        refine s_when (b := decide (V.int ((Txt.split g.1 (Str.ofString "/")).length : Int) = V.int 3)) (et_test (ev_op (ev_is (ev_lenN (el_split (ev_op (ev_op (ev_var rfl) (ev_op (ev_var rfl) ev_c rv_I0) (rv_ixT (hc.st hp5') hatg)) ev_c (rv_ixT (st_of hbg5) rfl)) ev_c (by decide) (Nat.le_trans gok.1.1 (by decide)))) (by rw [List.length_map])) ev_c (rv_eq rfl))) (fun hb6 F6 e6 => ?_) (fun hb6 F6 e6 => ?_)
        · exact ⟨_, rfl, .ref bj, some f, _, _, _, _, _, rfl, d5.ex e6, ⟨⟨bj, rfl, e6 _ _ hbj5⟩, fok⟩, by intro f' z; cases z; exact fdup⟩
        · have h3 : (Txt.split g.1 (Str.ofString "/")).length ≠ 3 := by
            intro z
            rw [z] at hb6
            simp at hb6
          have gg := ga.2.2.2.resolve_left h3
          obtain ⟨b1, oo, eb1, it1, fo1⟩ : ∃ b1 oo, ([.ref bj, .ref q1, .ref q2] : List V)[n3.toNat] = b1 ∧ Itm K F6 b1 oo ∧ (∀ f', oo = some f' → follow f'.1 (fs.take i) = false) := by
            have : n3.toNat = 0 ∨ n3.toNat = 1 ∨ n3.toNat = 2 := by omega
            rcases this with z | z | z
            · refine ⟨.ref bj, some f, by simp only [z]; rfl, ⟨⟨bj, rfl, e6 _ _ hbj5⟩, fok⟩, by intro f' z; cases z; exact fdup⟩
            · refine ⟨.ref q1, some (f.1, Str.ofString "other"), by simp only [z]; rfl, ⟨⟨q1, rfl, e6 _ _ (tup5 (e12 _ _ h11))⟩, ⟨fok.1.1, by show (Str.ofString "other").length ≤ 1000; decide, fok.1.2.2.1, by show PyData.strOk (Str.ofString "other") = true; decide +kernel⟩, ?_⟩, by intro f' z; cases z; exact fdup⟩
              have h1 : pathB f.1 = true := (Bool.and_eq_true_iff.mp fok.2).1
              show (pathB f.1 && textB (Str.ofString "other")) = true
              rw [h1]
              decide +kernel
            · refine ⟨.ref q2, some (g.1 ++ Str.ofString "/z", Str.ofString ""), by simp only [z]; rfl, ⟨⟨q2, rfl, e6 _ _ (tup5 h12)⟩, ⟨gg.2.2.2.2, by show (Str.ofString "").length ≤ 1000; decide, gg.2.2.2.1, by show PyData.strOk (Str.ofString "") = true; decide +kernel⟩, ?_⟩, fun f' z => ?_⟩
              · show (pathB (g.1 ++ Str.ofString "/z") && textB (Str.ofString "")) = true
                rw [gg.2.1]
                decide +kernel
              · cases z
                have q := follow_in (i := i - 1) hg gg.2.2.1
                have e1 : i - 1 + 1 = i := by omega
                rw [e1] at q
                exact q
          exact ⟨b1, oo, _, _, _, _, _, by rw [← eb1]; rfl, d5.ex e6, it1, fo1⟩
      · rintro σ' G ⟨b, oo, u2, u3, u5, u7, u8, rfl, d, it, hf⟩
        have hpG := d.kp _ _ hpr hp
        have val := ex_cat (K := K) (σ := [some (.ref r), some (.ref p), u2, u3, some (.int (i : Int)), u5, some b, u7, u8]) (H := G) (ex_cat (K := K) (ex_to (K := K) (ev_var (i := 1) rfl) (ev_var (i := 4) rfl) hpG hc (by omega)) (ex_tup (ea_cons (ev_var (i := 6) (v := b) rfl) ea_nil) (by show 1 ≤ 100000; decide)) (by rw [List.length_take]; show _ + 1 ≤ _; omega))
          (ex_from (K := K) (ev_var (i := 1) rfl) (ev_var (i := 4) rfl) hpG hc (by omega)) (by simp only [List.length_append, List.length_take, List.length_drop, List.length_cons, List.length_nil]; omega)
        refine val G (Ex.refl _) _ fun q oq G2 eq hq cq => ⟨_, rfl, by show 2 ≤ sizeLine; decide, fun l hl => ?_⟩
        have eAll : Ex G (upd G2 l (.lst [.ref q, .int (i : Int)])) := eq.trans (Ex.new hl)
        exact k l _ _ _ (d.ex eAll) upd_same (tr_spoilt ((Ex.new hl) _ _ hq) cq (files (d.ex eAll)) ok hi (it.mono eAll) hf) (.inr ⟨i, rfl⟩)
end
end Bt
namespace Bt
open PySem PySem.Spec PyProof.Rows L2 Bk Bm Evl Be Cr Bp Bl TL
section
variable {K : PySem.W.Frag} {H G : Hp} {r : Addr} {v : V}
theorem Kd.dr {n : String} (h : Kd K H v n) (row : Row K H r) (d : Dr K r H G) : Kd K G v n := by
  obtain ⟨rl, hr⟩ := row.at
  obtain ⟨rl', hr'⟩ := d.row.at
  obtain ⟨t, k⟩ := h
  refine ⟨?_, k⟩
  cases t with
  | base t =>
    refine .base ?_
    cases t with
    | non => exact .non
    | bl b => exact .bl b
    | int i => exact .int i
    | str x => exact .str x
    | flt x => exact .flt x
    | @lst a xs h =>
      by_cases c : a = r
      · subst c; exact .lst hr'
      · exact .lst (d.kp _ _ c h)
    | frz h => exact .frz (d.kp _ _ (ne_of h hr (by intro z; cases z)) h)
    | tup h => exact .tup (d.kp _ _ (ne_of h hr (by intro z; cases z)) h)
    | dK h => exact .dK (d.kp _ _ (ne_of h hr (by intro z; cases z)) h)
    | dT h => exact .dT (d.kp _ _ (ne_of h hr (by intro z; cases z)) h)
  | byt b => exact .byt b
  | set h => exact .set (d.kp _ _ (ne_of h hr (by intro z; cases z)) h)
  | kList h c => exact .kList h c
  | kTuple h c => exact .kTuple h c
  | kDict h c => exact .kDict h c
  | fTuple h => exact .fTuple (d.kp _ _ (ne_of h hr (by intro z; cases z)) h)
  | fDict h => exact .fDict (d.kp _ _ (ne_of h hr (by intro z; cases z)) h)
theorem Fil.dr {b : Bool} (h : Fil K H v b) (row : Row K H r) (d : Dr K r H G) : Fil K G v b := by
  obtain ⟨rl, hr⟩ := row.at
  cases h with
  | no k h => exact .no (Kd.dr k row d) h
  | len h hl hz => exact .len (d.kp _ _ (ne_of h hr (by intro z; cases z)) h) hl hz
  | two h hu hw => exact .two (d.kp _ _ (ne_of h hr (by intro z; cases z)) h) (Sm.dr hu row d) (Sm.dr hw row d)
theorem Itm.dr {o : Option Fl} (h : Itm K H v o) (row : Row K H r) (d : Dr K r H G) : Itm K G v o := by
  obtain ⟨rl, hr⟩ := row.at
  cases o with
  | some f => exact ⟨FileAt.kp h.1 hr d.kp, h.2⟩
  | none => exact Fil.dr h row d
theorem Tr.dr {o : Option V} (h : Tr K H v o) (row : Row K H r) (d : Dr K r H G) : Tr K G v o := by
  obtain ⟨rl, hr⟩ := row.at
  cases h with
  | no k h => exact .no (Kd.dr k row d) h
  | big h hl => exact .big (d.kp _ _ (ne_of h hr (by intro z; cases z)) h) hl
  | tup h hc hl hp => exact .tup (d.kp _ _ (ne_of h hr (hc.nl _)) h) hc hl (paired_mono hp fun _ _ z => Itm.dr z row d)
theorem good_tr {p : Addr} {o : HO} {xs : List V} {fs : List Fl} (hp : H p = some o) (hc : IsTU o xs) (pf : Paired (FileAt H) xs fs) (ok : TreeOk fs) : Tr K H (.ref p) none := by
  have hl := paired_len pf
  have h8 := tree_len ok
  have t := Tr.tup (K := K) hp hc (by omega) (itm_files pf fun f hf => tree_okF ok hf)
  rw [fb_tree ok] at t
  exact t
end
section
variable {P : Program} {w : World} {K : PySem.W.Frag} {mg : Str → Option Value} {base : Heap}
end
end Bt
namespace Kr
open PySem PySem.Spec PyProof.Rows L2 Bk Bm Evl Be
theorem walk_w {J : It} {n : Nat} {Gd : Hp → Prop} {Y : Nat → Hp → V → Hp → Prop} (w : Walk J n Gd Y) {F0 : Hp} {Qd : Hp → Prop} {Step : (Hp → Prop) → V → Hp → Prop} (Pv : Nat → Hp → Prop) (h0 : Pv 0 F0) (hG : ∀ i F, i ≤ n → Pv i F → Gd F)
    (hs : ∀ i x F F', i < n → Pv i F → Y i F x F' → Step (Pv (i + 1)) x F') (hd : ∀ F, Pv n F → Qd F) :
    ∃ Wk : Nat → Nat → Hp → Prop, (∃ m, Wk 0 m F0) ∧ ∀ i m F, Wk i m F → (J.stop i F ∧ Qd F) ∨ (J.go i F ∧ ∃ Nx : Hp → Prop, (∀ F', Nx F' → ∃ m', m' < m ∧ Wk (i + 1) m' F') ∧ ∀ x F', J.yld i F x F' → Step Nx x F') := by
  refine ⟨fun i m F => m + i = n ∧ Pv i F, ⟨n, Nat.add_zero n, h0⟩, fun i m F ⟨hm, p⟩ => ?_⟩
  have q := hG i F (by omega) p
  cases m with
  | zero =>
    have e : i = n := by omega
    subst e
    exact .inl ⟨w.stops F q, hd F p⟩
  | succ m => exact .inr ⟨w.goes i F (by omega) q, Pv (i + 1), fun F' p' => ⟨m, Nat.lt_succ_self m, by omega, p'⟩, fun x F' y => hs i x F F' (by omega) p (w.yields i F x F' (by omega) q y)⟩
end Kr
namespace Bt
open PySem PySem.Spec PyProof.Rows L2 Bk Bm Evl Be Cr Kr Bp Bl TL
abbrev sMade : Stmt := top 29
def tNo : TE := fun _ _ _ => False
def tNoT : TT := fun _ _ _ => False
theorem pe_no {X : Cx} {e : Expr} : PE X e tNo := ⟨fun _ _ _ _ _ _ h => h.elim⟩
theorem pt_no {X : Cx} {e : Expr} : PT X e tNoT := ⟨fun _ _ _ _ _ _ h => h.elim⟩
section
variable {K : PySem.W.Frag} {H G : Hp} {r : Addr} {v : V}
theorem slice_toU {σ : L2.St} {te ti : TE} {a : Addr} {xs : List V} {i : Nat} (h : Ev te σ H (.ref a)) (hi : Ev ti σ H (.int (i : Int))) (hx : H a = some (.tup xs)) (hl : i ≤ xs.length) :
    ∀ H1, Ex H H1 → ∀ Q : VK, (∀ p H2, Ex H1 H2 → H2 p = some (.tup (xs.take i)) → Q (.ref p) H2) → tSl (rSlA K) te tNoPart (tPart ti) σ H1 Q := fun H1 e Q q =>
  h H1 e _ fun H2 e2 => hi H2 (e.trans e2) _ fun H3 e3 => ⟨(i : Int), rfl, a, xs, rfl, st_of (((e.trans e2).trans e3) _ _ hx), by
    have c1 : HT.sIx xs.length 0 none = 0 := HT.sIx_none _ _
    have c2 : HT.sIx xs.length xs.length (some (i : Int)) = i := by rw [HT.sIx_nat]; omega
    rw [cut_to hl, c1, c2]
    refine ⟨fun z => ?_, fun z p hp => q p _ ((e2.trans e3).trans (Ex.new hp)) upd_same⟩
    have z2 : xs.take i = xs := by rw [z.2]; exact List.take_length
    refine q a H3 (e2.trans e3) ?_
    rw [z2]
    exact ((e.trans e2).trans e3) _ _ hx⟩
theorem slice_fromU {σ : L2.St} {te ti : TE} {a : Addr} {xs : List V} {i : Nat} (h : Ev te σ H (.ref a)) (hi : Ev ti σ H (.int (i : Int))) (hx : H a = some (.tup xs)) (hl : i ≤ xs.length) :
    ∀ H1, Ex H H1 → ∀ Q : VK, (∀ p H2, Ex H1 H2 → H2 p = some (.tup (xs.drop i)) → Q (.ref p) H2) → tSl (rSlA K) te (tPart ti) tNoPart σ H1 Q := fun H1 e Q q =>
  h H1 e _ fun H2 e2 => hi H2 (e.trans e2) _ fun H3 e3 => ⟨(i : Int), rfl, a, xs, rfl, st_of (((e.trans e2).trans e3) _ _ hx), by
    have c1 : HT.sIx xs.length 0 (some (i : Int)) = i := by rw [HT.sIx_nat]; omega
    have c2 : HT.sIx xs.length xs.length none = xs.length := HT.sIx_none _ _
    have c3 : cutV xs (some (i : Int)) none = xs.drop i := by
      unfold cutV
      rw [c1, c2]
      exact List.take_of_length_le (by rw [List.length_drop]; omega)
    rw [c1, c2]
    refine ⟨fun z => ?_, fun z p hp => q p _ ((e2.trans e3).trans (Ex.new hp)) (by rw [c3]; exact upd_same)⟩
    have z2 : xs.drop i = xs := by rw [z.1]; rfl
    refine q a H3 (e2.trans e3) ?_
    rw [z2]
    exact ((e.trans e2).trans e3) _ _ hx⟩
theorem catU_go {a b : Addr} {xs ys : List V} {Q : VK} (ha : G a = some (.tup xs)) (hb : G b = some (.tup ys)) (hz : xs.length + ys.length ≤ 100000) (k : ∀ p G', Ex G G' → G' p = some (.tup (xs ++ ys)) → Q (.ref p) G') : rCatA K (.ref a) (.ref b) G Q := by
  refine ⟨a, b, xs, ys, rfl, rfl, st_of ha, st_of hb, sz_of hz, fun z => k b G (Ex.refl _) (by rw [z]; exact hb), fun _ z => k a G (Ex.refl _) (by rw [z, List.append_nil]; exact ha), fun _ _ p hp => k p _ (Ex.new hp) upd_same⟩
end
section
variable {P : Program} {w : World} {K : PySem.W.Frag} {mg : Str → Option Value} {base : Heap} {C fI pR fG fL fE Cb Cr Cx Ct Cu : Addr}
theorem kit_own {n : String} (h1 : PySem.W.isClsIn K C = true) (h2 : PySem.W.typeIn K (.ref C) = some (.type "type")) (hn : n ∈ (["NoneType", "bool", "int", "str", "list", "tuple", "dict"] : List String)) : PySem.W.kitOne K (.type n) (.ref C) = some false := by
  unfold PySem.W.kitOne
  rw [if_neg (by intro z; cases z)]
  have e : ((PySem.W.clsIn K C).isSome && PySem.W.typeIn K (.ref C) == some (.type "type")) = true := by
    rw [h2]
    have h1' : (PySem.W.clsIn K C).isSome = true := h1
    rw [h1']
    rfl
  show (if ((PySem.W.clsIn K C).isSome && PySem.W.typeIn K (.ref C) == some (.type "type")) = true then PySem.W.subIn K (.type n) (.ref C) else none) = some false
  rw [if_pos e]
  simp only [List.mem_cons, List.not_mem_nil, or_false] at hn
  rcases hn with rfl | rfl | rfl | rfl | rfl | rfl | rfl <;> rfl
theorem ev_isN {σ : L2.St} {H : Hp} {te tx : TE} {v : V} {n : String} (h1 : PySem.W.isClsIn K C = true) (h2 : PySem.W.typeIn K (.ref C) = some (.type "type")) (h : Ev te σ H v) (hc : Ev tx σ H (.ref C)) (k : Kd K H v n) : Ev (tCB (rIsi K) (tCons te (tCons tx tNil))) σ H (.bl false) := fun H1 e Q q =>
  h H1 e _ fun H2 e2 => hc H2 (e.trans e2) _ fun H3 e3 => by
    obtain ⟨ty, kk⟩ := id (k.mono ((e.trans e2).trans e3))
    exact ⟨v, .ref C, .type n, .ref C, _, rfl, .own C, ty, kit_own h1 h2 kk, q H3 (e2.trans e3)⟩
end
theorem cons_raw {te : TE} {ta : TA} {σ : L2.St} {G : Hp} {Q : List V → Hp → Prop} (h : te σ G fun x H1 => ta σ H1 fun xs H2 => Q (x :: xs) H2) : tCons te ta σ G Q := h
theorem parq_raw {i j : Nat} {ta : TA} {tz : TS} {De : Ends} {σ : L2.St} {H : Hp} (h : ta σ H fun vs H1 => ∃ v w, vs = [v, w] ∧ tz De ((σ.set i (some v)).set j (some w)) H1) : tSeq (tPar i j ta) tz De σ H := h
abbrev tListOf (K : PySem.W.Frag) (te : TE) : TE := tCB (fun xs H Q => ∃ p ys, xs = [V.ref p] ∧ (SqL K H p ys ∨ SqT K H p ys) ∧ ∀ (l : Addr), H l = none → Q (V.ref l) (upd H l (HO.lst ys))) (tCons te tNil)
abbrev ltS (a b : Str) : Prop := a.cps.toList < b.cps.toList
def AscS (ns : List Str) : Prop := ns.Pairwise ltS
theorem AscS.nodup {ns : List Str} (h : AscS ns) : ns.Nodup := h.imp fun {a b} l z => by
  rw [z] at l
  exact List.lt_irrefl _ l
theorem ascS_ext {a b : List Str} (ha : AscS a) (hb : AscS b) (h : ∀ g, g ∈ a ↔ g ∈ b) : a = b :=
  ((List.perm_ext_iff_of_nodup ha.nodup hb.nodup).mpr h).eq_of_pairwise (le := ltS) (fun x y _ _ h1 h2 => absurd (List.lt_trans h1 h2) (List.lt_irrefl _)) ha hb
theorem str_ext {a b : Str} (h : a.cps.toList = b.cps.toList) : a = b := by
  obtain ⟨a⟩ := a
  obtain ⟨b⟩ := b
  have : a = b := Array.toList_inj.mp h
  rw [this]
theorem lt_of_nle {a b : Str} (h : ¬ ltS b a) (n : a ≠ b) : ltS a b := by
  rcases Classical.em (ltS a b) with z | z
  · exact z
  · exact absurd (str_ext (List.le_antisymm (List.not_lt.mp h) (List.not_lt.mp z))) n
theorem rising_all : ∀ (r : List Str) (p : Str), risingS p r = true → (∀ x ∈ r, ¬ ltS x p) ∧ r.Pairwise fun a b => ¬ ltS b a
  | [], _, _ => ⟨fun _ h => (nomatch h), .nil⟩
  | x :: r, p, h => by
    have h1 : (!ltCps x.cps.toList p.cps.toList && risingS x r) = true := h
    rw [ltCps_eq] at h1
    simp only [Bool.and_eq_true, Bool.not_eq_true', decide_eq_false_iff_not] at h1
    obtain ⟨i1, i2⟩ := rising_all r x h1.2
    refine ⟨fun y hy => ?_, .cons (fun y hy => i1 y hy) i2⟩
    rcases List.mem_cons.mp hy with rfl | hy
    · exact h1.1
    · exact fun z => h1.1 (List.lt_of_le_of_lt (List.not_lt.mp (i1 y hy)) z)
theorem sorted_pw : ∀ (ns : List Str), sortedS ns = true → ns.Pairwise fun a b => ¬ ltS b a
  | [], _ => .nil
  | x :: r, h => by
    obtain ⟨a, b⟩ := rising_all r x h
    exact .cons a b
theorem asc_names {ns : List Str} (so : sortedS ns = true) (nd : ns.Nodup) : AscS ns := by
  have h := (sorted_pw ns so).and nd
  exact h.imp fun {a b} z => lt_of_nle z.1 z.2
section
variable {K : PySem.W.Frag} {σ : L2.St} {H G : Hp} {r C : Addr} {xs : List V}
/-- an expression that comes to a value of a kind -/
def EvP (te : TE) (σ : L2.St) (H : Hp) (F : Hp → V → Prop) : Prop := ∀ H1, Ex H H1 → ∀ Q : VK, (∀ v H2, Ex H1 H2 → F H2 v → Q v H2) → te σ H1 Q
def EvPs (ta : TA) (σ : L2.St) (H : Hp) (F : Hp → V → Prop) (n : Nat) : Prop := ∀ H1, Ex H H1 → ∀ Q : List V → Hp → Prop, (∀ vs H2, Ex H1 H2 → (∀ v ∈ vs, F H2 v) → vs.length = n → Q vs H2) → ta σ H1 Q
theorem evp_nil {F : Hp → V → Prop} : EvPs tNil σ H F 0 := fun H1 _ _ q => q [] H1 (Ex.refl _) (fun _ h => by cases h) rfl
theorem evp_cons {F : Hp → V → Prop} {te : TE} {ta : TA} {n : Nat} (fm : ∀ {H G v}, F H v → Ex H G → F G v) (h : EvP te σ H F) (hs : EvPs ta σ H F n) : EvPs (tCons te ta) σ H F (n + 1) := fun H1 e Q q =>
  h H1 e _ fun v H2 e2 hv => hs H2 (e.trans e2) _ fun vs H3 e3 hvs hn => q (v :: vs) H3 (e2.trans e3) (fun u hu => by
    rcases List.mem_cons.mp hu with rfl | hu
    · exact fm hv e3
    · exact hvs u hu) (by rw [List.length_cons, hn])
theorem evp_c {F : Hp → V → Prop} {v : V} (h : ∀ H, F H v) : EvP (tC v) σ H F := fun H1 _ _ q => q v H1 (Ex.refl _) (h _)
theorem evp_tup1 {F : Hp → V → Prop} {v : V} (h : ∀ H a, H a = some (.tup [v]) → F H (.ref a)) : EvP (tTup (tCons (tC v) tNil)) σ H F := fun H1 _ _ q => ⟨by show 1 ≤ sizeLine; decide, fun p hp => q _ _ (Ex.new hp) (h _ p upd_same)⟩
theorem evp_dict {F : Hp → V → Prop} (h : ∀ H a, H a = some (.dK []) → F H (.ref a)) : EvP tDNewK σ H F := fun H1 _ _ q p hp => q _ _ (Ex.new hp) (h _ p upd_same)
/-- what is told of a refused tree, as data -/
theorem told {u : V} (h : u = .non ∨ ∃ i : Nat, u = .int (i : Int)) : ∃ dU, (∀ G, Dp K G u dU) ∧ SeqAt.shaped (.list [.str (Str.ofString "tree"), dU]) = true ∧ PyData.eqv (.list [.str (Str.ofString "tree"), dU]) (.list [.str (Str.ofString "tree"), dU]) = true := by
  rcases h with rfl | ⟨i, rfl⟩
  · exact ⟨.none, fun _ => .non, by decide +kernel, by decide +kernel⟩
  · refine ⟨.int i, fun _ => .int _, ?_, ?_⟩
    · show (PyData.canLayAll0 [.str (Str.ofString "tree"), .int i] && decide (PyData.depth (.list [.str (Str.ofString "tree"), .int i]) ≤ 64)) = true
      have h1 : PyData.canLayAll0 [.str (Str.ofString "tree"), .int i] = true := by
        show (PyData.strOk (Str.ofString "tree") && (true && true)) = true
        decide +kernel
      have h2 : PyData.depth (.list [.str (Str.ofString "tree"), .int i]) ≤ 64 := by
        simp [PyData.depth, PyData.depthAll]
      rw [h1, decide_eq_true h2]
      rfl
    · simp [PyData.eqv, PyData.eqvAll]
theorem tup_dr {t : Addr} {ys : List V} (h : H t = some (.tup ys)) (row : Row K H r) (d : Dr K r H G) : G t = some (.tup ys) := by
  obtain ⟨rl, hr⟩ := row.at
  exact d.kp _ _ (ne_of h hr (by intro z; cases z)) h
theorem BkAt.dr {a : Addr} {v : V} (h : BkAt H C a v) (row : Row K H r) (d : Dr K r H G) : BkAt G C a v := by
  obtain ⟨rl, hr⟩ := row.at
  obtain ⟨dx, h⟩ := h
  exact ⟨dx, d.kp _ _ (ne_of h hr (by intro z; cases z)) h⟩
/-- a draw from a list of such values -/
theorem drawP {ta : TE} {tl : TA} {F : Hp → V → Prop} {n : Nat} {Q : VK} (fm : ∀ {H G v}, F H v → Ex H G → F G v) (fd : ∀ {H G v}, F H v → Row K H r → Dr K r H G → F G v) (hr : Ev ta σ H (.ref r)) (hl : EvPs tl σ H F n) (row : Row K H r) (h0 : 0 < n) (h1 : n ≤ 1000)
    (k : ∀ v G, F G v → Dr K r H G → Q v G) : tCall (spOne (K := K)) [] E0 (tCons ta (tCons (tLst tl) tNil)) σ H Q :=
  hr H (Ex.refl _) _ fun H1 e1 => hl H1 e1 _ fun vs H2 e2 hvs hn => ⟨sz_of (by omega), fun p hp => ⟨r, p, vs, rfl, row.ex ((e1.trans e2).trans (Ex.new hp)), (row.ex (e1.trans e2)).ne_new hp, upd_same, by omega, by omega, fun v G hv d =>
    k v G (fd (fm (hvs v hv) (Ex.new hp)) (row.ex ((e1.trans e2).trans (Ex.new hp))) d) (Dr.pre ((e1.trans e2).trans (Ex.new hp)) d)⟩⟩
/-- an item of such a list, by a draw -/
theorem ixP {ta : TE} {tl : TA} {F : Hp → V → Prop} {n : Nat} {Q : VK} (fm : ∀ {H G v}, F H v → Ex H G → F G v) (fd : ∀ {H G v}, F H v → Row K H r → Dr K r H G → F G v) (hr : Ev ta σ H (.ref r)) (hl : EvPs tl σ H F n) (row : Row K H r) (h0 : 0 < n) (h1 : n ≤ 1000)
    (k : ∀ v G, F G v → Dr K r H G → Q v G) : tOp (rIxL K) (tLst tl) (tCall (spTaken (K := K)) [] E0 (tCons ta (tCons (tC (.int (n : Int))) tNil))) σ H Q :=
  hl H (Ex.refl _) _ fun vs H2 e2 hvs hn => ⟨sz_of (by omega), fun p hp => by
    have e3 := e2.trans (Ex.new (o := .lst vs) hp)
    have row3 := row.ex e3
    have ne := (row.ex e2).ne_new hp
    refine draw (m := (n : Int)) (fun H1 e Q q => hr H1 (e3.trans e) Q q) ev_c row3 (by omega) (by omega) fun j G hj hjm d => ?_
    have hin : j.toNat < vs.length := by omega
    exact ⟨p, vs, j, vs[j.toNat], rfl, rfl, sq_of (d.kp _ _ ne upd_same), at_of (j := j.toNat) (by omega) (List.getElem?_eq_getElem hin), k _ G (fd (fm (hvs _ (List.getElem_mem hin)) (Ex.new hp)) row3 d) (Dr.pre e3 d)⟩⟩
/-- a value that is no book -/
def NB (K : PySem.W.Frag) (H : Hp) (v : V) : Prop := ∃ n, Kd K H v n
theorem NB.mono {v : V} (h : NB K H v) (e : Ex H G) : NB K G v := by
  obtain ⟨n, h⟩ := h
  exact ⟨n, h.mono e⟩
theorem NB.dr {v : V} (h : NB K H v) (row : Row K H r) (d : Dr K r H G) : NB K G v := by
  obtain ⟨n, h⟩ := h
  exact ⟨n, Kd.dr h row d⟩
end
section
variable {P : Program} {w : World} {K : PySem.W.Frag} {mg : Str → Option Value} {base : Heap} {C fI pR fG fL fE Cb Cr Cx Ct Cu : Addr}
/-- the same of a tuple -/
def spOneT : Sp := fun vs H Q _ => ∃ r t xs, vs = [.ref r, .ref t] ∧ Row K H r ∧ H t = some (.tup xs) ∧ 0 < xs.length ∧ xs.length < 1000000 ∧ ∀ v G, v ∈ xs → Dr K r H G → Q v G
theorem ok_oneT {f : Addr} {fd : FuncData} (F : Fun K "_law_one" "_law_one" sOne f fd) (T : Gv mg) (cT : Cal P w K mg base CX0 1 "_law_taken" ["_law_row", "_law_many"] (spTaken (K := K))) : FnOk P w K mg base CX0 2 f fd ["_law_row", "_law_things"] (spOneT (K := K)) := by
  refine F.ok scOne (fun vs H Q E h => ?_) (fun cdv A outer s H vs Q E hr h => ?_)
  · obtain ⟨r, t, xs, rfl, _⟩ := h
    rfl
  · obtain ⟨r, t, xs, rfl, row, ht, h0, h1, k⟩ := h
    refine ⟨_, pss_one (ps_ret (pe_ix (r := rIxT K) ix_tup (pv 1) (pe_call cT.F hr (by rfl) cT.g cT.kp cT.b .nil pass0 (pa_cons (pv 0) (pa_cons (pe_callB call_len_seq (by rfl) T.len PySem.boot_len (pa_cons (pv 1) pa_nil)) pa_nil))) (fun _ _ => rfl))), ?_⟩
    refine ⟨_, rfl, draw (m := (xs.length : Int)) (ev_var rfl) (ev_lenT (ev_var rfl) (st_of ht)) row (by omega) (by omega) fun n G hn hm d => ?_⟩
    have hin : n.toNat < xs.length := by omega
    refine ⟨t, xs, n, xs[n.toNat], rfl, rfl, st_of (tup_dr ht row d), ?_, k _ G (List.getElem_mem hin) d⟩
    exact at_of (j := n.toNat) (by omega) (List.getElem?_eq_getElem hin)
theorem mkbook_go {t : Addr} {H : Hp} {xs : List V} {gs : List (Str × PyData)} {Q : VK} (ht : H t = some (.tup xs)) (rs : RsAt H xs gs) (k : ∀ x G, Ex H G → H x = none → BkAt G C x (.ref t) → Q (.ref x) G) :
    ∀ x dx, H x = none → H dx = none → dx ≠ x → spInit (K := K) C Cu [.ref x, .ref t] (upd (upd H dx (.own x)) x (.ins C dx [])) (fun v H2 => v = .non ∧ Q (.ref x) H2) E0 := by
  intro x dx hx hdx ne
  have e1 : Ex H (upd (upd H dx (.own x)) x (.ins C dx [])) := (Ex.new hdx).trans (Ex.new (by rw [upd_ne ne.symm]; exact hx))
  exact ⟨x, dx, .ref t, none, rfl, upd_same, (rl_good ht rs).mono e1, fun _ G1 e2 => ⟨rfl, k x _ ((e1.trans e2).mut hx) hx ⟨dx, upd_same⟩⟩, fun u z => by cases z⟩
theorem mkbook_ev {σ : L2.St} {H : Hp} {te : TE} {t : Addr} {xs : List V} {gs : List (Str × PyData)} {Q : VK} (h : Ev te σ H (.ref t)) (ht : H t = some (.tup xs)) (rs : RsAt H xs gs) (k : ∀ x G, Ex H G → BkAt G C x (.ref t) → Q (.ref x) G) :
    tMake C (spInit (K := K) C Cu) [] E0 (tCons te tNil) σ H Q := h H (Ex.refl _) _ fun H1 e => mkbook_go (e _ _ ht) (rs.mono e) fun x G eG _ hb => k x G (e.trans eG) hb
def spMade (C : Addr) : Sp := fun vs H Q _ => ∃ a t xs ps, vs = [.ref a] ∧ BkAt H C a (.ref t) ∧ SqT K H t xs ∧ Heads H xs ps ∧ ps.length < 64 ∧ ∀ ys, ys.Perm ps → sortedS ys = true → RetL (ys.map V.str) H Q
theorem scMade : FnScope ["book", "rule"] ["book"] (defScope sMade) := ⟨rfl, rfl, rfl, by decide +kernel, rfl, by decide +kernel, by decide +kernel⟩
/-- sorted([rule[0] for rule in ..]) -/
theorem srt_heads {σ : L2.St} {H : Hp} {tl : TE} {j : Nat} {t : Addr} {xs : List V} {ps : List Str} {Q : VK} (hj : j < σ.length) (ht : Ev tl σ H (.ref t)) (hx : SqT K H t xs) (hh : Heads H xs ps) (hl : ps.length < 64)
    (k : ∀ ys, ys.Perm ps → sortedS ys = true → RetL (ys.map V.str) H Q) :
    tCB (rSortedS K) (tCons (tLc (iTup K tl) (gName j) tYes (tOp (rIxT K) (tVar j) (tC (.int 0))) [j]) tNil) σ H Q := by
  have hlen := pr_len hh
  have big : EvL (tLc (iTup K tl) (gName j) tYes (tOp (rIxT K) (tVar j) (tC (.int 0))) [j]) σ H (ps.map V.str) := by
    refine ev_isL (el_lcT (headV H) ht hx (by omega) fun x H1 e1 hxm => ?_) (heads_map hh)
    obtain ⟨z, hz, c, ts, rfl, hc⟩ := pr_mem hh hxm
    refine ev_is (ev_op (ev_var (by simp [hj])) ev_c (rv_ixT (st_of (e1 _ _ hc)) (atI_nat (j := 0) rfl))) ?_
    simp only [headV, hc]
  show tLc (iTup K tl) (gName j) tYes (tOp (rIxT K) (tVar j) (tC (.int 0))) [j] σ H (fun x H1 => rSortedS K [x] H1 Q)
  exact big H (Ex.refl _) _ fun p H1 hp e1 h1 => ⟨p, ps, rfl, sq_of h1, hl, fun ys q pm so hq => k ys pm so q _ (fresh_back e1 hq) (e1.trans (Ex.new hq)) upd_same⟩
theorem ev_prop {σ : L2.St} {H : Hp} {te : TE} {a : Addr} {v : V} (h : Ev te σ H (.ref a)) (b : BkAt H C a v) : Ev (tProp C (spGet C) [] E0 te) σ H v := fun H1 e Q q => h H1 e _ fun H2 e2 => by
  have bb := b.mono (e.trans e2)
  obtain ⟨dx, hb⟩ := id bb
  exact ⟨a, dx, _, rfl, hb, a, v, rfl, bb, fun H3 e3 => q H3 (e2.trans e3)⟩
theorem ok_made {f : Addr} {fd fdG : FuncData} (F : Fun K "made_paths" "made_paths" sMade f fd) (T : Gv mg) (B : Bks K mg C fI pR fG fL fE) (FG : FnOk P w K mg base CX0 1 fG fdG ["self"] (spGet C)) (bG : Binds K fdG ["self"] [])
    (cB : Cal P w K mg base CX0 1 "check_book" ["value"] (spCkB C)) : FnOk P w K mg base CX0 3 f fd ["book"] (spMade (K := K) C) := by
  refine F.ok scMade (fun vs H Q E h => ?_) (fun cdv A outer s H vs Q E hr h => ?_)
  · obtain ⟨a, t, xs, ps, rfl, _⟩ := h
    rfl
  · obtain ⟨a, t, xs, ps, rfl, b, hx, hh, hl, k⟩ := h
    have hr1 : Room 1 _ := hr.mono (by decide)
    refine ⟨_, pss_cons (ps_expr (pe_call cB.F hr1 (by rfl) cB.g cB.kp cB.b .nil pass0 (pa_cons (pv 0) pa_nil)))
      (pss_one (ps_ret (pe_callB cr_sortedS (by rfl) T.srt (by decide +kernel) (pa_cons (pe_lc (own := [("rule", 1)]) (g := gName 1) (tt := tYes) rfl scMade.nd (pi_tup (pe_prop (pv 0) B.cls B.prop FG hr bG .nil pass0 (by rfl))) (blkOk_by (N := ["book", "rule"]) (sc := defScope sMade) (by decide +kernel))
        (fun _ _ _ _ _ => pg_name (i := 1) scMade.nd rfl (Or.inl rfl)) (fun _ _ _ _ _ => pts_nil) (fun _ _ _ _ _ => pe_ix (r := rIxT K) ix_tup (pv 1) pe_int (fun _ _ => rfl))) pa_nil)))), ?_⟩
    refine q_drop (v := .non) (ev_call (ea_cons (ev_var rfl) ea_nil) fun H1 e1 Q' q' E' => ⟨a, _, rfl, b.mono e1, q'⟩) fun H1 e1 => ?_
    exact srt_heads (j := 1) (by show 1 < 2; decide) (ev_prop (ev_var rfl) (b.mono e1)) (ex_t e1 hx) (hh.mono e1) hl fun ys pm so p H2 hp e2 h2 => k ys pm so p H2 (fresh_back e1 hp) (e1.trans e2) h2
end
end Bt
namespace Bt
open PySem PySem.Spec PyProof.Rows L2 Bk Bm Evl Be Cr Kr Bp Bl TL
abbrev sRing : Stmt := top 30
abbrev sRR : Stmt := top 31
abbrev sOrder : Stmt := top 32
abbrev sRO : Stmt := top 33
abbrev sDepths : Stmt := top 34
abbrev sCkMade : Stmt := top 45
abbrev sClean : Stmt := top 64
abbrev sRun : Stmt := top 65
abbrev sReads : Stmt := top 66
abbrev sBuildFor : Stmt := top 67
theorem ret_rw {te : TE} {De : Ends} {σ : L2.St} {H : Hp} (h : te σ H De.rt) : tRet te De σ H := h
theorem q_raw {i : Nat} {te : TE} {tz : TS} {De : Ends} {σ : L2.St} {H : Hp} (h : te σ H (fun v H1 => tz De (σ.set i (some v)) H1)) : tSeq (tAsg te (gName i)) tz De σ H := h
/-! ### not in a list of texts: data, or a dict -/
theorem eqAt_str_dict {A : Around} {s : Shared} {l : Addr} {o : Obj} {es : Array DictEntry} {n : Nat} (b : Str) (u : Tok) (ho : s.heap.get? l = some o) (hd : o.data = .dict es n) (hc : o.cls = .type "dict") (hu : A.units < cLine) : SeqAt.EqAt A s (.str b u) (.ref l) false := fun prog w E Q h => by
  unfold eqBool
  refine wpAny_holding ?_
  refine wpAny_ite_split (fun hab => absurd (eq_of_beq hab) nofun) (fun _ => ?_)
  refine wpAny_bind ?_
  exact SeqAt.rc_eq_decline_or (k := false) (typeIs_str s b u) ⟨o, ho, hc⟩ (by decide) F.sub_dict_str F.slot_str_eq F.slot_dict_eq_refl
    (fun _ hq => call_meets F.slot_str_eq (typeIs_str s b u) F.entry_str_eq (F.args_str_eq_2 _ _) (seq_dict b u l o es n hd) ⟨ho, hq⟩)
    (fun _ hq => call_meets F.slot_dict_eq_refl ⟨o, ho, hc⟩ F.entry_dict_eq (F.args_dict_eq_2 _ _) (deq_str l o b u es n hd hc) ⟨ho, hq⟩)
    (fun _ hq => wpAny_of_eq (rfl : isSame (.str b u) (.ref l) = pure false) hq) (.inr hu) (wpAny_truthy_bool h)
theorem reads_strs {h : Heap} : ∀ (ys : List Str) (vs : List Value) (as : List Addr), ReadsAll h vs (ys.map PyData.str) as → ∀ v ∈ vs, ∃ b t, v = .str b t
  | [], _, _, r, v, hv => by cases r; cases hv
  | y :: ys, _, _, r, v, hv => by
    cases r with
    | cons r1 r2 =>
      rcases List.mem_cons.mp hv with rfl | hv
      · cases r1; exact ⟨_, _, rfl⟩
      · exact reads_strs ys _ _ r2 v hv
theorem any_no (vs : Array Value) : (!vs.any fun _ => false) = true := by
  rw [Bool.not_eq_true', ← Array.any_toList, List.any_eq_false]
  intro z _ h
  cases h
/-- not in, a list of data -/
def rNotInDL (K : PySem.W.Frag) : R2 := fun x y H Q => (∃ d ds, Dp K H x d ∧ Dp K H y (.list ds) ∧ SeqAt.shaped d = true ∧ SeqAt.shaped (.list ds) = true ∧ Q (.bl (!ds.any fun z => PyData.eqv z d)) H) ∨
  (∃ (a : Addr) (kvs : List (Key × V)) (ys : List Str), x = .ref a ∧ H a = some (.dK kvs) ∧ Dp K H y (.list (ys.map PyData.str)) ∧ Q (.bl true) H)
theorem op_notInDL {X : Cx} (hu : X.A.units + 65 < cLine) : OpR X (compareOp .NotIn) (rNotInDL X.K) := by
  intro pins s σ H x y v u Q I rx ry h
  rcases h with ⟨d, ds, hd, he, sd, se, q⟩ | ⟨a, kvs, ys, rfl, ha, he, q⟩
  · obtain ⟨as, r1⟩ := Dp.reads I d x v hd rx
    obtain ⟨bs, r2⟩ := Dp.reads I (.list ds) y u he ry
    exact SeqAt.notIn_list_reads r2 r1 (SeqAt.canLay_of_shaped se) (SeqAt.canLay_of_shaped sd) (room_in_shaped sd hu) ⟨.bl _, H, I, rfl, q⟩
  · obtain ⟨bs, r2⟩ := Dp.reads I (.list (ys.map PyData.str)) y u he ry
    cases rx
    obtain ⟨o, es, n, ho, hd, hc⟩ := dict_obj I ha
    cases r2 with
    | list h1 h2 h3 h4 =>
      refine SeqAt.notIn_listAt (fun _ => false) ⟨_, h1, h2, _, h3⟩ (fun z hz => ?_) (by rw [any_no]; exact ⟨.bl true, H, I, rfl, q⟩)
      obtain ⟨b, t, rfl⟩ := reads_strs ys _ _ h4 z (by simpa using hz)
      exact eqAt_str_dict b t ho hd hc (by show X.A.units + 1 < cLine; omega)
def Rz0 (X : Addr) (H : Hp) (E : XK) : Prop := ∀ G, Ex H G → E (.ref X) none G
def Rz (X : Addr) (o : Option V) (H : Hp) (E : XK) : Prop := match o with
  | none => ∀ G, Ex H G → E (.ref X) none G
  | some u => RaiseI X u H E
section
variable {P : Program} {w : World} {K : PySem.W.Frag} {mg : Str → Option Value} {base : Heap} {C fI pR fG fL fE Cb Ct Cm : Addr}
/-! ### check_book -/
def spCkB2 (K : PySem.W.Frag) (C Cb : Addr) : Sp := fun vs H Q E => ∃ v, vs = [v] ∧ ((∃ n, Kd K H v n ∧ Rz0 Cb H E) ∨ (∃ a u, v = .ref a ∧ BkAt H C a u ∧ RetV .non H Q))
theorem ok_ckBook2 {f : Addr} {fd : FuncData} (F : Fun K "check_book" "check_book" sCkBook f fd) (T : Gv mg) (c : Xc K mg "BadBook" Cb) (B : Bks K mg C fI pR fG fL fE) (h1 : PySem.W.isClsIn K C = true) (h2 : PySem.W.typeIn K (.ref C) = some (.type "type")) :
    FnOk P w K mg base (L2.CX P w) 2 f fd ["value"] (spCkB2 K C Cb) := by
  refine F.okX scCkBook (fun vs H Q E h => ?_) (fun cdv A outer s H vs Q E hr h => ?_)
  · obtain ⟨v, rfl, _⟩ := h
    rfl
  · obtain ⟨v, rfl, h⟩ := h
    refine ⟨_, pss_one (ps_if (pt_not (pt_val (pe_callB call_isi (by rfl) T.isi boot_isinstance (pa_cons (pv 0) (pa_cons (pe_glob (v := .ref C) (by rfl) B.g rfl) pa_nil))))) (pss_one (ps_raise rfl (takes_of rfl rfl rfl rfl) (pmk_own0 c (by rfl)))) pss_nil), ?_⟩
    rcases h with ⟨n, kd, k⟩ | ⟨a, u, rfl, b, k⟩
    · refine s_if (b := true) (et_is (et_not (et_B (ev_isN h1 h2 (ev_var rfl) ev_c kd))) rfl) (fun _ H1 e1 => ?_) (fun z => by cases z)
      exact k H1 e1
    · refine s_if (b := false) (et_is (et_not (et_B (ev_isB B (ev_var rfl) ev_c b))) rfl) (fun z => by cases z) (fun _ H1 e1 => ?_)
      exact k H1 e1
/-! ### who is asked of no book -/
def spNB (K : PySem.W.Frag) (Cb : Addr) : Sp := fun vs H Q E => ∃ v, vs = [v] ∧ NB K H v ∧ Rz0 Cb H E
def spNB2 (K : PySem.W.Frag) (Cb : Addr) : Sp := fun vs H Q E => ∃ v x, vs = [v, x] ∧ NB K H v ∧ Rz0 Cb H E
abbrev nRing : List Str := ["book", "told", "rows", "made", "row", "path"]
abbrev nRR : List Str := ["book", "value", "told", "made", "path"]
abbrev nOrder : List Str := ["book", "order"]
abbrev nRO : List Str := ["book", "value", "told", "place", "made", "path"]
abbrev nDep : List Str := ["book", "order", "told", "depth", "made", "path"]
theorem scRing : FnScope nRing ["book"] (defScope sRing) := ⟨rfl, rfl, rfl, by decide +kernel, rfl, by decide +kernel, by decide +kernel⟩
theorem scRR : FnScope nRR ["book", "value"] (defScope sRR) := ⟨rfl, rfl, rfl, by decide +kernel, rfl, by decide +kernel, by decide +kernel⟩
theorem scOrder : FnScope nOrder ["book"] (defScope sOrder) := ⟨rfl, rfl, rfl, by decide +kernel, rfl, by decide +kernel, by decide +kernel⟩
theorem scRO : FnScope nRO ["book", "value"] (defScope sRO) := ⟨rfl, rfl, rfl, by decide +kernel, rfl, by decide +kernel, by decide +kernel⟩
theorem scDepths : FnScope nDep ["book"] (defScope sDepths) := ⟨rfl, rfl, rfl, by decide +kernel, rfl, by decide +kernel, by decide +kernel⟩
theorem nb_go {σ : L2.St} {H : Hp} {v : V} {E : XK} (s0 : σ[0]? = some (some v)) (h : NB K H v) (k : Rz0 Cb H E) {tz : TS} {De : Ends} : tSeq (tDrop (tCall (spCkB2 K C Cb) [] E (tCons (tVar 0) tNil))) tz De σ H := by
  obtain ⟨n, h⟩ := h
  exact ⟨_, s0, v, rfl, .inl ⟨n, h, k⟩⟩
theorem ok_nbMade {k : Nat} (hk : 2 ≤ k) {f : Addr} {fd : FuncData} (F : Fun K "made_paths" "made_paths" sMade f fd) (cB : Cal P w K mg base (L2.CX P w) 2 "check_book" ["value"] (spCkB2 K C Cb)) : FnOk P w K mg base (L2.CX P w) (k + 1) f fd ["book"] (spNB K Cb) := by
  refine F.okX scMade (fun vs H Q E h => ?_) (fun cdv A outer s H vs Q E hr h => ?_)
  · obtain ⟨v, rfl, _⟩ := h
    rfl
  · obtain ⟨v, rfl, nb, kk⟩ := h
    refine ⟨_, pss_cons (ps_expr (pe_call cB.F (hr.mono (by omega)) (by rfl) cB.g cB.kp cB.b .nil (lets (takes_of rfl rfl rfl rfl)) (pa_cons (pv 0) pa_nil))) pss_never, ?_⟩
    exact nb_go rfl nb kk
theorem ok_nbOrder {k : Nat} (hk : 2 ≤ k) {f : Addr} {fd : FuncData} (F : Fun K "told_order" "told_order" sOrder f fd) (cB : Cal P w K mg base (L2.CX P w) 2 "check_book" ["value"] (spCkB2 K C Cb)) : FnOk P w K mg base (L2.CX P w) (k + 1) f fd ["book"] (spNB K Cb) := by
  refine F.okX scOrder (fun vs H Q E h => ?_) (fun cdv A outer s H vs Q E hr h => ?_)
  · obtain ⟨v, rfl, _⟩ := h
    rfl
  · obtain ⟨v, rfl, nb, kk⟩ := h
    refine ⟨_, pss_cons (ps_expr (pe_call cB.F (hr.mono (by omega)) (by rfl) cB.g cB.kp cB.b .nil (lets (takes_of rfl rfl rfl rfl)) (pa_cons (pv 0) pa_nil))) pss_never, ?_⟩
    exact nb_go rfl nb kk
theorem ok_nbRing {k : Nat} (hk : 2 ≤ k) {f : Addr} {fd : FuncData} (F : Fun K "told_ring" "told_ring" sRing f fd) (cB : Cal P w K mg base (L2.CX P w) 2 "check_book" ["value"] (spCkB2 K C Cb)) : FnOk P w K mg base (L2.CX P w) (k + 1) f fd ["book"] (spNB K Cb) := by
  refine F.okX scRing (fun vs H Q E h => ?_) (fun cdv A outer s H vs Q E hr h => ?_)
  · obtain ⟨v, rfl, _⟩ := h
    rfl
  · obtain ⟨v, rfl, nb, kk⟩ := h
    refine ⟨_, pss_cons (ps_expr (pe_call cB.F (hr.mono (by omega)) (by rfl) cB.g cB.kp cB.b .nil (lets (takes_of rfl rfl rfl rfl)) (pa_cons (pv 0) pa_nil))) pss_never, ?_⟩
    exact nb_go rfl nb kk
theorem ok_nbRR {k : Nat} (hk : 2 ≤ k) {f : Addr} {fd : FuncData} (F : Fun K "right_ring" "right_ring" sRR f fd) (cB : Cal P w K mg base (L2.CX P w) 2 "check_book" ["value"] (spCkB2 K C Cb)) : FnOk P w K mg base (L2.CX P w) (k + 1) f fd ["book", "value"] (spNB2 K Cb) := by
  refine F.okX scRR (fun vs H Q E h => ?_) (fun cdv A outer s H vs Q E hr h => ?_)
  · obtain ⟨v, x, rfl, _⟩ := h
    rfl
  · obtain ⟨v, x, rfl, nb, kk⟩ := h
    refine ⟨_, pss_cons (ps_expr (pe_call cB.F (hr.mono (by omega)) (by rfl) cB.g cB.kp cB.b .nil (lets (takes_of rfl rfl rfl rfl)) (pa_cons (pv 0) pa_nil))) pss_never, ?_⟩
    exact nb_go rfl nb kk
theorem ok_nbRO {k : Nat} (hk : 2 ≤ k) {f : Addr} {fd : FuncData} (F : Fun K "right_order" "right_order" sRO f fd) (cB : Cal P w K mg base (L2.CX P w) 2 "check_book" ["value"] (spCkB2 K C Cb)) : FnOk P w K mg base (L2.CX P w) (k + 1) f fd ["book", "value"] (spNB2 K Cb) := by
  refine F.okX scRO (fun vs H Q E h => ?_) (fun cdv A outer s H vs Q E hr h => ?_)
  · obtain ⟨v, x, rfl, _⟩ := h
    rfl
  · obtain ⟨v, x, rfl, nb, kk⟩ := h
    refine ⟨_, pss_cons (ps_expr (pe_call cB.F (hr.mono (by omega)) (by rfl) cB.g cB.kp cB.b .nil (lets (takes_of rfl rfl rfl rfl)) (pa_cons (pv 0) pa_nil))) pss_never, ?_⟩
    exact nb_go rfl nb kk
theorem ok_nbDep {k : Nat} (hk : 4 ≤ k) {f : Addr} {fd : FuncData} (F : Fun K "depths" "depths" sDepths f fd) (cO : Cal P w K mg base (L2.CX P w) 4 "told_order" ["book"] (spNB K Cb)) : FnOk P w K mg base (L2.CX P w) (k + 1) f fd ["book"] (spNB K Cb) := by
  refine F.okX scDepths (fun vs H Q E h => ?_) (fun cdv A outer s H vs Q E hr h => ?_)
  · obtain ⟨v, rfl, _⟩ := h
    rfl
  · obtain ⟨v, rfl, nb, kk⟩ := h
    refine ⟨_, pss_cons (ps_set (i := 1) scDepths.nd rfl (Or.inl rfl) (pe_call cO.F (hr.mono (by omega)) (by rfl) cO.g cO.kp cO.b .nil (lets (takes_of rfl rfl rfl rfl)) (pa_cons (pv 0) pa_nil))) pss_never, ?_⟩
    exact q_raw ⟨_, rfl, v, rfl, nb, kk⟩
/-! ### check_made -/
/-- a value that a book does not make -/
structure NM (K : PySem.W.Frag) (H : Hp) (C a : Addr) (v : V) : Prop where
  ex : ∃ t xs ps, BkAt H C a (.ref t) ∧ H t = some (.tup xs) ∧ Heads H xs ps ∧ ps.length < 64 ∧ ((∃ d, (∀ G, Ex H G → Dp K G v d) ∧ SeqAt.shaped d = true ∧ (∀ p ∈ ps, PyData.eqv (.str p) d = false)) ∨ (∃ c kvs, v = .ref c ∧ H c = some (.dK kvs))) ∧ ∀ p ∈ ps, PyData.strOk p = true
theorem strs_shaped : ∀ (ys : List Str), (∀ p ∈ ys, PyData.strOk p = true) → SeqAt.shaped (.list (ys.map PyData.str)) = true := by
  intro ys h
  have h1 : PyData.canLayAll0 (ys.map PyData.str) = true := by
    induction ys with
    | nil => rfl
    | cons y r ih =>
      show (PyData.strOk y && PyData.canLayAll0 (r.map PyData.str)) = true
      rw [h y List.mem_cons_self, ih fun p hp => h p (List.mem_cons_of_mem _ hp)]
      rfl
  have h2 : PyData.depthAll (ys.map PyData.str) ≤ 1 := by
    clear h h1
    induction ys with
    | nil => simp [PyData.depthAll]
    | cons y r ih =>
      simp only [List.map_cons, PyData.depthAll, PyData.depth]
      omega
  show (PyData.canLayAll0 (ys.map PyData.str) && decide (PyData.depth (.list (ys.map PyData.str)) ≤ 64)) = true
  rw [h1, decide_eq_true (by simp only [PyData.depth]; omega)]
  rfl
theorem dpl (K : PySem.W.Frag) (G : Hp) : ∀ zs : List Str, DpAll K G (zs.map V.str) (zs.map PyData.str)
  | [] => .nil
  | z :: r => .cons (.str z) (dpl K G r)
theorem scCkMade : FnScope ["book", "value"] ["book", "value"] (defScope sCkMade) := ⟨rfl, rfl, rfl, by decide +kernel, rfl, by decide +kernel, by decide +kernel⟩
def spCkMade (K : PySem.W.Frag) (C Cm : Addr) : Sp := fun vs H Q E => ∃ a v, vs = [.ref a, v] ∧ NM K H C a v ∧ Rz0 Cm H E
theorem ok_ckMade {f : Addr} {fd : FuncData} (F : Fun K "check_made" "check_made" sCkMade f fd) (c : Xc K mg "BadMade" Cm) (cM : Cal P w K mg base CX0 3 "made_paths" ["book"] (spMade (K := K) C)) : FnOk P w K mg base (L2.CX P w) 4 f fd ["book", "value"] (spCkMade K C Cm) := by
  refine F.okX scCkMade (fun vs H Q E h => ?_) (fun cdv A outer s H vs Q E hr h => ?_)
  · obtain ⟨a, v, rfl, _⟩ := h
    rfl
  · obtain ⟨a, v, rfl, ⟨t, xs, ps, b, ht, hh, hl, dq, so⟩, kk⟩ := h
    have hu : (A.deeper (envOfC "check_made" (defScope sCkMade) s.heap.objs.size f cdv)).units + 65 < cLine := by have := hr.un; omega
    refine ⟨_, pss_one (ps_if (pt_cmpR (op_notInDL hu) (pv 1) (pe_call cM.F hr (by rfl) cM.g cM.kp cM.b .nil pass0 (pa_cons (pv 0) pa_nil)) (by rfl)) (pss_one (ps_raise rfl (takes_of rfl rfl rfl rfl) (pmk_own0 c (by rfl)))) pss_nil), ?_⟩
    refine s_if (b := true) (fun H1 e1 Q' q' => ⟨_, rfl, _, rfl, a, t, xs, ps, rfl, b.mono e1, st_of (e1 _ _ ht), hh.mono e1, hl, fun ys pm sy l H2 hl0 e2 hl2 => ?_⟩) (fun _ H1 e1 => kk H1 e1) (fun z => by cases z)
    rcases dq with ⟨d, dp, sh, no⟩ | ⟨c, kvs, rfl, hc⟩
    · refine .inl ⟨d, ys.map PyData.str, dp _ (e1.trans e2), .lst (sq_of hl2) (dpl K H2 ys), sh, strs_shaped ys fun p hp => so p (pm.mem_iff.mp hp), _, rfl, ?_⟩
      have e : (!(ys.map PyData.str).any fun z => PyData.eqv z d) = true := by
        rw [List.any_map, Bool.not_eq_true', List.any_eq_false]
        intro p hp
        show ¬ PyData.eqv (.str p) d = true
        rw [no p (pm.mem_iff.mp hp)]
        decide
      rw [e]
      exact q' H2 e2
    · exact .inr ⟨c, kvs, ys, rfl, (e1.trans e2) _ _ hc, .lst (sq_of hl2) (dpl K H2 ys), _, rfl, q' H2 e2⟩
/-! ### clean, run, reads_behind -/
/-- what is wrong; o is what is raised for it -/
inductive Wr (K : PySem.W.Frag) (C Cb Ct Cm : Addr) (H : Hp) : V → V → V → Addr → Option V → Prop
  | book {b t m : V} (h : NB K H b) : Wr K C Cb Ct Cm H b t m Cb none
  | tree {a : Addr} {u t m x : V} (h : BkAt H C a u) (ht : Tr K H t (some x)) : Wr K C Cb Ct Cm H (.ref a) t m Ct (some x)
  | made {a : Addr} {t m : V} (ht : Tr K H t none) (hm : NM K H C a m) : Wr K C Cb Ct Cm H (.ref a) t m Cm none
/-- of a book and a tree -/
inductive Wc (K : PySem.W.Frag) (C Cb Ct : Addr) (H : Hp) : V → V → Addr → Option V → Prop
  | book {b t : V} (h : NB K H b) : Wc K C Cb Ct H b t Cb none
  | tree {a : Addr} {u t x : V} (h : BkAt H C a u) (ht : Tr K H t (some x)) : Wc K C Cb Ct H (.ref a) t Ct (some x)
def spWr (K : PySem.W.Frag) (C Cb Ct Cm : Addr) : Sp := fun vs H Q E => ∃ b t m X o, vs = [b, t, m] ∧ Wr K C Cb Ct Cm H b t m X o ∧ Rz X o H E
def spWc (K : PySem.W.Frag) (C Cb Ct : Addr) : Sp := fun vs H Q E => ∃ b t X o, vs = [b, t] ∧ Wc K C Cb Ct H b t X o ∧ Rz X o H E
theorem NM.mono {H G : Hp} {a : Addr} {v : V} (e : Ex H G) (h : NM K H C a v) : NM K G C a v := by
  obtain ⟨t, xs, ps, b, ht, hh, hl, dq, r⟩ := h.ex
  refine ⟨t, xs, ps, b.mono e, e _ _ ht, hh.mono e, hl, ?_, r⟩
  rcases dq with ⟨d, dp, sh, no⟩ | ⟨c, kvs, rfl, hc⟩
  · exact .inl ⟨d, fun G' e' => dp G' (e.trans e'), sh, no⟩
  · exact .inr ⟨c, kvs, rfl, e _ _ hc⟩
theorem Wr.mono {H G : Hp} {b t m : V} {X : Addr} {o : Option V} (e : Ex H G) (h : Wr K C Cb Ct Cm H b t m X o) : Wr K C Cb Ct Cm G b t m X o := by
  cases h with
  | book h => exact .book (h.mono e)
  | tree h ht => exact .tree (h.mono e) (ht.mono e)
  | made ht hm => exact .made (ht.mono e) (hm.mono e)
theorem Wc.mono {H G : Hp} {b t : V} {X : Addr} {o : Option V} (e : Ex H G) (h : Wc K C Cb Ct H b t X o) : Wc K C Cb Ct G b t X o := by
  cases h with
  | book h => exact .book (h.mono e)
  | tree h ht => exact .tree (h.mono e) (ht.mono e)
theorem scBuildFor : FnScope ["book", "tree", "made"] ["book", "tree", "made"] (defScope sBuildFor) := ⟨rfl, rfl, rfl, by decide +kernel, rfl, by decide +kernel, by decide +kernel⟩
theorem ok_buildFor {f : Addr} {fd : FuncData} (F : Fun K "build_for" "build_for" sBuildFor f fd) (cB : Cal P w K mg base (L2.CX P w) 2 "check_book" ["value"] (spCkB2 K C Cb)) (cT : Cal P w K mg base (L2.CX P w) 4 "check_tree" ["value"] (spCkTree (K := K) Ct))
    (cM : Cal P w K mg base (L2.CX P w) 4 "check_made" ["book", "value"] (spCkMade K C Cm)) : FnOk P w K mg base (L2.CX P w) 5 f fd ["book", "tree", "made"] (spWr K C Cb Ct Cm) := by
  refine F.okX scBuildFor (fun vs H Q E h => ?_) (fun cdv A outer s H vs Q E hr h => ?_)
  · obtain ⟨b, t, m, X, o, rfl, _⟩ := h
    rfl
  · obtain ⟨b, t, m, X, o, rfl, wr, k⟩ := h
    refine ⟨_, pss_cons (ps_expr (pe_call cB.F (hr.mono (by decide)) (by rfl) cB.g cB.kp cB.b .nil (lets (takes_of rfl rfl rfl rfl)) (pa_cons (pv 0) pa_nil)))
      (pss_cons (ps_expr (pe_call cT.F hr (by rfl) cT.g cT.kp cT.b .nil (lets (takes_of rfl rfl rfl rfl)) (pa_cons (pv 1) pa_nil)))
      (pss_cons (ps_expr (pe_call cM.F hr (by rfl) cM.g cM.kp cM.b .nil (lets (takes_of rfl rfl rfl rfl)) (pa_cons (pv 0) (pa_cons (pv 2) pa_nil)))) pss_never)), ?_⟩
    cases wr with
    | book h => obtain ⟨n, h⟩ := h; exact ⟨_, rfl, b, rfl, .inl ⟨_, h, k⟩⟩
    | @tree a u _ _ x h ht => exact ⟨_, rfl, _, rfl, .inr ⟨a, u, rfl, h, fun H1 e1 => ⟨_, rfl, t, _, rfl, ht.mono e1, fun z => (by cases z), fun v hv => by cases hv; exact RaiseI.go k e1⟩⟩⟩
    | @made a _ _ ht hm =>
      obtain ⟨tt, xs, ps, hb, _⟩ := hm.ex
      exact ⟨_, rfl, _, rfl, .inr ⟨a, _, rfl, hb, fun H1 e1 => ⟨_, rfl, t, _, rfl, ht.mono e1, fun _ H2 e2 => ⟨_, rfl, _, rfl, a, m, rfl, hm.mono (e1.trans e2), fun G e3 => k G ((e1.trans e2).trans e3)⟩, fun v hv => by cases hv⟩⟩⟩
abbrev nRun : List Str := ["book", "tree", "made", "build"]
abbrev nReads : List Str := ["book", "tree", "made", "build", "found", "behind", "looks", "path", "look"]
theorem scRun : FnScope nRun ["book", "tree", "made"] (defScope sRun) := ⟨rfl, rfl, rfl, by decide +kernel, rfl, by decide +kernel, by decide +kernel⟩
theorem scReads : FnScope nReads ["book", "tree", "made"] (defScope sReads) := ⟨rfl, rfl, rfl, by decide +kernel, rfl, by decide +kernel, by decide +kernel⟩
theorem ok_run {k : Nat} (hk : 5 ≤ k) {f : Addr} {fd : FuncData} (F : Fun K "run" "run" sRun f fd) (cL : Cal P w K mg base (L2.CX P w) 5 "build_for" ["book", "tree", "made"] (spWr K C Cb Ct Cm)) : FnOk P w K mg base (L2.CX P w) (k + 1) f fd ["book", "tree", "made"] (spWr K C Cb Ct Cm) := by
  refine F.okX scRun (fun vs H Q E h => ?_) (fun cdv A outer s H vs Q E hr h => ?_)
  · obtain ⟨b, t, m, X, o, rfl, _⟩ := h
    rfl
  · obtain ⟨b, t, m, X, o, rfl, wr, k⟩ := h
    refine ⟨_, pss_cons (ps_set (i := 3) scRun.nd rfl (Or.inl rfl) (pe_call cL.F (hr.mono hk) (by rfl) cL.g cL.kp cL.b .nil (lets (takes_of rfl rfl rfl rfl)) (pa_cons (pv 0) (pa_cons (pv 1) (pa_cons (pv 2) pa_nil))))) pss_never, ?_⟩
    exact q_raw ⟨_, rfl, _, rfl, _, rfl, b, t, m, X, o, rfl, wr, k⟩
theorem ok_reads {k : Nat} (hk : 5 ≤ k) {f : Addr} {fd : FuncData} (F : Fun K "reads_behind" "reads_behind" sReads f fd) (cL : Cal P w K mg base (L2.CX P w) 5 "build_for" ["book", "tree", "made"] (spWr K C Cb Ct Cm)) : FnOk P w K mg base (L2.CX P w) (k + 1) f fd ["book", "tree", "made"] (spWr K C Cb Ct Cm) := by
  refine F.okX scReads (fun vs H Q E h => ?_) (fun cdv A outer s H vs Q E hr h => ?_)
  · obtain ⟨b, t, m, X, o, rfl, _⟩ := h
    rfl
  · obtain ⟨b, t, m, X, o, rfl, wr, k⟩ := h
    refine ⟨_, pss_cons (ps_set (i := 3) scReads.nd rfl (Or.inl rfl) (pe_call cL.F (hr.mono hk) (by rfl) cL.g cL.kp cL.b .nil (lets (takes_of rfl rfl rfl rfl)) (pa_cons (pv 0) (pa_cons (pv 1) (pa_cons (pv 2) pa_nil))))) pss_never, ?_⟩
    exact q_raw ⟨_, rfl, _, rfl, _, rfl, b, t, m, X, o, rfl, wr, k⟩
abbrev nClean : List Str := ["book", "tree", "build", "made"]
theorem scClean : FnScope nClean ["book", "tree"] (defScope sClean) := ⟨rfl, rfl, rfl, by decide +kernel, rfl, by decide +kernel, by decide +kernel⟩
theorem ok_clean {k : Nat} (hk : 4 ≤ k) {f : Addr} {fd : FuncData} (F : Fun K "clean" "clean" sClean f fd) (cB : Cal P w K mg base (L2.CX P w) 2 "check_book" ["value"] (spCkB2 K C Cb)) (cT : Cal P w K mg base (L2.CX P w) 4 "check_tree" ["value"] (spCkTree (K := K) Ct)) : FnOk P w K mg base (L2.CX P w) (k + 1) f fd ["book", "tree"] (spWc K C Cb Ct) := by
  refine F.okX scClean (fun vs H Q E h => ?_) (fun cdv A outer s H vs Q E hr h => ?_)
  · obtain ⟨b, t, X, o, rfl, _⟩ := h
    rfl
  · obtain ⟨b, t, X, o, rfl, wr, k⟩ := h
    refine ⟨_, pss_cons (ps_expr (pe_call cB.F (hr.mono (by omega)) (by rfl) cB.g cB.kp cB.b .nil (lets (takes_of rfl rfl rfl rfl)) (pa_cons (pv 0) pa_nil)))
      (pss_cons (ps_expr (pe_call cT.F (hr.mono hk) (by rfl) cT.g cT.kp cT.b .nil (lets (takes_of rfl rfl rfl rfl)) (pa_cons (pv 1) pa_nil))) pss_never), ?_⟩
    cases wr with
    | book h => obtain ⟨n, h⟩ := h; exact ⟨_, rfl, b, rfl, .inl ⟨_, h, k⟩⟩
    | @tree a u _ x h ht => exact ⟨_, rfl, _, rfl, .inr ⟨a, u, rfl, h, fun H1 e1 => ⟨_, rfl, t, _, rfl, ht.mono e1, fun z => (by cases z), fun v hv => by cases hv; exact RaiseI.go k e1⟩⟩⟩
end
end Bt
namespace Bt
open PySem PySem.Spec PyProof.Rows L2 Bk Bm Evl Be Cr Kr Bp Bl TL
abbrev sRef : Stmt := top 78
abbrev nRef : List Str := ["_law_kind", "_law_book", "_law_tree_here", "_law_made", "_law_found", "e"]
/-- the error classes -/
structure Exs (K : PySem.W.Frag) (mg : Str → Option Value) (Cb Ct fT Cm : Addr) : Prop where
  book : Xc K mg "BadBook" Cb
  tree : Xi K mg "BadTree" Ct fT
  made : Xc K mg "BadMade" Cm
  bb : PySem.W.exmOne K (.ref Cb) (.ref Cb) = some true
  tb : PySem.W.exmOne K (.ref Ct) (.ref Cb) = some false
  mb : PySem.W.exmOne K (.ref Cm) (.ref Cb) = some false
  tt : PySem.W.exmOne K (.ref Ct) (.ref Ct) = some true
  mt : PySem.W.exmOne K (.ref Cm) (.ref Ct) = some false
  mm : PySem.W.exmOne K (.ref Cm) (.ref Cm) = some true
section
variable {P : Program} {w : World} {K : PySem.W.Frag} {mg : Str → Option Value} {base : Heap} {C Cb Ct fT Cm : Addr}
theorem scRef : FnScope nRef ["_law_kind", "_law_book", "_law_tree_here", "_law_made"] (defScope sRef) := ⟨rfl, rfl, rfl, by decide +kernel, rfl, by decide +kernel, by decide +kernel⟩
def OutT (u : V) (H : Hp) (Q : VK) : Prop := ∀ l G, Ex H G → G l = some (.lst [.str (Str.ofString "tree"), u]) → Q (.ref l) G
/-- what is told of what is raised -/
def Told (Cb Ct Cm X : Addr) (o : Option V) (H : Hp) (Q : VK) : Prop := match o with
  | some u => X = Ct ∧ OutT u H Q
  | none => (X = Cb ∧ RetV (.str (Str.ofString "book")) H Q) ∨ (X = Cm ∧ RetV (.str (Str.ofString "made")) H Q)
/-- how a call is refused -/
inductive Wk (K : PySem.W.Frag) (C Cb Ct Cm : Addr) (H : Hp) : Int → V → V → V → Addr → Option V → Prop
  | one {k : Int} {b t m : V} (h0 : 0 ≤ k) (h4 : k < 4) (h : NB K H b) : Wk K C Cb Ct Cm H k b t m Cb none
  | two {k : Int} {b t m : V} (hk : k = 4 ∨ k = 5) (h : NB K H b) : Wk K C Cb Ct Cm H k b t m Cb none
  | six {b t m : V} {X : Addr} {o : Option V} (h : Wc K C Cb Ct H b t X o) : Wk K C Cb Ct Cm H 6 b t m X o
  | more {k : Int} {b t m : V} {X : Addr} {o : Option V} (hk : k = 7 ∨ k = 8) (h : Wr K C Cb Ct Cm H b t m X o) : Wk K C Cb Ct Cm H k b t m X o
theorem Wk.bad {H : Hp} {k : Int} {b t m : V} (h0 : 0 ≤ k) (h9 : k < 9) (h : NB K H b) : Wk K C Cb Ct Cm H k b t m Cb none := by
  have : k < 4 ∨ (k = 4 ∨ k = 5) ∨ k = 6 ∨ (k = 7 ∨ k = 8) := by omega
  rcases this with z | z | rfl | z
  · exact .one h0 z h
  · exact .two z h
  · exact .six (.book h)
  · exact .more z (.book h)
def spRef (K : PySem.W.Frag) (C Cb Ct Cm : Addr) : Sp := fun vs H Q _ => ∃ k b t m X o, vs = [.int k, b, t, m] ∧ Wk K C Cb Ct Cm H k b t m X o ∧ Told Cb Ct Cm X o H Q
def tSui (x : String) (C0 : Addr) : Addr → Value → Option Addr → TS := fun a cls d => tAsg (tLst (tCons (tC (.str (Str.ofString x))) (tCons (tXf a cls d C0 "index" (tVar 5)) tNil))) (gName 4)
def tSay (x : String) : Addr → Value → Option Addr → TS := fun _ _ _ => tAsg (tC (.str (Str.ofString x))) (gName 4)
def cls3 (Cb Ct Cm : Addr) : List Cl := [(.ref Cb, none, tSay "book"), (.ref Ct, some 5, tSui "tree" Ct), (.ref Cm, none, tSay "made")]
abbrev ltIs (n : Int) : TT := tTest (tOp (rI0 fun i j => .bl (decide (i < j))) (tVar 0) (tC (.int n)))
theorem ev_lt {σ : L2.St} {H : Hp} {k n : Int} {b : Bool} (s0 : σ[0]? = some (some (.int k))) (h : decide (k < n) = b) : EvT (ltIs n) σ H b :=
  et_is (et_test (ev_op (ev_var s0) ev_c rv_I0)) h
abbrev kindIs (n : Int) : TT := tTest (tOp rEq (tVar 0) (tC (.int n)))
theorem ev_kind {σ : L2.St} {H : Hp} {k n : Int} {b : Bool} (s0 : σ[0]? = some (some (.int k))) (h : decide (k = n) = b) : EvT (kindIs n) σ H b :=
  et_is (et_test (ev_op (x := .int k) (y := .int n) (ev_var s0) ev_c (rv_eq rfl))) (by
    rw [← h]
    show decide (V.int k = V.int n) = decide (k = n)
    exact decide_eq_decide.mpr ⟨fun z => by injection z, fun z => by rw [z]⟩)
theorem ok_ref {f : Addr} {fd : FuncData} (F : Fun K "_law_refused" "_law_refused" sRef f fd) (X : Exs K mg Cb Ct fT Cm)
    (c0 : Cal P w K mg base (L2.CX P w) 9 "depths" ["book"] (spNB K Cb)) (c1 : Cal P w K mg base (L2.CX P w) 9 "made_paths" ["book"] (spNB K Cb)) (c2 : Cal P w K mg base (L2.CX P w) 9 "told_order" ["book"] (spNB K Cb)) (c3 : Cal P w K mg base (L2.CX P w) 9 "told_ring" ["book"] (spNB K Cb))
    (c4 : Cal P w K mg base (L2.CX P w) 9 "right_order" ["book", "value"] (spNB2 K Cb)) (c5 : Cal P w K mg base (L2.CX P w) 9 "right_ring" ["book", "value"] (spNB2 K Cb))
    (c6 : Cal P w K mg base (L2.CX P w) 9 "clean" ["book", "tree"] (spWc K C Cb Ct))
    (c7 : Cal P w K mg base (L2.CX P w) 9 "reads_behind" ["book", "tree", "made"] (spWr K C Cb Ct Cm)) (c8 : Cal P w K mg base (L2.CX P w) 9 "run" ["book", "tree", "made"] (spWr K C Cb Ct Cm)) :
    FnOk P w K mg base CX0 10 f fd ["_law_kind", "_law_book", "_law_tree_here", "_law_made"] (spRef K C Cb Ct Cm) := by
  refine F.ok scRef (fun vs H Q E h => ?_) (fun cdv A outer s H vs Q E hr h => ?_)
  · obtain ⟨k, b, t, m, X, o, rfl, _⟩ := h
    rfl
  · obtain ⟨k, b, t, m, Xa, o, rfl, wk, h⟩ := h
    refine ⟨_, pss_cons (ps_set (i := 4) scRef.nd rfl (Or.inl rfl) pe_non)
      (pss_cons (ps_try_mix (l := cls3 Cb Ct Cm) (Wo := fun _ _ _ _ => False)
          (tb := fun W => tIfS (ltIs 4) (tDrop (tCallE (fun f sp => (f = c0.f ∧ sp = spNB K Cb) ∨ (f = c1.f ∧ sp = spNB K Cb) ∨ (f = c2.f ∧ sp = spNB K Cb) ∨ (f = c3.f ∧ sp = spNB K Cb)) (WE W)
              (tOp (rIxL K) (tLst (tCs [.ref c0.f, .ref c1.f, .ref c2.f, .ref c3.f])) (tVar 0)) (tCons (tVar 1) tNil)))
            (tIfS (ltIs 6) (tDrop (tCallE (fun f sp => (f = c4.f ∧ sp = spNB2 K Cb) ∨ (f = c5.f ∧ sp = spNB2 K Cb)) (WE W)
              (tOp (rIxL K) (tLst (tCs [.ref c4.f, .ref c5.f])) (tOp (rI0 fun i j => .int (i - j)) (tVar 0) (tC (.int 4)))) (tCons (tVar 1) (tCons (tVar 2) tNil))))
            (tIfS (kindIs 6) (tDrop (tCallE (fun f sp => f = c6.f ∧ sp = spWc K C Cb Ct) (WE W) (tC (.ref c6.f)) (tCons (tVar 1) (tCons (tVar 2) tNil))))
            (tDrop (tCallE (fun f sp => (f = c7.f ∧ sp = spWr K C Cb Ct Cm) ∨ (f = c8.f ∧ sp = spWr K C Cb Ct Cm)) (WE W)
              (tOp (rIxL K) (tLst (tCs [.ref c7.f, .ref c8.f])) (tOp (rI0 fun i j => .int (i - j)) (tVar 0) (tC (.int 7)))) (tCons (tVar 1) (tCons (tVar 2) (tCons (tVar 3) tNil)))))))) rfl rfl scRef.nd takes0
        (fun W pn xe tk _ => pss_one (ps_if (pt_cmpR op_lt (pv 0) pe_int (nomark _))
          (pss_one (ps_expr (pe_callE (pe_ix ix_list (pe_lst (pa_cons (pe_glob (by rfl) c0.g rfl) (pa_cons (pe_glob (by rfl) c1.g rfl) (pa_cons (pe_glob (by rfl) c2.g rfl) (pa_cons (pe_glob (by rfl) c3.g rfl) pa_nil))))) (pv 0) (fun _ _ => rfl))
            (fun f sp q => by
              rcases q with ⟨rfl, rfl⟩ | ⟨rfl, rfl⟩ | ⟨rfl, rfl⟩ | ⟨rfl, rfl⟩
              · exact ⟨_, _, c0.F, c0.kp, c0.b⟩
              · exact ⟨_, _, c1.F, c1.kp, c1.b⟩
              · exact ⟨_, _, c2.F, c2.kp, c2.b⟩
              · exact ⟨_, _, c3.F, c3.kp, c3.b⟩) hr (fun σ => passAt tk σ) (by exact (pa_cons (pv 1) pa_nil)))))
          (pss_one (ps_if (pt_cmpR op_lt (pv 0) pe_int (nomark _))
            (pss_one (ps_expr (pe_callE (pe_ix ix_list (pe_lst (pa_cons (pe_glob (by rfl) c4.g rfl) (pa_cons (pe_glob (by rfl) c5.g rfl) pa_nil))) (pe_op op_sub (pv 0) pe_int) (fun _ _ => rfl))
              (fun f sp q => by
                rcases q with ⟨rfl, rfl⟩ | ⟨rfl, rfl⟩
                · exact ⟨_, _, c4.F, c4.kp, c4.b⟩
                · exact ⟨_, _, c5.F, c5.kp, c5.b⟩) hr (fun σ => passAt tk σ) (by exact (pa_cons (pv 1) (pa_cons (pv 2) pa_nil))))))
            (pss_one (ps_if (pt_cmpR op_eq (pv 0) pe_int (nomark _))
              (pss_one (ps_expr (pe_callE (pe_glob (by rfl) c6.g rfl)
                (fun f sp q => by
                  obtain ⟨rfl, rfl⟩ := q
                  exact ⟨_, _, c6.F, c6.kp, c6.b⟩) hr (fun σ => passAt tk σ) (by exact (pa_cons (pv 1) (pa_cons (pv 2) pa_nil))))))
              (pss_one (ps_expr (pe_callE (pe_ix ix_list (pe_lst (pa_cons (pe_glob (by rfl) c7.g rfl) (pa_cons (pe_glob (by rfl) c8.g rfl) pa_nil))) (pe_op op_sub (pv 0) pe_int) (fun _ _ => rfl))
                (fun f sp q => by
                  rcases q with ⟨rfl, rfl⟩ | ⟨rfl, rfl⟩
                  · exact ⟨_, _, c7.F, c7.kp, c7.b⟩
                  · exact ⟨_, _, c8.F, c8.kp, c8.b⟩) hr (fun σ => passAt tk σ) (by exact (pa_cons (pv 1) (pa_cons (pv 2) (pa_cons (pv 3) pa_nil)))))))))))))
        (.bare ⟨rfl, by decide, .inl X.book.g⟩ (fun a oe cls d pn hz hf => pss_one (ps_set (i := 4) scRef.nd rfl (Or.inl rfl) pe_str))
        (.named ⟨rfl, by decide, .inl X.tree.g⟩ rfl rfl (fun a oe cls d pn hz hf => pss_one (ps_set (i := 4) scRef.nd rfl (Or.inl rfl) (by exact (pe_lst (pa_cons pe_str (pa_cons (pe_xf X.tree.f X.tree.n hz hf (pv 5)) pa_nil))))))
        (.bare ⟨rfl, by decide, .inl X.made.g⟩ (fun a oe cls d pn hz hf => pss_one (ps_set (i := 4) scRef.nd rfl (Or.inl rfl) pe_str)) .nil))))
      (pss_one (ps_ret (pv 4)))), ?_⟩
    refine q_asg ev_c fun H1 e1 => ?_
    have main : ∀ G, Ex H G → Rz Xa o G (WE (wMix K (fun _ _ _ _ => False) ({ nx := tRet (tVar 4) { nx := fun _ H' => Q .non H', rt := Q }, rt := Q } : Ends) (cls3 Cb Ct Cm)) ([some (.int k), some b, some t, some m, some .non, none] : L2.St)) := by
      intro G eG
      cases o with
      | some u =>
        obtain ⟨rfl, out⟩ := h
        intro d G' e' hd hn
        refine ⟨false, X.tb, fun z => (by cases z), fun _ => ⟨true, X.tt, fun _ a ha => ?_, fun z => by cases z⟩⟩
        refine ⟨_, rfl, rfl, rfl, d, [(("index" : Str), u)], u, rfl, hd, by simp [List.lookup], by show 2 ≤ sizeLine; decide, fun l hl => ?_⟩
        exact ⟨_, rfl, out l _ ((eG.trans e').trans (Ex.new hl)) upd_same⟩
      | none =>
        intro G' e'
        rcases h with ⟨rfl, out⟩ | ⟨rfl, out⟩
        · refine ⟨true, X.bb, fun _ a ha => ?_, fun z => by cases z⟩
          exact ⟨_, rfl, out _ (eG.trans e')⟩
        · refine ⟨false, X.mb, fun z => (by cases z), fun _ => ⟨false, X.mt, fun z => (by cases z), fun _ => ⟨true, X.mm, fun _ a ha => ?_, fun z => by cases z⟩⟩⟩
          exact ⟨_, rfl, out _ (eG.trans e')⟩
    show tIfS (ltIs 4) _ _ _ ([some (.int k), some b, some t, some m, some .non, none] : L2.St) H1
    cases wk with
    | one h0 h4 nb =>
      refine s_if (b := true) (ev_lt rfl (decide_eq_true h4)) (fun _ H2 e2 => ?_) (fun z => by cases z)
      refine ⟨by show 4 ≤ sizeLine; decide, fun l hl => ?_⟩
      have eG : Ex H (upd H2 l (.lst [.ref c0.f, .ref c1.f, .ref c2.f, .ref c3.f])) := (e1.trans e2).trans (Ex.new hl)
      have : k = 0 ∨ k = 1 ∨ k = 2 ∨ k = 3 := by omega
      rcases this with rfl | rfl | rfl | rfl
      · exact ⟨_, rfl, l, _, 0, .ref c0.f, rfl, rfl, sq_of upd_same, rfl, c0.f, _, rfl, .inl ⟨rfl, rfl⟩, _, rfl, b, rfl, nb.mono eG, main _ eG⟩
      · exact ⟨_, rfl, l, _, 1, .ref c1.f, rfl, rfl, sq_of upd_same, rfl, c1.f, _, rfl, .inr (.inl ⟨rfl, rfl⟩), _, rfl, b, rfl, nb.mono eG, main _ eG⟩
      · exact ⟨_, rfl, l, _, 2, .ref c2.f, rfl, rfl, sq_of upd_same, rfl, c2.f, _, rfl, .inr (.inr (.inl ⟨rfl, rfl⟩)), _, rfl, b, rfl, nb.mono eG, main _ eG⟩
      · exact ⟨_, rfl, l, _, 3, .ref c3.f, rfl, rfl, sq_of upd_same, rfl, c3.f, _, rfl, .inr (.inr (.inr ⟨rfl, rfl⟩)), _, rfl, b, rfl, nb.mono eG, main _ eG⟩
    | two hk nb =>
      refine s_if (b := false) (ev_lt rfl (decide_eq_false (by omega))) (fun z => by cases z) (fun _ H2 e2 => ?_)
      refine s_if (b := true) (ev_lt rfl (decide_eq_true (by omega))) (fun _ H3 e3 => ?_) (fun z => by cases z)
      refine ⟨by show 2 ≤ sizeLine; decide, fun l hl => ?_⟩
      have eG : Ex H (upd H3 l (.lst [.ref c4.f, .ref c5.f])) := ((e1.trans e2).trans e3).trans (Ex.new hl)
      rcases hk with rfl | rfl
      · exact ⟨_, rfl, 4, 4, rfl, rfl, l, _, 0, .ref c4.f, rfl, rfl, sq_of upd_same, rfl, c4.f, _, rfl, .inl ⟨rfl, rfl⟩, _, rfl, _, rfl, b, t, rfl, nb.mono eG, main _ eG⟩
      · exact ⟨_, rfl, 5, 4, rfl, rfl, l, _, 1, .ref c5.f, rfl, rfl, sq_of upd_same, rfl, c5.f, _, rfl, .inr ⟨rfl, rfl⟩, _, rfl, _, rfl, b, t, rfl, nb.mono eG, main _ eG⟩
    | six wc =>
      refine s_if (b := false) (ev_lt rfl (by decide)) (fun z => by cases z) (fun _ H2 e2 => ?_)
      refine s_if (b := false) (ev_lt rfl (by decide)) (fun z => by cases z) (fun _ H3 e3 => ?_)
      refine s_if (b := true) (ev_kind rfl (by decide) : EvT (kindIs 6) ([some (.int 6), some b, some t, some m, some .non, none] : L2.St) _ true) (fun _ H4 e4 => ?_) (fun z => by cases z)
      have eG : Ex H H4 := ((e1.trans e2).trans e3).trans e4
      exact ⟨c6.f, _, rfl, ⟨rfl, rfl⟩, _, rfl, _, rfl, b, t, Xa, o, rfl, wc.mono eG, main _ eG⟩
    | more hk wr =>
      refine s_if (b := false) (ev_lt rfl (decide_eq_false (by omega))) (fun z => by cases z) (fun _ H2 e2 => ?_)
      refine s_if (b := false) (ev_lt rfl (decide_eq_false (by omega))) (fun z => by cases z) (fun _ H3 e3 => ?_)
      refine s_if (b := false) (ev_kind rfl (decide_eq_false (by omega)) : EvT (kindIs 6) ([some (.int k), some b, some t, some m, some .non, none] : L2.St) _ false) (fun z => by cases z) (fun _ H4 e4 => ?_)
      refine ⟨by show 2 ≤ sizeLine; decide, fun l hl => ?_⟩
      have eG : Ex H (upd H4 l (.lst [.ref c7.f, .ref c8.f])) := (((e1.trans e2).trans e3).trans e4).trans (Ex.new hl)
      rcases hk with rfl | rfl
      · exact ⟨_, rfl, 7, 7, rfl, rfl, l, _, 0, .ref c7.f, rfl, rfl, sq_of upd_same, rfl, c7.f, _, rfl, .inl ⟨rfl, rfl⟩, _, rfl, _, rfl, _, rfl, b, t, m, Xa, o, rfl, wr.mono eG, main _ eG⟩
      · exact ⟨_, rfl, 8, 7, rfl, rfl, l, _, 1, .ref c8.f, rfl, rfl, sq_of upd_same, rfl, c8.f, _, rfl, .inr ⟨rfl, rfl⟩, _, rfl, _, rfl, _, rfl, b, t, m, Xa, o, rfl, wr.mono eG, main _ eG⟩
end
end Bt
namespace Bt
open PySem PySem.Spec PyProof.Rows L2 Bk Bm Evl Be Cr Kr Bp Bl TL
abbrev sLaw : Stmt := top 79
abbrev nLaw : List Str := ["_law_script", "_law_row", "_law_turn", "_law_rules_here", "_law_tree_here", "_law_book", "_law_bad", "_law_wrong", "_law_at", "_law_made"]
section
variable {K : PySem.W.Frag} {σ : L2.St} {H G : Hp} {r C : Addr}
/-- a value that no drawn book makes -/
inductive OM (K : PySem.W.Frag) (H : Hp) : V → Prop
  | at_ {v : V} {d : PyData} (h : ∀ G, Dp K G v d) (sh : SeqAt.shaped d = true) (no : ∀ p ∈ five, PyData.eqv (.str p) d = false) : OM K H v
  | tp {a : Addr} {p : Str} (h : H a = some (.tup [.str p])) (hp : p ∈ five) : OM K H (.ref a)
  | dc {a : Addr} (h : H a = some (.dK [])) : OM K H (.ref a)
theorem OM.mono {v : V} (h : OM K H v) (e : Ex H G) : OM K G v := by
  cases h with
  | at_ h sh no => exact .at_ h sh no
  | tp h hp => exact .tp (e _ _ h) hp
  | dc h => exact .dc (e _ _ h)
theorem OM.dr {v : V} (h : OM K H v) (row : Row K H r) (d : Dr K r H G) : OM K G v := by
  obtain ⟨rl, hr⟩ := row.at
  cases h with
  | at_ h sh no => exact .at_ h sh no
  | tp h hp => exact .tp (d.kp _ _ (ne_of h hr (by intro z; cases z)) h) hp
  | dc h => exact .dc (d.kp _ _ (ne_of h hr (by intro z; cases z)) h)
theorem five_tup : ∀ p ∈ five, SeqAt.shaped (.tuple [.str p]) = true ∧ ∀ q ∈ five, PyData.eqv (.str q) (.tuple [.str p]) = false := by decide +kernel
theorem five_str : ∀ p ∈ five, PyData.strOk p = true := by decide +kernel
theorem rs_five {xs : List V} {gs : List (Str × PyData)} (h : Paired (Good H) xs gs) : ∀ p ∈ gs.map (·.1), p ∈ five := by
  intro p hp
  obtain ⟨g, hg, rfl⟩ := List.mem_map.mp hp
  clear hp
  induction h with
  | nil => cases hg
  | cons r _ ih =>
    rcases List.mem_cons.mp hg with rfl | hg
    · obtain ⟨_, _, _, _, _, _, _, _, _, _, h5, _⟩ := r
      exact h5
    · exact ih hg
theorem heads_rs6 {xs : List V} {gs : List (Str × PyData)} (h : Paired (Good H) xs gs) : Heads H xs (gs.map (·.1)) := by
  induction h with
  | nil => exact .nil
  | cons r _ ih =>
    obtain ⟨a, k, ts, ods, rfl, ha, _⟩ := r
    exact .cons ⟨a, _, rfl, ha⟩ ih
theorem OM.nm {v : V} {bk t : Addr} {xs : List V} {gs : List (Str × PyData)} (h : OM K H v) (hb : BkAt H C bk (.ref t)) (ht : H t = some (.tup xs)) (rs : RsAt H xs gs) : NM K H C bk v := by
  have f5 := rs_five rs.1
  have len : (gs.map (·.1)).length < 64 := by
    have := rs.2.2
    rw [List.length_map]
    omega
  have so : ∀ p ∈ gs.map (·.1), PyData.strOk p = true := fun p hp => five_str p (f5 p hp)
  cases h with
  | at_ h sh no => exact ⟨t, xs, _, hb, ht, heads_rs6 rs.1, len, .inl ⟨_, fun G _ => h G, sh, fun p hp => no p (f5 p hp)⟩, so⟩
  | @tp a p h hp =>
    obtain ⟨s1, s2⟩ := five_tup p hp
    exact ⟨t, xs, _, hb, ht, heads_rs6 rs.1, len, .inl ⟨_, fun G e => .tup (st_of (e _ _ h)) (.cons (.str p) .nil), s1, fun q hq => s2 q (f5 q hq)⟩, so⟩
  | @dc a h => exact ⟨t, xs, _, hb, ht, heads_rs6 rs.1, len, .inr ⟨a, [], rfl, h⟩, so⟩
theorem bad_list {t : Addr} {xs : List V} (s3 : σ[3]? = some (some (.ref t))) (ht : H t = some (.tup xs)) :
    EvPs (tCons (tC V.non) (tCons (tVar 3) (tCons (tC (V.int 0)) (tCons (tC (V.bl true)) (tCons (tC (V.str (Str.ofString "book"))) (tCons tDNewK tNil)))))) σ H (NB K) 6 := by
  have fm : ∀ {H G v}, NB K H v → Ex H G → NB K G v := fun h e => h.mono e
  exact evp_cons fm (evp_c fun H => ⟨_, kd_non⟩) (evp_cons fm (fun H1 e Q q => ⟨_, s3, q _ H1 (Ex.refl _) ⟨_, kd_tup (e _ _ ht)⟩⟩) (evp_cons fm (evp_c fun H => ⟨_, kd_int 0⟩) (evp_cons fm (evp_c fun H => ⟨_, kd_bl _⟩) (evp_cons fm (evp_c fun H => ⟨_, kd_str _⟩) (evp_cons fm (evp_dict fun H a h => ⟨_, kd_dK h⟩) evp_nil)))))
theorem odd_str : ∀ s ∈ [Str.ofString "a", Str.ofString "z", Str.ofString "p", Str.ofString "M"], SeqAt.shaped (.str s) = true ∧ ∀ p ∈ five, PyData.eqv (.str p) (.str s) = false := by decide +kernel
theorem odd_els : ∀ d ∈ [PyData.none, PyData.int 0, PyData.bool true], SeqAt.shaped d = true ∧ ∀ p ∈ five, PyData.eqv (.str p) d = false := by
  intro d hd
  simp only [List.mem_cons, List.not_mem_nil, or_false] at hd
  rcases hd with rfl | rfl | rfl <;> exact ⟨by decide +kernel, by decide +kernel⟩
theorem made_list {t a0 : Addr} {m : Str} {rest xs : List V} (s3 : σ[3]? = some (some (.ref t))) (ht : H t = some (.tup (.ref a0 :: xs))) (ha : H a0 = some (.tup (.str m :: rest))) (hm : m ∈ five) :
    EvPs (tCons (tC V.non) (tCons (tC (V.int 0)) (tCons (tC (V.str (Str.ofString "a"))) (tCons (tC (V.str (Str.ofString "z"))) (tCons (tC (V.str (Str.ofString "p"))) (tCons (tTup (tCons (tOp (rIxT K) (tOp (rIxT K) (tVar 3) (tC (.int 0))) (tC (.int 0))) tNil))
      (tCons (tC (V.str (Str.ofString "M"))) (tCons (tC (V.bl true)) (tCons tDNewK tNil))))))))) σ H (OM K) 9 := by
  have fm : ∀ {H G v}, OM K H v → Ex H G → OM K G v := fun h e => h.mono e
  have st : ∀ s ∈ [Str.ofString "a", Str.ofString "z", Str.ofString "p", Str.ofString "M"], ∀ H, OM K H (.str s) := fun s hs H => .at_ (fun _ => .str s) (odd_str s hs).1 (odd_str s hs).2
  refine evp_cons fm (evp_c fun H => .at_ (fun _ => .non) (odd_els _ (by simp)).1 (odd_els _ (by simp)).2) (evp_cons fm (evp_c fun H => .at_ (fun _ => .int 0) (odd_els _ (by simp)).1 (odd_els _ (by simp)).2) (evp_cons fm (evp_c (st _ (by simp))) (evp_cons fm (evp_c (st _ (by simp))) (evp_cons fm (evp_c (st _ (by simp)))
    (evp_cons fm (fun H1 e Q q => ?_) (evp_cons fm (evp_c (st _ (by simp))) (evp_cons fm (evp_c fun H => .at_ (fun _ => .bl true) (odd_els _ (by simp)).1 (odd_els _ (by simp)).2) (evp_cons fm (evp_dict fun H a h => .dc h) evp_nil))))))))
  refine cons_raw (ev_op (z := .str m) (ev_op (z := .ref a0) (ev_var s3) ev_c (rv_ixT (st_of (e _ _ ht)) (atI_nat (j := 0) rfl))) ev_c (rv_ixT (st_of (e _ _ ha)) (atI_nat (j := 0) rfl)) H1 (Ex.refl _) _ fun H2 e2 => ⟨by show 1 ≤ sizeLine; decide, fun p hp => ?_⟩)
  exact q _ _ (e2.trans (Ex.new hp)) (.tp upd_same hm)
end
end Bt
namespace Bt
open PySem PySem.Spec PyProof.Rows L2 Bk Bm Evl Be Cr Kr Bp Bl TL
theorem ifs_raw {tt : TT} {tu tw : TS} {De : Ends} {σ : L2.St} {G : Hp} (h : tt σ G fun b H1 => if b = true then tu De σ H1 else tw De σ H1) : tIfS tt tu tw De σ G := h
theorem sq_raw {ts tz : TS} {De : Ends} {σ : L2.St} {G : Hp} (h : ts { De with nx := tz De } σ G) : tSeq ts tz De σ G := h
theorem nxt_raw {De : Ends} {σ : L2.St} {G : Hp} (h : De.nx σ G) : tNext De σ G := h
theorem tst_raw {te : TE} {σ : L2.St} {G : Hp} {Q : Bool → Hp → Prop} (h : te σ G fun v H1 => ∃ b, v = .bl b ∧ Q b H1) : tTest te σ G Q := h
theorem op_raw {r : R2} {ta tb : TE} {σ : L2.St} {G : Hp} {Q : VK} (h : ta σ G fun x H1 => tb σ H1 fun y H2 => r x y H2 Q) : tOp r ta tb σ G Q := h
theorem call_raw {sp : Sp} {E : XK} {ta : TA} {σ : L2.St} {G : Hp} {Q : VK} (h : ta σ G fun vs H1 => sp vs H1 Q E) : tCall sp [] E ta σ G Q := by
  simpa [tCall] using h
section
variable {P : Program} {w : World} {K : PySem.W.Frag} {mg : Str → Option Value} {base : Heap} {C fI pR fG fL fE Cb Ct Cm Cu : Addr}
theorem scLaw : FnScope nLaw ["_law_script"] (defScope sLaw) := ⟨rfl, rfl, rfl, by decide +kernel, rfl, by decide +kernel, by decide +kernel⟩
def spLaw (K : PySem.W.Frag) : Sp := fun vs H Q _ => ∃ (a : Addr) (ns : List Int), vs = [.ref a] ∧ Sc K H a ns ∧ ∀ H', Q (.bl true) H'
theorem ok_law {f : Addr} {fd fdI : FuncData} (F : Fun K "law" "law" sLaw f fd) (T : Gv mg) (B : Bks K mg C fI pR fG fL fE)
    (FI : FnOk P w K mg base (L2.CX P w) 7 fI fdI ["self", "rules"] (spInit (K := K) C Cu)) (bI : Binds K fdI ["self", "rules"] [])
    (cT : Cal P w K mg base CX0 1 "_law_taken" ["_law_row", "_law_many"] (spTaken (K := K))) (cO : Cal P w K mg base CX0 2 "_law_one" ["_law_row", "_law_things"] (spOne (K := K)))
    (cRs : Cal P w K mg base CX0 4 "_law_rules" ["_law_row", "_law_most"] (spRulesL (K := K))) (cTr : Cal P w K mg base CX0 4 "_law_tree" ["_law_row"] (spTree (K := K))) (cD : Cal P w K mg base CX0 3 "_law_odd_tree" ["_law_row", "_law_tree_here"] (spOddT (K := K)))
    (cR : Cal P w K mg base CX0 10 "_law_refused" ["_law_kind", "_law_book", "_law_tree_here", "_law_made"] (spRef K C Cb Ct Cm)) : FnOk P w K mg base CX0 11 f fd ["_law_script"] (spLaw K) := by
  refine F.ok scLaw (fun vs H Q E h => ?_) (fun cdv A outer s H vs Q E hr h => ?_)
  · obtain ⟨a, ns, rfl, _⟩ := h
    rfl
  · obtain ⟨a, ns, rfl, sc, k⟩ := h
    have hr1 : Room 1 _ := hr.mono (by decide)
    have hr2 : Room 2 _ := hr.mono (by decide)
    have hr3 : Room 3 _ := hr.mono (by decide)
    have hr4 : Room 4 _ := hr.mono (by decide)
    have hr8 : Room 8 _ := hr.mono (by decide)
    have hu : (A.deeper (envOfC "law" (defScope sLaw) s.heap.objs.size f cdv)).units + 64 < cLine := by have := hr.un; omega
    refine ⟨_, pss_cons (ps_set (i := 1) scLaw.nd rfl (Or.inl rfl) (pe_lst (pa_cons (pv 0) (pa_cons pe_int (pa_cons pe_int (pa_cons pe_int pa_nil))))))
      (pss_cons (ps_for PassesOwn.never rfl (pi_range1 (by rfl) T.rng (pa_cons pe_int pa_nil)) (pg_name (i := 2) scLaw.nd rfl (Or.inl rfl))
        (pss_cons (ps_par (i := 3) (j := 4) rfl scLaw.nd rfl rfl (by decide) rfl rfl (pa_cons (pe_call cRs.F hr4 (by rfl) cRs.g cRs.kp cRs.b .nil pass0 (pa_cons (pv 1) (pa_cons pe_int pa_nil))) (pa_cons (pe_call cTr.F hr4 (by rfl) cTr.g cTr.kp cTr.b .nil pass0 (pa_cons (pv 1) pa_nil)) pa_nil)) rfl)
        (pss_cons (ps_par (i := 5) (j := 6) rfl scLaw.nd rfl rfl (by decide) rfl rfl (pa_cons (pe_make B.mkr FI hr8 (by rfl) B.g bI .nil (lets (E := E0) takes0) (pa_cons (pv 3) pa_nil))
          (pa_cons (pe_ix (r := rIxL K) ix_list (pe_lst (pa_cons pe_non (pa_cons (pv 3) (pa_cons pe_int (pa_cons pe_bl (pa_cons pe_str (pa_cons pe_dnewK pa_nil))))))) (pe_call cT.F hr1 (by rfl) cT.g cT.kp cT.b .nil pass0 (pa_cons (pv 1) (pa_cons pe_int pa_nil))) (fun _ _ => rfl)) pa_nil)) rfl)
        (pss_cons (ps_asg (pe_call cD.F hr3 (by rfl) cD.g cD.kp cD.b .nil pass0 (pa_cons (pv 1) (pa_cons (pv 4) pa_nil))) (pg_lst rfl (pgs_cons (pg_name (i := 7) scLaw.nd rfl (Or.inl rfl)) (pgs_cons (pg_name (i := 8) scLaw.nd rfl (Or.inl rfl)) pgs_nil))))
        (pss_cons (ps_set (i := 9) scLaw.nd rfl (Or.inl rfl) (pe_call cO.F hr2 (by rfl) cO.g cO.kp cO.b .nil pass0 (pa_cons (pv 1) (pa_cons (pe_lst (pa_cons pe_non (pa_cons pe_int (pa_cons pe_str (pa_cons pe_str (pa_cons pe_str
          (pa_cons (pe_tup (pa_cons (pe_ix (r := rIxT K) ix_tup (pe_ix (r := rIxT K) ix_tup (pv 3) pe_int (fun _ _ => rfl)) pe_int (fun _ _ => rfl)) pa_nil)) (pa_cons pe_str (pa_cons pe_bl (pa_cons pe_dnewK pa_nil)))))))))) pa_nil))))
        (pss_cons (ps_if (pt_cmpR op_ne (pe_call cR.F hr (by rfl) cR.g cR.kp cR.b .nil pass0 (pa_cons (pe_call cT.F hr1 (by rfl) cT.g cT.kp cT.b .nil pass0 (pa_cons (pv 1) (pa_cons pe_int pa_nil))) (pa_cons (pv 6) (pa_cons (pv 7) (pa_cons (pv 9) pa_nil))))) pe_str (nomark _)) (pss_one (ps_ret pe_bl)) pss_nil)
        (pss_cons (ps_if (pt_cmpR (op_neD hu) (pe_call cR.F hr (by rfl) cR.g cR.kp cR.b .nil pass0 (pa_cons (pe_op op_add pe_int (pe_call cT.F hr1 (by rfl) cT.g cT.kp cT.b .nil pass0 (pa_cons (pv 1) (pa_cons pe_int pa_nil)))) (pa_cons (pv 5) (pa_cons (pv 7) (pa_cons (pv 9) pa_nil))))) (pe_lst (pa_cons pe_str (pa_cons (pv 8) pa_nil))) (nomark _)) (pss_one (ps_ret pe_bl)) pss_nil)
        (pss_one (ps_if (pt_cmpR op_ne (pe_call cR.F hr (by rfl) cR.g cR.kp cR.b .nil pass0 (pa_cons (pe_op op_add pe_int (pe_call cT.F hr1 (by rfl) cT.g cT.kp cT.b .nil pass0 (pa_cons (pv 1) (pa_cons pe_int pa_nil)))) (pa_cons (pv 5) (pa_cons (pv 4) (pa_cons (pv 9) pa_nil))))) pe_str (nomark _)) (pss_one (ps_ret pe_bl)) pss_nil)))))))))
      (pss_one (ps_ret pe_bl))), ?_⟩
    refine q_asgL (xs := rowL a 0 1006 0) (el_lst (ea_cons (ev_var rfl) (ea_cons ev_c (ea_cons ev_c (ea_cons ev_c ea_nil)))) (by show 4 ≤ 100000; decide)) fun r H1 hr0 e1 h1 => ?_
    have row1 : Row K H1 r := ⟨a, 0, 1006, 0, ns, h1, sc.ex e1, Int.le_refl _⟩
    refine ⟨6, rfl, by decide, by decide, for_range (lo := 0) (n := (6 : Int).toNat) (fun i τ G => ∃ (u2 u3 u4 u5 u6 u7 u8 u9 : Option V), τ = [some (.ref a), some (.ref r), u2, u3, u4, u5, u6, u7, u8, u9] ∧ Row K G r)
      ⟨none, none, none, none, none, none, none, none, rfl, row1⟩ ?_ (fun τ G _ => k G)⟩
    rintro i τ G0 hi ⟨u2, u3, u4, u5, u6, u7, u8, u9, rfl, row⟩
    -- rules and a tree
    refine parq_raw ⟨_, rfl, r, rfl, row, fun t xs gs G1 d1 hfree ht1 rs1 hpos => ⟨_, rfl, r, rfl, d1.row, fun q o zs fs G2 d2 hfree2 hq2 hpl pf2 okt => ⟨_, _, rfl, ?_⟩⟩⟩
    show tSeq (tPar 5 6 _) _ _ ([some (.ref a), some (.ref r), some (.int (0 + (i : Nat))), some (.ref t), some (.ref q), u5, u6, u7, u8, u9] : L2.St) G2
    have rs2 := rs1.dr d1.row d2
    have ht2 := tup_dr ht1 d1.row d2
    have row2 := d2.row
    clear rs1 ht1 d1 d2 hfree hfree2
    -- a book, what is none
    refine parq_raw (cons_raw (mkbook_ev (ev_var rfl) ht2 rs2 fun bk G3 e3 hb3 => ?_))
    have row3 := row2.ex e3
    have ht3 := e3 _ _ ht2
    have rs3 := rs2.mono e3
    refine cons_raw (ixP (K := K) (F := NB K) (fun h e => NB.mono h e) (fun h r d => NB.dr h r d) (ev_var rfl) (bad_list rfl ht3) row3 (by decide) (by decide) fun bad G4 hbad4 d4 => ⟨_, _, rfl, ?_⟩)
    show tSeq (tAsg _ _) _ _ ([some (.ref a), some (.ref r), some (.int (0 + (i : Nat))), some (.ref t), some (.ref q), some (.ref bk), some bad, u7, u8, u9] : L2.St) G4
    have hb4 := BkAt.dr hb3 row3 d4
    have ht4 := tup_dr ht3 row3 d4
    have rs4 := rs3.dr row3 d4
    obtain ⟨rl3, hrl3⟩ := row3.at
    have hq4 := d4.kp _ _ (ne_of (e3 _ _ hq2) hrl3 (by intro z; cases z)) (e3 _ _ hq2)
    have pf4 : Paired (FileAt G4) zs fs := paired_mono (paired_mono pf2 fun _ _ z => z.mono e3) fun _ _ z => FileAt.kp z hrl3 d4.kp
    have row4 := d4.row
    clear hb3 ht3 rs3 hq2 pf2 hrl3 rl3 ht2 rs2 row2 d4
    -- a spoilt tree
    refine ⟨_, rfl, _, rfl, r, q, .frz o (.tup zs), zs, fs, rfl, row4, hq4, .inr ⟨o, rfl⟩, pf4, okt, fun l wr u G5 d5 hl5 tr5 hu5 => ⟨l, _, rfl, sq_of hl5, rfl, _, _, rfl, _, _, rfl, rfl, ?_⟩⟩
    dsimp only
    show tSeq (tAsg _ _) _ _ ([some (.ref a), some (.ref r), some (.int (0 + (i : Nat))), some (.ref t), some (.ref q), some (.ref bk), some bad, some wr, some u, u9] : L2.St) G5
    have tree4 : Tr K G4 (.ref q) none := good_tr hq4 (.inr ⟨o, rfl⟩) pf4 okt
    have tree5 := Tr.dr tree4 row4 d5
    have hbad5 := hbad4.dr row4 d5
    have hb5 := BkAt.dr hb4 row4 d5
    have ht5 := tup_dr ht4 row4 d5
    have rs5 := rs4.dr row4 d5
    have row5 := d5.row
    clear tree4 hbad4 hb4 ht4 rs4 hq4 pf4 hl5 row4 d5
    -- what is not made
    obtain ⟨x0, xs', rfl⟩ : ∃ x0 xs', xs = x0 :: xs' := by
      cases xs with
      | nil =>
        have := pr_len rs5.1
        rw [List.length_nil] at this
        omega
      | cons x r => exact ⟨x, r, rfl⟩
    obtain ⟨g, hg, hgood⟩ := pr_get rs5.1 (i := 0) (x := x0) rfl
    obtain ⟨a0, kk, ts, ods, rfl, ha0, _, _, _, _, hm5, _⟩ := hgood
    refine q_raw (drawP (K := K) (F := OM K) (fun h e => OM.mono h e) (fun h r d => OM.dr h r d) (ev_var rfl) (made_list rfl ht5 ha0 hm5) row5 (by decide) (by decide) fun mv G6 hmv6 d6 => ?_)
    show tSeq (tIfS _ _ _) _ _ ([some (.ref a), some (.ref r), some (.int (0 + (i : Nat))), some (.ref t), some (.ref q), some (.ref bk), some bad, some wr, some u, some mv] : L2.St) G6
    have tree6 := Tr.dr tree5 row5 d6
    have tr6 := Tr.dr tr5 row5 d6
    have hbad6 := hbad5.dr row5 d6
    have hb6 := BkAt.dr hb5 row5 d6
    have ht6 := tup_dr ht5 row5 d6
    have rs6 := rs5.dr row5 d6
    have row6 := d6.row
    clear tree5 tr5 hbad5 hb5 ht5 rs5 row5 d6 ha0
    obtain ⟨dU, dp, shp, eqq⟩ := told (K := K) hu5
    -- 1
    refine sq_raw (ifs_raw (tst_raw (op_raw (call_raw (cons_raw (draw (m := 9) (ev_var rfl) ev_c row6 (by decide) (by decide) fun kd G7 hk0 hk9 d7 => ?_))))))
    have tree7 := Tr.dr tree6 row6 d7
    have tr7 := Tr.dr tr6 row6 d7
    have hbad7 := hbad6.dr row6 d7
    have hb7 := BkAt.dr hb6 row6 d7
    have ht7 := tup_dr ht6 row6 d7
    have rs7 := rs6.dr row6 d7
    have hmv7 := hmv6.dr row6 d7
    have row7 := d7.row
    clear tree6 tr6 hbad6 hb6 ht6 rs6 hmv6 row6 d7
    refine ⟨_, rfl, _, rfl, _, rfl, kd, bad, wr, mv, Cb, none, rfl, Wk.bad hk0 hk9 hbad7, .inl ⟨rfl, fun G8 e8 => ⟨rfl, _, rfl, iteF ?_⟩⟩⟩
    -- 2
    refine nxt_raw ?_
    dsimp only
    show tSeq (tIfS _ _ _) _ _ ([some (.ref a), some (.ref r), some (.int (0 + (i : Nat))), some (.ref t), some (.ref q), some (.ref bk), some bad, some wr, some u, some mv] : L2.St) G8
    have row8 := row7.ex e8
    refine sq_raw (ifs_raw (tst_raw (op_raw (call_raw (cons_raw (op_raw (draw (m := 3) (ev_var rfl) ev_c row8 (by decide) (by decide) fun k2 G9 h20 h23 d9 => ⟨6, k2, rfl, rfl, ?_⟩)))))))
    have tree9 := Tr.dr (tree7.mono e8) row8 d9
    have tr9 := Tr.dr (tr7.mono e8) row8 d9
    have hb9 := BkAt.dr (hb7.mono e8) row8 d9
    have ht9 := tup_dr (e8 _ _ ht7) row8 d9
    have rs9 := (rs7.mono e8).dr row8 d9
    have hmv9 := (hmv7.mono e8).dr row8 d9
    have row9 := d9.row
    clear tree7 tr7 hbad7 hb7 ht7 rs7 hmv7 row7 row8 d9 e8
    have wk2 : Wk K C Cb Ct Cm G9 (6 + k2) (.ref bk) wr mv Ct (some u) := by
      have : k2 = 0 ∨ k2 = 1 ∨ k2 = 2 := by omega
      rcases this with rfl | rfl | rfl
      · exact .six (.tree hb9 tr9)
      · exact .more (.inl rfl) (.tree hb9 tr9)
      · exact .more (.inr rfl) (.tree hb9 tr9)
    refine ⟨_, rfl, _, rfl, _, rfl, 6 + k2, .ref bk, wr, mv, Ct, some u, rfl, wk2, rfl, fun l2 G11 e11 hl2 => ⟨_, rfl, by show 2 ≤ sizeLine; decide, fun l3 hl3 => ?_⟩⟩
    have e12 : Ex G11 (upd G11 l3 (.lst [.str (Str.ofString "tree"), u])) := Ex.new hl3
    refine ⟨_, _, .lst (SqL.of (e12 _ _ hl2)) (.cons (.str _) (.cons (dp _) .nil)), .lst (SqL.of upd_same) (.cons (.str _) (.cons (dp _) .nil)), shp, shp, _, rfl, ?_⟩
    rw [eqq]
    refine iteF ?_
    have eA := e11.trans e12
    have hbA := hb9.mono eA
    have treeA := tree9.mono eA
    have htA := eA _ _ ht9
    have rsA := rs9.mono eA
    have hmvA := hmv9.mono eA
    have rowA := row9.ex eA
    generalize upd G11 l3 (.lst [.str (Str.ofString "tree"), u]) = GA at hbA treeA htA rsA hmvA rowA ⊢
    -- 3
    refine nxt_raw ?_
    dsimp only
    show tIfS _ _ _ _ ([some (.ref a), some (.ref r), some (.int (0 + (i : Nat))), some (.ref t), some (.ref q), some (.ref bk), some bad, some wr, some u, some mv] : L2.St) GA
    refine ifs_raw (tst_raw (op_raw (call_raw (cons_raw (op_raw (draw (m := 2) (ev_var rfl) ev_c rowA (by decide) (by decide) fun k3 GB h30 h32 dB => ⟨7, k3, rfl, rfl, ?_⟩))))))
    have treeB := Tr.dr treeA rowA dB
    have hbB := BkAt.dr hbA rowA dB
    have htB := tup_dr htA rowA dB
    have rsB := rsA.dr rowA dB
    have hmvB := hmvA.dr rowA dB
    refine ⟨_, rfl, _, rfl, _, rfl, 7 + k3, .ref bk, .ref q, mv, Cm, none, rfl, .more (by omega) (.made treeB (hmvB.nm hbB htB rsB)), .inr ⟨rfl, fun GC eC => ⟨rfl, _, rfl, iteF ?_⟩⟩⟩
    exact ⟨_, _, _, _, _, _, _, _, rfl, dB.row.ex eC⟩
end
end Bt
namespace Bt
open PySem PySem.Spec PyProof.Rows L2 Bk Bm Evl Be Cr Kr Bp Bl TL
theorem kt_at {K : PySem.W.Frag} {T : Addr} (h2 : PySem.W.isClsIn K T = true) (h3 : PySem.W.typeIn K (.ref T) = some (.type "type")) (h4 : PySem.W.subIn K (.type "tuple") (.ref T) = some false) : PySem.W.kitOne K (.type "tuple") (.ref T) = some false := by
  have e2 : ((PySem.W.clsIn K T).isSome && PySem.W.typeIn K (.ref T) == some (.type "type")) = true := by
    have h2' : (PySem.W.clsIn K T).isSome = true := h2
    rw [h2', h3]
    rfl
  show (if (Value.type "tuple" == Value.ref T) = true then some true else (if ((PySem.W.clsIn K T).isSome && PySem.W.typeIn K (.ref T) == some (.type "type")) = true then PySem.W.subIn K (.type "tuple") (.ref T) else none)) = some false
  rw [if_neg (by simp), if_pos e2]
  exact h4
theorem nf_at {K : PySem.W.Frag} {T : Addr} (h4 : PySem.W.subIn K (.type "tuple") (.ref T) = some false) : PySem.W.notFirst K T (.type "tuple") = true := by
  unfold PySem.W.notFirst
  rw [h4]
  simp
def d0 : Hk.PD := ⟨fun K => (He.ga K "is_name"), "is_name", "is_name", sIsName⟩
def d1 : Hk.PD := ⟨fun K => (He.ga K "is_path"), "is_path", "is_path", sIsPath⟩
def d2 : Hk.PD := ⟨fun K => (He.ga K "is_folder"), "is_folder", "is_folder", sIsFolder⟩
def d3 : Hk.PD := ⟨fun K => (He.ga K "has_signs"), "has_signs", "has_signs", sHas⟩
def d4 : Hk.PD := ⟨fun K => (He.ga K "is_text"), "is_text", "is_text", sIsText⟩
def d5 : Hk.PD := ⟨fun K => (He.ga K "is_file"), "is_file", "is_file", sIsFile⟩
def d6 : Hk.PD := ⟨fun K => (He.ga K "lies_within"), "lies_within", "lies_within", sLies⟩
def d7 : Hk.PD := ⟨fun K => (He.ga K "in_the_way"), "in_the_way", "in_the_way", sWay⟩
def d8 : Hk.PD := ⟨fun K => (He.ga K "may_follow"), "may_follow", "may_follow", sFollow⟩
def d9 : Hk.PD := ⟨fun K => (He.ga K "check_tree"), "check_tree", "check_tree", sCkTree⟩
def d10 : Hk.PD := ⟨fun K => (He.ga K "is_word"), "is_word", "is_word", sIsWord⟩
def d11 : Hk.PD := ⟨fun K => (He.ga K "fits"), "fits", "fits", sFits⟩
def d12 : Hk.PD := ⟨fun K => (He.ga K "is_rule"), "is_rule", "is_rule", sIsRule⟩
def d13 : Hk.PD := ⟨fun K => (He.ga K "check_rules"), "check_rules", "check_rules", sCkRules⟩
def d14 : Hk.PD := ⟨fun K => (He.ga K "check_book"), "check_book", "check_book", sCkBook⟩
def d15 : Hk.PD := ⟨fun K => (He.ga K "made_paths"), "made_paths", "made_paths", sMade⟩
def d16 : Hk.PD := ⟨fun K => (He.ga K "_law_taken"), "_law_taken", "_law_taken", Bl.sTaken⟩
def d17 : Hk.PD := ⟨fun K => (He.ga K "_law_one"), "_law_one", "_law_one", sOne⟩
def d18 : Hk.PD := ⟨fun K => (He.ga K "_law_words"), "_law_words", "_law_words", sWords⟩
def d19 : Hk.PD := ⟨fun K => (He.ga K "_law_tree"), "_law_tree", "_law_tree", sTree⟩
def d20 : Hk.PD := ⟨fun K => (He.ga K "_law_rule"), "_law_rule", "_law_rule", sRuleL⟩
def d21 : Hk.PD := ⟨fun K => (He.ga K "_law_rules"), "_law_rules", "_law_rules", sRulesL⟩
def d22 : Hk.PD := ⟨fun K => (He.ga K "_law_odd_path"), "_law_odd_path", "_law_odd_path", sOddP⟩
def d23 : Hk.PD := ⟨fun K => (He.ga K "_law_odd_words"), "_law_odd_words", "_law_odd_words", sOddW⟩
def d24 : Hk.PD := ⟨fun K => (He.ga K "_law_odd_tree"), "_law_odd_tree", "_law_odd_tree", sOddT⟩
def d25 : Hk.PD := ⟨fun K => (He.ga K "check_made"), "check_made", "check_made", sCkMade⟩
def d26 : Hk.PD := ⟨fun K => (He.ga K "told_ring"), "told_ring", "told_ring", sRing⟩
def d27 : Hk.PD := ⟨fun K => (He.ga K "right_ring"), "right_ring", "right_ring", sRR⟩
def d28 : Hk.PD := ⟨fun K => (He.ga K "told_order"), "told_order", "told_order", sOrder⟩
def d29 : Hk.PD := ⟨fun K => (He.ga K "right_order"), "right_order", "right_order", sRO⟩
def d30 : Hk.PD := ⟨fun K => (He.ga K "depths"), "depths", "depths", sDepths⟩
def d31 : Hk.PD := ⟨fun K => (He.ga K "clean"), "clean", "clean", sClean⟩
def d32 : Hk.PD := ⟨fun K => (He.ga K "run"), "run", "run", sRun⟩
def d33 : Hk.PD := ⟨fun K => (He.ga K "reads_behind"), "reads_behind", "reads_behind", sReads⟩
def d34 : Hk.PD := ⟨fun K => (He.ga K "build_for"), "build_for", "build_for", sBuildFor⟩
def d35 : Hk.PD := ⟨fun K => (He.ga K "_law_refused"), "_law_refused", "_law_refused", sRef⟩
def d36 : Hk.PD := ⟨fun K => (He.ga K "law"), "law", "law", sLaw⟩
def d37 : Hk.PD := ⟨fun K => (He.ma K (He.ga K "Book") "__init__"), "__init__", "Book.__init__", sInit⟩
def d38 : Hk.PD := ⟨fun K => (Hk.prG K (He.ma K (He.ga K "Book") "rules")), "rules", "Book.rules", sGet⟩
def d39 : Hk.PD := ⟨fun K => (He.ma K (He.ga K "BadRules") "__init__"), "__init__", "BadRules.__init__", Bp.sBtI⟩
def d40 : Hk.PD := ⟨fun K => (He.ma K (He.ga K "BadTree") "__init__"), "__init__", "BadTree.__init__", sBtI⟩
def fnL : List Hk.PD := [d0, d1, d2, d3, d4, d5, d6, d7, d8, d9, d10, d11, d12, d13, d14, d15, d16, d17, d18, d19, d20, d21, d22, d23, d24, d25, d26, d27, d28, d29, d30, d31, d32, d33, d34, d35, d36, d37, d38, d39, d40]
def faL : List He.Fa := [.free "len", .free "all", .free "any", .free "isinstance", .free "str", .free "tuple", .free "list", .free "int", .free "range", .free "enumerate", .int "MOST_NAMES" 3, .int "LONGEST_NAME" 6, .int "LONGEST_TEXT" 200, .free "zip", .free "sorted", .free "max", .int "MOST_RULES" 8, .int "MOST_JOINED" 4, .int "LONGEST_WORD" 8, .int "MOST_FILES" 20, .glo "BadRules", .glo "BadTree", .glo "Book", .cls "Book", .mkr "Book", .noat "Book" "_rules", .glo "FORMS", .exc "BadBook", .glo "BadBook", .exc "BadMade", .glo "BadMade", .exm "BadBook" "BadBook" true, .exm "BadTree" "BadBook" false, .exm "BadMade" "BadBook" false, .exm "BadTree" "BadTree" true, .exm "BadMade" "BadTree" false, .exm "BadMade" "BadMade" true, .glo "is_name", .glo "is_path", .glo "is_folder", .glo "has_signs", .glo "is_text", .glo "is_file", .glo "lies_within", .glo "in_the_way", .glo "may_follow", .glo "check_tree", .glo "is_word", .glo "fits", .glo "is_rule", .glo "check_rules", .glo "check_book", .glo "made_paths", .glo "check_made", .glo "told_order", .glo "depths", .glo "told_ring", .glo "right_order", .glo "right_ring", .glo "clean", .glo "build_for", .glo "reads_behind", .glo "run", .glo "_law_taken", .glo "_law_one", .glo "_law_words", .glo "_law_tree", .glo "_law_rule", .glo "_law_rules", .glo "_law_odd_path", .glo "_law_odd_words", .glo "_law_odd_tree", .glo "_law_refused", .glo "law"]
def t0 : He.Tab := (fun K => He.ga K "FORMS", ["join", "size", "sort", "pick", "names", "use", "choose", "need"])
def tsL : List He.Tab := [t0]
def exL (K : PySem.W.Frag) : List Bool := [(Hk.xiB K (He.ga K "BadRules") (He.ma K (He.ga K "BadRules") "__init__")).all id, (Hk.xiB K (He.ga K "BadTree") (He.ma K (He.ga K "BadTree") "__init__")).all id, (Hk.ownB K (He.ga K "Book")).all id, (Hk.prB K (He.ga K "Book") "rules").all id, He.eqO (PySem.W.findIn K (.ref (He.ga K "Book")) "__len__") (some (some (.ref (He.ma K (He.ga K "Book") "__len__")))), PySem.W.isFn K (.ref (He.ma K (He.ga K "Book") "__len__")), He.eqO (PySem.W.findIn K (.ref (He.ga K "Book")) "__eq__") (some (some (.ref (He.ma K (He.ga K "Book") "__eq__")))), PySem.W.isFn K (.ref (He.ma K (He.ga K "Book") "__eq__")), He.eqO (PySem.W.nsIn K (He.ga K "FORMS") "Size") (some none), Hk.dtB K (He.ga K "FORMS") "join" [Str.ofString "paths"], Hk.dtB K (He.ga K "FORMS") "size" [Str.ofString "path"], Hk.dtB K (He.ga K "FORMS") "sort" [Str.ofString "path"], Hk.dtB K (He.ga K "FORMS") "pick" [Str.ofString "path", Str.ofString "word"], Hk.dtB K (He.ga K "FORMS") "names" [Str.ofString "folder"], Hk.dtB K (He.ga K "FORMS") "use" [Str.ofString "path"], Hk.dtB K (He.ga K "FORMS") "choose" [Str.ofString "path", Str.ofString "path", Str.ofString "path"], Hk.dtB K (He.ga K "FORMS") "need" [Str.ofString "path", Str.ofString "word"]]
def nmL0 : List Str := ["_wall", "__name__", "RoomError", "BadTree", "BadRules", "BadBook", "BadMade", "MOST_NAMES", "LONGEST_NAME", "LONGEST_TEXT", "MOST_FILES", "names_behind", "lies_within", "in_the_way", "is_name", "is_path", "is_folder", "is_text", "has_signs", "is_file", "may_follow", "check_tree", "MOST_RULES", "MOST_JOINED", "LONGEST_WORD", "FORMS", "Book", "made_paths", "told_ring", "right_ring"]
def nmL1 : List Str := ["told_order", "right_order", "depths", "least_order", "told_paths", "rule_table", "told_made", "are_unlike_keys", "is_word", "fits", "is_rule", "check_rules", "check_book", "check_made", "LONGEST_MADE", "USE", "look_at", "next_place", "is_stopped", "places_known", "outcome_by", "text_by", "text_of", "sorted_lines", "picked_lines", "is_use", "used_paths", "text_with", "RING", "CleanBuild"]
def nmL2 : List Str := ["clean", "run", "reads_behind", "build_for", "_law_taken", "_law_one", "_law_words", "_law_tree", "_law_rule", "_law_rules", "_law_odd_path", "_law_odd_words", "_law_odd_tree", "_law_refused"]
def nmL : List Str := nmL0 ++ nmL1 ++ nmL2
def xsL0 : List Str := ["is_name", "is_path", "is_folder", "has_signs", "is_text", "is_file", "lies_within", "in_the_way", "may_follow", "check_tree", "is_word", "fits", "is_rule", "check_rules", "check_book", "made_paths", "_law_taken", "_law_one", "_law_words", "_law_tree", "_law_rule", "_law_rules", "_law_odd_path", "_law_odd_words", "_law_odd_tree", "check_made", "told_ring", "right_ring", "told_order", "right_order"]
def xsL1 : List Str := ["depths", "clean", "run", "reads_behind", "build_for", "_law_refused", "law", "Book", "BadRules", "BadTree", "FORMS", "BadBook", "BadMade"]
def xsL : List Str := xsL0 ++ xsL1
abbrev hkL : PySem.W.Hook := Hk.hookY xsL faL fnL tsL exL
def obL (s : PySem.W.SharedT) : Hk.AlY := Hk.obsYG xsL faL fnL tsL exL (HandSHeadRun.getT s)
theorem obL_eq (s : PySem.W.SharedT) : obL s = hkL.obs s.abs := Hk.obsYG_eq (HandSHeadRun.getT_eq s)
abbrev runL (w : World) : Prop := HandSHeadRun.RunEq (PySem.W.OpenLaw.row PySem.Challenge.rw_buildroom_k06_questions_refused) (PySem.W.view (PySem.W.OpenLaw.row PySem.Challenge.rw_buildroom_k06_questions_refused).prog [79]) hkL obL 20000 nmL w
theorem run_f (w : World) : runL (w.withFollow "special-get-raises" false) := by intro os; kernel_rfl
theorem run_t (w : World) : runL (w.withFollow "special-get-raises" true) := by intro os; kernel_rfl
theorem run_ok (w : World) : runL w := PySem.W.byRow2 "special-get-raises" (P := runL) run_f run_t w
theorem facts {P : Program} {w : World} {K : PySem.W.Frag} {h : Heap} {mg : Str → Option Value} {f : Addr} (X : K.In h) (G : h.Ns mainGlobals mg) (hfa : mg ("law" : Str) = some (.ref f)) (c : Hk.SaysY faL fnL tsL exL w K) :
    ∃ fd : FuncData, (∀ (s : Shared) (v : Value), BindsTo s fd ⟨[v], []⟩ [("_law_script", v)]) ∧ ∀ base : Heap, K.In base → base.Ns mainGlobals mg → FnOk P w K mg base CX0 11 f fd ["_law_script"] (spLaw K) := by
  have e := hfa.symm.trans (He.glo_ok X G (c.fact 73 (f := .glo "law") rfl))
  cases e
  obtain ⟨fd_is_name, F_is_name⟩ := c.def_ 0 (d := d0) rfl
  have F_is_name : Fun K "is_name" "is_name" sIsName (He.ga K "is_name") fd_is_name := F_is_name
  have b_is_name := F_is_name.binds (ps := ["word"]) fun _ _ _ _ _ _ us hl => match us, hl with | [_], _ => rfl
  obtain ⟨fd_is_path, F_is_path⟩ := c.def_ 1 (d := d1) rfl
  have F_is_path : Fun K "is_path" "is_path" sIsPath (He.ga K "is_path") fd_is_path := F_is_path
  have b_is_path := F_is_path.binds (ps := ["value"]) fun _ _ _ _ _ _ us hl => match us, hl with | [_], _ => rfl
  obtain ⟨fd_is_folder, F_is_folder⟩ := c.def_ 2 (d := d2) rfl
  have F_is_folder : Fun K "is_folder" "is_folder" sIsFolder (He.ga K "is_folder") fd_is_folder := F_is_folder
  have b_is_folder := F_is_folder.binds (ps := ["value"]) fun _ _ _ _ _ _ us hl => match us, hl with | [_], _ => rfl
  obtain ⟨fd_has_signs, F_has_signs⟩ := c.def_ 3 (d := d3) rfl
  have F_has_signs : Fun K "has_signs" "has_signs" sHas (He.ga K "has_signs") fd_has_signs := F_has_signs
  have b_has_signs := F_has_signs.binds (ps := ["value", "most"]) fun _ _ _ _ _ _ us hl => match us, hl with | [_, _], _ => rfl
  obtain ⟨fd_is_text, F_is_text⟩ := c.def_ 4 (d := d4) rfl
  have F_is_text : Fun K "is_text" "is_text" sIsText (He.ga K "is_text") fd_is_text := F_is_text
  have b_is_text := F_is_text.binds (ps := ["value"]) fun _ _ _ _ _ _ us hl => match us, hl with | [_], _ => rfl
  obtain ⟨fd_is_file, F_is_file⟩ := c.def_ 5 (d := d5) rfl
  have F_is_file : Fun K "is_file" "is_file" sIsFile (He.ga K "is_file") fd_is_file := F_is_file
  have b_is_file := F_is_file.binds (ps := ["value"]) fun _ _ _ _ _ _ us hl => match us, hl with | [_], _ => rfl
  obtain ⟨fd_lies_within, F_lies_within⟩ := c.def_ 6 (d := d6) rfl
  have F_lies_within : Fun K "lies_within" "lies_within" sLies (He.ga K "lies_within") fd_lies_within := F_lies_within
  have b_lies_within := F_lies_within.binds (ps := ["path", "folder"]) fun _ _ _ _ _ _ us hl => match us, hl with | [_, _], _ => rfl
  obtain ⟨fd_in_the_way, F_in_the_way⟩ := c.def_ 7 (d := d7) rfl
  have F_in_the_way : Fun K "in_the_way" "in_the_way" sWay (He.ga K "in_the_way") fd_in_the_way := F_in_the_way
  have b_in_the_way := F_in_the_way.binds (ps := ["one", "other"]) fun _ _ _ _ _ _ us hl => match us, hl with | [_, _], _ => rfl
  obtain ⟨fd_may_follow, F_may_follow⟩ := c.def_ 8 (d := d8) rfl
  have F_may_follow : Fun K "may_follow" "may_follow" sFollow (He.ga K "may_follow") fd_may_follow := F_may_follow
  have b_may_follow := F_may_follow.binds (ps := ["path", "files"]) fun _ _ _ _ _ _ us hl => match us, hl with | [_, _], _ => rfl
  obtain ⟨fd_check_tree, F_check_tree⟩ := c.def_ 9 (d := d9) rfl
  have F_check_tree : Fun K "check_tree" "check_tree" sCkTree (He.ga K "check_tree") fd_check_tree := F_check_tree
  have b_check_tree := F_check_tree.binds (ps := ["value"]) fun _ _ _ _ _ _ us hl => match us, hl with | [_], _ => rfl
  obtain ⟨fd_is_word, F_is_word⟩ := c.def_ 10 (d := d10) rfl
  have F_is_word : Fun K "is_word" "is_word" sIsWord (He.ga K "is_word") fd_is_word := F_is_word
  have b_is_word := F_is_word.binds (ps := ["value"]) fun _ _ _ _ _ _ us hl => match us, hl with | [_], _ => rfl
  obtain ⟨fd_fits, F_fits⟩ := c.def_ 11 (d := d11) rfl
  have F_fits : Fun K "fits" "fits" sFits (He.ga K "fits") fd_fits := F_fits
  have b_fits := F_fits.binds (ps := ["form", "value"]) fun _ _ _ _ _ _ us hl => match us, hl with | [_, _], _ => rfl
  obtain ⟨fd_is_rule, F_is_rule⟩ := c.def_ 12 (d := d12) rfl
  have F_is_rule : Fun K "is_rule" "is_rule" sIsRule (He.ga K "is_rule") fd_is_rule := F_is_rule
  have b_is_rule := F_is_rule.binds (ps := ["value"]) fun _ _ _ _ _ _ us hl => match us, hl with | [_], _ => rfl
  obtain ⟨fd_check_rules, F_check_rules⟩ := c.def_ 13 (d := d13) rfl
  have F_check_rules : Fun K "check_rules" "check_rules" sCkRules (He.ga K "check_rules") fd_check_rules := F_check_rules
  have b_check_rules := F_check_rules.binds (ps := ["value"]) fun _ _ _ _ _ _ us hl => match us, hl with | [_], _ => rfl
  obtain ⟨fd_check_book, F_check_book⟩ := c.def_ 14 (d := d14) rfl
  have F_check_book : Fun K "check_book" "check_book" sCkBook (He.ga K "check_book") fd_check_book := F_check_book
  have b_check_book := F_check_book.binds (ps := ["value"]) fun _ _ _ _ _ _ us hl => match us, hl with | [_], _ => rfl
  obtain ⟨fd_made_paths, F_made_paths⟩ := c.def_ 15 (d := d15) rfl
  have F_made_paths : Fun K "made_paths" "made_paths" sMade (He.ga K "made_paths") fd_made_paths := F_made_paths
  have b_made_paths := F_made_paths.binds (ps := ["book"]) fun _ _ _ _ _ _ us hl => match us, hl with | [_], _ => rfl
  obtain ⟨fd__law_taken, F__law_taken⟩ := c.def_ 16 (d := d16) rfl
  have F__law_taken : Fun K "_law_taken" "_law_taken" Bl.sTaken (He.ga K "_law_taken") fd__law_taken := F__law_taken
  have b__law_taken := F__law_taken.binds (ps := ["_law_row", "_law_many"]) fun _ _ _ _ _ _ us hl => match us, hl with | [_, _], _ => rfl
  obtain ⟨fd__law_one, F__law_one⟩ := c.def_ 17 (d := d17) rfl
  have F__law_one : Fun K "_law_one" "_law_one" sOne (He.ga K "_law_one") fd__law_one := F__law_one
  have b__law_one := F__law_one.binds (ps := ["_law_row", "_law_things"]) fun _ _ _ _ _ _ us hl => match us, hl with | [_, _], _ => rfl
  obtain ⟨fd__law_words, F__law_words⟩ := c.def_ 18 (d := d18) rfl
  have F__law_words : Fun K "_law_words" "_law_words" sWords (He.ga K "_law_words") fd__law_words := F__law_words
  have b__law_words := F__law_words.binds (ps := ["_law_row"]) fun _ _ _ _ _ _ us hl => match us, hl with | [_], _ => rfl
  obtain ⟨fd__law_tree, F__law_tree⟩ := c.def_ 19 (d := d19) rfl
  have F__law_tree : Fun K "_law_tree" "_law_tree" sTree (He.ga K "_law_tree") fd__law_tree := F__law_tree
  have b__law_tree := F__law_tree.binds (ps := ["_law_row"]) fun _ _ _ _ _ _ us hl => match us, hl with | [_], _ => rfl
  obtain ⟨fd__law_rule, F__law_rule⟩ := c.def_ 20 (d := d20) rfl
  have F__law_rule : Fun K "_law_rule" "_law_rule" sRuleL (He.ga K "_law_rule") fd__law_rule := F__law_rule
  have b__law_rule := F__law_rule.binds (ps := ["_law_row", "_law_made", "_law_all_made"]) fun _ _ _ _ _ _ us hl => match us, hl with | [_, _, _], _ => rfl
  obtain ⟨fd__law_rules, F__law_rules⟩ := c.def_ 21 (d := d21) rfl
  have F__law_rules : Fun K "_law_rules" "_law_rules" sRulesL (He.ga K "_law_rules") fd__law_rules := F__law_rules
  have b__law_rules := F__law_rules.binds (ps := ["_law_row", "_law_most"]) fun _ _ _ _ _ _ us hl => match us, hl with | [_, _], _ => rfl
  obtain ⟨fd__law_odd_path, F__law_odd_path⟩ := c.def_ 22 (d := d22) rfl
  have F__law_odd_path : Fun K "_law_odd_path" "_law_odd_path" sOddP (He.ga K "_law_odd_path") fd__law_odd_path := F__law_odd_path
  have b__law_odd_path := F__law_odd_path.binds (ps := ["_law_row"]) fun _ _ _ _ _ _ us hl => match us, hl with | [_], _ => rfl
  obtain ⟨fd__law_odd_words, F__law_odd_words⟩ := c.def_ 23 (d := d23) rfl
  have F__law_odd_words : Fun K "_law_odd_words" "_law_odd_words" sOddW (He.ga K "_law_odd_words") fd__law_odd_words := F__law_odd_words
  have b__law_odd_words := F__law_odd_words.binds (ps := ["_law_row"]) fun _ _ _ _ _ _ us hl => match us, hl with | [_], _ => rfl
  obtain ⟨fd__law_odd_tree, F__law_odd_tree⟩ := c.def_ 24 (d := d24) rfl
  have F__law_odd_tree : Fun K "_law_odd_tree" "_law_odd_tree" sOddT (He.ga K "_law_odd_tree") fd__law_odd_tree := F__law_odd_tree
  have b__law_odd_tree := F__law_odd_tree.binds (ps := ["_law_row", "_law_tree_here"]) fun _ _ _ _ _ _ us hl => match us, hl with | [_, _], _ => rfl
  obtain ⟨fd_check_made, F_check_made⟩ := c.def_ 25 (d := d25) rfl
  have F_check_made : Fun K "check_made" "check_made" sCkMade (He.ga K "check_made") fd_check_made := F_check_made
  have b_check_made := F_check_made.binds (ps := ["book", "value"]) fun _ _ _ _ _ _ us hl => match us, hl with | [_, _], _ => rfl
  obtain ⟨fd_told_ring, F_told_ring⟩ := c.def_ 26 (d := d26) rfl
  have F_told_ring : Fun K "told_ring" "told_ring" sRing (He.ga K "told_ring") fd_told_ring := F_told_ring
  have b_told_ring := F_told_ring.binds (ps := ["book"]) fun _ _ _ _ _ _ us hl => match us, hl with | [_], _ => rfl
  obtain ⟨fd_right_ring, F_right_ring⟩ := c.def_ 27 (d := d27) rfl
  have F_right_ring : Fun K "right_ring" "right_ring" sRR (He.ga K "right_ring") fd_right_ring := F_right_ring
  have b_right_ring := F_right_ring.binds (ps := ["book", "value"]) fun _ _ _ _ _ _ us hl => match us, hl with | [_, _], _ => rfl
  obtain ⟨fd_told_order, F_told_order⟩ := c.def_ 28 (d := d28) rfl
  have F_told_order : Fun K "told_order" "told_order" sOrder (He.ga K "told_order") fd_told_order := F_told_order
  have b_told_order := F_told_order.binds (ps := ["book"]) fun _ _ _ _ _ _ us hl => match us, hl with | [_], _ => rfl
  obtain ⟨fd_right_order, F_right_order⟩ := c.def_ 29 (d := d29) rfl
  have F_right_order : Fun K "right_order" "right_order" sRO (He.ga K "right_order") fd_right_order := F_right_order
  have b_right_order := F_right_order.binds (ps := ["book", "value"]) fun _ _ _ _ _ _ us hl => match us, hl with | [_, _], _ => rfl
  obtain ⟨fd_depths, F_depths⟩ := c.def_ 30 (d := d30) rfl
  have F_depths : Fun K "depths" "depths" sDepths (He.ga K "depths") fd_depths := F_depths
  have b_depths := F_depths.binds (ps := ["book"]) fun _ _ _ _ _ _ us hl => match us, hl with | [_], _ => rfl
  obtain ⟨fd_clean, F_clean⟩ := c.def_ 31 (d := d31) rfl
  have F_clean : Fun K "clean" "clean" sClean (He.ga K "clean") fd_clean := F_clean
  have b_clean := F_clean.binds (ps := ["book", "tree"]) fun _ _ _ _ _ _ us hl => match us, hl with | [_, _], _ => rfl
  obtain ⟨fd_run, F_run⟩ := c.def_ 32 (d := d32) rfl
  have F_run : Fun K "run" "run" sRun (He.ga K "run") fd_run := F_run
  have b_run := F_run.binds (ps := ["book", "tree", "made"]) fun _ _ _ _ _ _ us hl => match us, hl with | [_, _, _], _ => rfl
  obtain ⟨fd_reads_behind, F_reads_behind⟩ := c.def_ 33 (d := d33) rfl
  have F_reads_behind : Fun K "reads_behind" "reads_behind" sReads (He.ga K "reads_behind") fd_reads_behind := F_reads_behind
  have b_reads_behind := F_reads_behind.binds (ps := ["book", "tree", "made"]) fun _ _ _ _ _ _ us hl => match us, hl with | [_, _, _], _ => rfl
  obtain ⟨fd_build_for, F_build_for⟩ := c.def_ 34 (d := d34) rfl
  have F_build_for : Fun K "build_for" "build_for" sBuildFor (He.ga K "build_for") fd_build_for := F_build_for
  have b_build_for := F_build_for.binds (ps := ["book", "tree", "made"]) fun _ _ _ _ _ _ us hl => match us, hl with | [_, _, _], _ => rfl
  obtain ⟨fd__law_refused, F__law_refused⟩ := c.def_ 35 (d := d35) rfl
  have F__law_refused : Fun K "_law_refused" "_law_refused" sRef (He.ga K "_law_refused") fd__law_refused := F__law_refused
  have b__law_refused := F__law_refused.binds (ps := ["_law_kind", "_law_book", "_law_tree_here", "_law_made"]) fun _ _ _ _ _ _ us hl => match us, hl with | [_, _, _, _], _ => rfl
  obtain ⟨fd_law, F_law⟩ := c.def_ 36 (d := d36) rfl
  have F_law : Fun K "law" "law" sLaw (He.ga K "law") fd_law := F_law
  have b_law := F_law.binds (ps := ["_law_script"]) fun _ _ _ _ _ _ us hl => match us, hl with | [_], _ => rfl
  have T : Gv mg := ⟨(He.free_ok X G (c.fact 0 (f := .free "len") rfl)), (He.free_ok X G (c.fact 1 (f := .free "all") rfl)), (He.free_ok X G (c.fact 2 (f := .free "any") rfl)), (He.free_ok X G (c.fact 3 (f := .free "isinstance") rfl)), (He.free_ok X G (c.fact 4 (f := .free "str") rfl)), (He.free_ok X G (c.fact 5 (f := .free "tuple") rfl)), (He.free_ok X G (c.fact 6 (f := .free "list") rfl)), (He.free_ok X G (c.fact 7 (f := .free "int") rfl)), (He.free_ok X G (c.fact 8 (f := .free "range") rfl)), (He.free_ok X G (c.fact 9 (f := .free "enumerate") rfl)), (He.int_ok X G (c.fact 10 (f := .int "MOST_NAMES" 3) rfl)), (He.int_ok X G (c.fact 11 (f := .int "LONGEST_NAME" 6) rfl)), (He.int_ok X G (c.fact 12 (f := .int "LONGEST_TEXT" 200) rfl)), (He.free_ok X G (c.fact 13 (f := .free "zip") rfl)), (He.free_ok X G (c.fact 14 (f := .free "sorted") rfl)), (He.free_ok X G (c.fact 15 (f := .free "max") rfl)), (He.int_ok X G (c.fact 16 (f := .int "MOST_RULES" 8) rfl)), (He.int_ok X G (c.fact 17 (f := .int "MOST_JOINED" 4) rfl)), (He.int_ok X G (c.fact 18 (f := .int "LONGEST_WORD" 8) rfl)), (He.int_ok X G (c.fact 19 (f := .int "MOST_FILES" 20) rfl))⟩
  obtain ⟨fdI, FI⟩ := c.def_ 37 (d := d37) rfl
  have FI : Fun K "__init__" "Book.__init__" sInit (He.ma K (He.ga K "Book") "__init__") fdI := FI
  have bI := FI.binds (ps := ["self", "rules"]) fun _ _ _ _ _ _ us hl => match us, hl with | [_, _], _ => rfl
  obtain ⟨fdG, FG⟩ := c.def_ 38 (d := d38) rfl
  have FG : Fun K "rules" "Book.rules" sGet (Hk.prG K (He.ma K (He.ga K "Book") "rules")) fdG := FG
  have bG := FG.binds (ps := ["self"]) fun _ _ _ _ _ _ us hl => match us, hl with | [_], _ => rfl
  obtain ⟨fdX, FX⟩ := c.def_ 39 (d := d39) rfl
  have FX : Fun K "__init__" "BadRules.__init__" Bp.sBtI (He.ma K (He.ga K "BadRules") "__init__") fdX := FX
  have bX := FX.binds (ps := ["self", "index"]) fun _ _ _ _ _ _ us hl => match us, hl with | [_, _], _ => rfl
  obtain ⟨fdW, FW⟩ := c.def_ 40 (d := d40) rfl
  have FW : Fun K "__init__" "BadTree.__init__" sBtI (He.ma K (He.ga K "BadTree") "__init__") fdW := FW
  have bW := FW.binds (ps := ["self", "index"]) fun _ _ _ _ _ _ us hl => match us, hl with | [_, _], _ => rfl
  have xi_ := Hk.xiB_ok (c.more 0 (x := (Hk.xiB K (He.ga K "BadRules") (He.ma K (He.ga K "BadRules") "__init__")).all id) rfl)
  have xi : Xi K mg "BadRules" (He.ga K "BadRules") (He.ma K (He.ga K "BadRules") "__init__") := ⟨(He.glo_ok X G (c.fact 20 (f := .glo "BadRules") rfl)), xi_.o, xi_.f, xi_.n, xi_.i, xi_.t⟩
  have xt_ := Hk.xiB_ok (c.more 1 (x := (Hk.xiB K (He.ga K "BadTree") (He.ma K (He.ga K "BadTree") "__init__")).all id) rfl)
  have xt : Xi K mg "BadTree" (He.ga K "BadTree") (He.ma K (He.ga K "BadTree") "__init__") := ⟨(He.glo_ok X G (c.fact 21 (f := .glo "BadTree") rfl)), xt_.o, xt_.f, xt_.n, xt_.i, xt_.t⟩
  have ow := Hk.ownB_ok (c.more 2 (x := (Hk.ownB K (He.ga K "Book")).all id) rfl)
  have B : Bks K mg (He.ga K "Book") (He.ma K (He.ga K "Book") "__init__") (He.ma K (He.ga K "Book") "rules") (Hk.prG K (He.ma K (He.ga K "Book") "rules")) (He.ma K (He.ga K "Book") "__len__") (He.ma K (He.ga K "Book") "__eq__") := ⟨(He.glo_ok X G (c.fact 22 (f := .glo "Book") rfl)), (He.cls_ok (c.fact 23 (f := .cls "Book") rfl)), (He.mkr_ok (c.fact 24 (f := .mkr "Book") rfl)), (He.noat_ok (c.fact 25 (f := .noat "Book" "_rules") rfl)), Hk.prB_ok (c.more 3 (x := (Hk.prB K (He.ga K "Book") "rules").all id) rfl), (He.eqO_ok (c.more 4 (x := He.eqO (PySem.W.findIn K (.ref (He.ga K "Book")) "__len__") (some (some (.ref (He.ma K (He.ga K "Book") "__len__"))))) rfl)), (c.more 5 (x := PySem.W.isFn K (.ref (He.ma K (He.ga K "Book") "__len__"))) rfl), (He.eqO_ok (c.more 6 (x := He.eqO (PySem.W.findIn K (.ref (He.ga K "Book")) "__eq__") (some (some (.ref (He.ma K (He.ga K "Book") "__eq__"))))) rfl)), (c.more 7 (x := PySem.W.isFn K (.ref (He.ma K (He.ga K "Book") "__eq__"))) rfl), nf_at ow.st, ow.ha, ow.hn, ow.ht, ow.hm, kt_at ow.ic ow.ty ow.st⟩
  obtain ⟨esFm, nFm, kdFm⟩ := c.tab 0 (t := t0) rfl
  have Fm : Fms K w mg (He.ga K "FORMS") esFm nFm := ⟨(He.glo_ok X G (c.fact 26 (f := .glo "FORMS") rfl)), kdFm, fun z hz => by
    have hz' : z = Str.ofString "Size" ∨ z = Str.ofString "join" ∨ z = Str.ofString "size" ∨ z = Str.ofString "sort" ∨ z = Str.ofString "pick" ∨ z = Str.ofString "names" ∨ z = Str.ofString "use" ∨ z = Str.ofString "choose" ∨ z = Str.ofString "need" := by
      revert z
      decide +kernel
    rcases hz' with rfl | rfl | rfl | rfl | rfl | rfl | rfl | rfl | rfl
    · have e : formOf (Str.ofString "Size") = none := by decide +kernel
      rw [e]
      exact (He.eqO_ok (c.more 8 (x := He.eqO (PySem.W.nsIn K (He.ga K "FORMS") "Size") (some none)) rfl))
    · have e : formOf (Str.ofString "join") = some [Str.ofString "paths"] := by decide +kernel
      rw [e]
      exact Hk.dtB_ok (c.more 9 (x := Hk.dtB K (He.ga K "FORMS") "join" [Str.ofString "paths"]) rfl)
    · have e : formOf (Str.ofString "size") = some [Str.ofString "path"] := by decide +kernel
      rw [e]
      exact Hk.dtB_ok (c.more 10 (x := Hk.dtB K (He.ga K "FORMS") "size" [Str.ofString "path"]) rfl)
    · have e : formOf (Str.ofString "sort") = some [Str.ofString "path"] := by decide +kernel
      rw [e]
      exact Hk.dtB_ok (c.more 11 (x := Hk.dtB K (He.ga K "FORMS") "sort" [Str.ofString "path"]) rfl)
    · have e : formOf (Str.ofString "pick") = some [Str.ofString "path", Str.ofString "word"] := by decide +kernel
      rw [e]
      exact Hk.dtB_ok (c.more 12 (x := Hk.dtB K (He.ga K "FORMS") "pick" [Str.ofString "path", Str.ofString "word"]) rfl)
    · have e : formOf (Str.ofString "names") = some [Str.ofString "folder"] := by decide +kernel
      rw [e]
      exact Hk.dtB_ok (c.more 13 (x := Hk.dtB K (He.ga K "FORMS") "names" [Str.ofString "folder"]) rfl)
    · have e : formOf (Str.ofString "use") = some [Str.ofString "path"] := by decide +kernel
      rw [e]
      exact Hk.dtB_ok (c.more 14 (x := Hk.dtB K (He.ga K "FORMS") "use" [Str.ofString "path"]) rfl)
    · have e : formOf (Str.ofString "choose") = some [Str.ofString "path", Str.ofString "path", Str.ofString "path"] := by decide +kernel
      rw [e]
      exact Hk.dtB_ok (c.more 15 (x := Hk.dtB K (He.ga K "FORMS") "choose" [Str.ofString "path", Str.ofString "path", Str.ofString "path"]) rfl)
    · have e : formOf (Str.ofString "need") = some [Str.ofString "path", Str.ofString "word"] := by decide +kernel
      rw [e]
      exact Hk.dtB_ok (c.more 16 (x := Hk.dtB K (He.ga K "FORMS") "need" [Str.ofString "path", Str.ofString "word"]) rfl)
    ⟩
  have xbk_ := He.exc_ok (c.fact 27 (f := .exc "BadBook") rfl)
  have xbk : Xc K mg "BadBook" (He.ga K "BadBook") := ⟨(He.glo_ok X G (c.fact 28 (f := .glo "BadBook") rfl)), xbk_.1, xbk_.2.1, xbk_.2.2.1, xbk_.2.2.2⟩
  have xma_ := He.exc_ok (c.fact 29 (f := .exc "BadMade") rfl)
  have xma : Xc K mg "BadMade" (He.ga K "BadMade") := ⟨(He.glo_ok X G (c.fact 30 (f := .glo "BadMade") rfl)), xma_.1, xma_.2.1, xma_.2.2.1, xma_.2.2.2⟩
  have xs : Exs K mg (He.ga K "BadBook") (He.ga K "BadTree") (He.ma K (He.ga K "BadTree") "__init__") (He.ga K "BadMade") := ⟨xbk, xt, xma, (He.exm_ok (c.fact 31 (f := .exm "BadBook" "BadBook" true) rfl)), (He.exm_ok (c.fact 32 (f := .exm "BadTree" "BadBook" false) rfl)), (He.exm_ok (c.fact 33 (f := .exm "BadMade" "BadBook" false) rfl)), (He.exm_ok (c.fact 34 (f := .exm "BadTree" "BadTree" true) rfl)), (He.exm_ok (c.fact 35 (f := .exm "BadMade" "BadTree" false) rfl)), (He.exm_ok (c.fact 36 (f := .exm "BadMade" "BadMade" true) rfl))⟩
  obtain ⟨_, _, kV, doc, pm, an, cdv, ct, osl, efd, _, _⟩ := id F_law.ex
  refine ⟨fd_law, fun s v => by rw [efd]; exact .of_eq rfl, fun base _ _ => ?_⟩
  have cName : Cal P w K mg base CX0 1 "is_name" ["word"] spName := ⟨(He.ga K "is_name"), _, ok_name F_is_name T, (He.glo_ok X G (c.fact 37 (f := .glo "is_name") rfl)), F_is_name.kp, b_is_name⟩
  have cPath : Cal P w K mg base CX0 2 "is_path" ["value"] (spPath (K := K)) := ⟨(He.ga K "is_path"), _, ok_path F_is_path T cName, (He.glo_ok X G (c.fact 38 (f := .glo "is_path") rfl)), F_is_path.kp, b_is_path⟩
  have cFolder : Cal P w K mg base CX0 3 "is_folder" ["value"] spFolder := ⟨(He.ga K "is_folder"), _, ok_folder F_is_folder cPath, (He.glo_ok X G (c.fact 39 (f := .glo "is_folder") rfl)), F_is_folder.kp, b_is_folder⟩
  have cHas : Cal P w K mg base CX0 1 "has_signs" ["value", "most"] (spHas (K := K)) := ⟨(He.ga K "has_signs"), _, ok_has F_has_signs T, (He.glo_ok X G (c.fact 40 (f := .glo "has_signs") rfl)), F_has_signs.kp, b_has_signs⟩
  have cText : Cal P w K mg base CX0 2 "is_text" ["value"] (spText (K := K)) := ⟨(He.ga K "is_text"), _, ok_text F_is_text T cHas, (He.glo_ok X G (c.fact 41 (f := .glo "is_text") rfl)), F_is_text.kp, b_is_text⟩
  have cFile : Cal P w K mg base CX0 3 "is_file" ["value"] (spFile (K := K)) := ⟨(He.ga K "is_file"), _, ok_file F_is_file T cPath cText, (He.glo_ok X G (c.fact 42 (f := .glo "is_file") rfl)), F_is_file.kp, b_is_file⟩
  have cLies : Cal P w K mg base CX0 1 "lies_within" ["path", "folder"] spLies := ⟨(He.ga K "lies_within"), _, ok_lies F_lies_within, (He.glo_ok X G (c.fact 43 (f := .glo "lies_within") rfl)), F_lies_within.kp, b_lies_within⟩
  have cWay : Cal P w K mg base CX0 2 "in_the_way" ["one", "other"] spWay := ⟨(He.ga K "in_the_way"), _, ok_way F_in_the_way cLies, (He.glo_ok X G (c.fact 44 (f := .glo "in_the_way") rfl)), F_in_the_way.kp, b_in_the_way⟩
  have cFollow : Cal P w K mg base CX0 2 "may_follow" ["path", "files"] (spFollow (K := K)) := ⟨(He.ga K "may_follow"), _, ok_follow F_may_follow T cLies, (He.glo_ok X G (c.fact 45 (f := .glo "may_follow") rfl)), F_may_follow.kp, b_may_follow⟩
  have cCkT : Cal P w K mg base (L2.CX P w) 4 "check_tree" ["value"] (spCkTree (K := K) (He.ga K "BadTree")) := ⟨(He.ga K "check_tree"), _, ok_ckTree F_check_tree T xt (Bt.ok_btI FW) bW cFile cFollow, (He.glo_ok X G (c.fact 46 (f := .glo "check_tree") rfl)), F_check_tree.kp, b_check_tree⟩
  have cWord : Cal P w K mg base CX0 3 "is_word" ["value"] (spWord (K := K)) := ⟨(He.ga K "is_word"), _, ok_word F_is_word T cText, (He.glo_ok X G (c.fact 47 (f := .glo "is_word") rfl)), F_is_word.kp, b_is_word⟩
  have cFits : Cal P w K mg base CX0 4 "fits" ["form", "value"] (spFits (K := K)) := ⟨(He.ga K "fits"), _, ok_fits F_fits T cPath cWord cFolder, (He.glo_ok X G (c.fact 48 (f := .glo "fits") rfl)), F_fits.kp, b_fits⟩
  have cRule : Cal P w K mg base CX0 5 "is_rule" ["value"] (spRule (K := K)) := ⟨(He.ga K "is_rule"), _, ok_rule F_is_rule T Fm cPath cFits, (He.glo_ok X G (c.fact 49 (f := .glo "is_rule") rfl)), F_is_rule.kp, b_is_rule⟩
  have cCkR : Cal P w K mg base (L2.CX P w) 6 "check_rules" ["value"] (spCkRules (K := K) (He.ga K "BadRules")) := ⟨(He.ga K "check_rules"), _, ok_ckRules F_check_rules T xi (Bp.ok_btI FX) bX cRule cWay, (He.glo_ok X G (c.fact 50 (f := .glo "check_rules") rfl)), F_check_rules.kp, b_check_rules⟩
  have gI := ok_init FI B cCkR
  have cCkB : Cal P w K mg base CX0 1 "check_book" ["value"] (spCkB (He.ga K "Book")) := ⟨(He.ga K "check_book"), _, ok_ckBook F_check_book T B, (He.glo_ok X G (c.fact 51 (f := .glo "check_book") rfl)), F_check_book.kp, b_check_book⟩
  have cMade : Cal P w K mg base CX0 3 "made_paths" ["book"] (spMade (K := K) (He.ga K "Book")) := ⟨(He.ga K "made_paths"), _, ok_made F_made_paths T B (ok_get FG B) bG cCkB, (He.glo_ok X G (c.fact 52 (f := .glo "made_paths") rfl)), F_made_paths.kp, b_made_paths⟩
  have cB2 : Cal P w K mg base (L2.CX P w) 2 "check_book" ["value"] (spCkB2 K (He.ga K "Book") (He.ga K "BadBook")) := ⟨(He.ga K "check_book"), _, ok_ckBook2 F_check_book T xbk B ow.ic ow.ty, (He.glo_ok X G (c.fact 51 (f := .glo "check_book") rfl)), F_check_book.kp, b_check_book⟩
  have cMd : Cal P w K mg base (L2.CX P w) 4 "check_made" ["book", "value"] (spCkMade K (He.ga K "Book") (He.ga K "BadMade")) := ⟨(He.ga K "check_made"), _, ok_ckMade F_check_made xma cMade, (He.glo_ok X G (c.fact 53 (f := .glo "check_made") rfl)), F_check_made.kp, b_check_made⟩
  have cTO4 : Cal P w K mg base (L2.CX P w) 4 "told_order" ["book"] (spNB K (He.ga K "BadBook")) := ⟨(He.ga K "told_order"), _, ok_nbOrder (k := 3) (by decide) F_told_order cB2, (He.glo_ok X G (c.fact 54 (f := .glo "told_order") rfl)), F_told_order.kp, b_told_order⟩
  have c0 : Cal P w K mg base (L2.CX P w) 9 "depths" ["book"] (spNB K (He.ga K "BadBook")) := ⟨(He.ga K "depths"), _, ok_nbDep (k := 8) (by decide) F_depths cTO4, (He.glo_ok X G (c.fact 55 (f := .glo "depths") rfl)), F_depths.kp, b_depths⟩
  have c1 : Cal P w K mg base (L2.CX P w) 9 "made_paths" ["book"] (spNB K (He.ga K "BadBook")) := ⟨(He.ga K "made_paths"), _, ok_nbMade (k := 8) (by decide) F_made_paths cB2, (He.glo_ok X G (c.fact 52 (f := .glo "made_paths") rfl)), F_made_paths.kp, b_made_paths⟩
  have c2 : Cal P w K mg base (L2.CX P w) 9 "told_order" ["book"] (spNB K (He.ga K "BadBook")) := ⟨(He.ga K "told_order"), _, ok_nbOrder (k := 8) (by decide) F_told_order cB2, (He.glo_ok X G (c.fact 54 (f := .glo "told_order") rfl)), F_told_order.kp, b_told_order⟩
  have c3 : Cal P w K mg base (L2.CX P w) 9 "told_ring" ["book"] (spNB K (He.ga K "BadBook")) := ⟨(He.ga K "told_ring"), _, ok_nbRing (k := 8) (by decide) F_told_ring cB2, (He.glo_ok X G (c.fact 56 (f := .glo "told_ring") rfl)), F_told_ring.kp, b_told_ring⟩
  have c4 : Cal P w K mg base (L2.CX P w) 9 "right_order" ["book", "value"] (spNB2 K (He.ga K "BadBook")) := ⟨(He.ga K "right_order"), _, ok_nbRO (k := 8) (by decide) F_right_order cB2, (He.glo_ok X G (c.fact 57 (f := .glo "right_order") rfl)), F_right_order.kp, b_right_order⟩
  have c5 : Cal P w K mg base (L2.CX P w) 9 "right_ring" ["book", "value"] (spNB2 K (He.ga K "BadBook")) := ⟨(He.ga K "right_ring"), _, ok_nbRR (k := 8) (by decide) F_right_ring cB2, (He.glo_ok X G (c.fact 58 (f := .glo "right_ring") rfl)), F_right_ring.kp, b_right_ring⟩
  have c6 : Cal P w K mg base (L2.CX P w) 9 "clean" ["book", "tree"] (spWc K (He.ga K "Book") (He.ga K "BadBook") (He.ga K "BadTree")) := ⟨(He.ga K "clean"), _, ok_clean (k := 8) (by decide) F_clean cB2 cCkT, (He.glo_ok X G (c.fact 59 (f := .glo "clean") rfl)), F_clean.kp, b_clean⟩
  have cBF : Cal P w K mg base (L2.CX P w) 5 "build_for" ["book", "tree", "made"] (spWr K (He.ga K "Book") (He.ga K "BadBook") (He.ga K "BadTree") (He.ga K "BadMade")) := ⟨(He.ga K "build_for"), _, ok_buildFor F_build_for cB2 cCkT cMd, (He.glo_ok X G (c.fact 60 (f := .glo "build_for") rfl)), F_build_for.kp, b_build_for⟩
  have c7 : Cal P w K mg base (L2.CX P w) 9 "reads_behind" ["book", "tree", "made"] (spWr K (He.ga K "Book") (He.ga K "BadBook") (He.ga K "BadTree") (He.ga K "BadMade")) := ⟨(He.ga K "reads_behind"), _, ok_reads (k := 8) (by decide) F_reads_behind cBF, (He.glo_ok X G (c.fact 61 (f := .glo "reads_behind") rfl)), F_reads_behind.kp, b_reads_behind⟩
  have c8 : Cal P w K mg base (L2.CX P w) 9 "run" ["book", "tree", "made"] (spWr K (He.ga K "Book") (He.ga K "BadBook") (He.ga K "BadTree") (He.ga K "BadMade")) := ⟨(He.ga K "run"), _, ok_run (k := 8) (by decide) F_run cBF, (He.glo_ok X G (c.fact 62 (f := .glo "run") rfl)), F_run.kp, b_run⟩
  have dT : Cal P w K mg base CX0 1 "_law_taken" ["_law_row", "_law_many"] (spTaken (K := K)) := ⟨(He.ga K "_law_taken"), _, Bl.ok_taken F__law_taken T, (He.glo_ok X G (c.fact 63 (f := .glo "_law_taken") rfl)), F__law_taken.kp, b__law_taken⟩
  have dO : Cal P w K mg base CX0 2 "_law_one" ["_law_row", "_law_things"] (spOne (K := K)) := ⟨(He.ga K "_law_one"), _, ok_one F__law_one T dT, (He.glo_ok X G (c.fact 64 (f := .glo "_law_one") rfl)), F__law_one.kp, b__law_one⟩
  have dW : Cal P w K mg base CX0 3 "_law_words" ["_law_row"] (spWords (K := K)) := ⟨(He.ga K "_law_words"), _, ok_words F__law_words T dT dO, (He.glo_ok X G (c.fact 65 (f := .glo "_law_words") rfl)), F__law_words.kp, b__law_words⟩
  have dTr : Cal P w K mg base CX0 4 "_law_tree" ["_law_row"] (spTree (K := K)) := ⟨(He.ga K "_law_tree"), _, ok_tree F__law_tree T dT dW, (He.glo_ok X G (c.fact 66 (f := .glo "_law_tree") rfl)), F__law_tree.kp, b__law_tree⟩
  have dRu : Cal P w K mg base CX0 3 "_law_rule" ["_law_row", "_law_made", "_law_all_made"] (spRuleL (K := K)) := ⟨(He.ga K "_law_rule"), _, ok_ruleL F__law_rule T dT dO, (He.glo_ok X G (c.fact 67 (f := .glo "_law_rule") rfl)), F__law_rule.kp, b__law_rule⟩
  have dRs : Cal P w K mg base CX0 4 "_law_rules" ["_law_row", "_law_most"] (spRulesL (K := K)) := ⟨(He.ga K "_law_rules"), _, ok_rulesL F__law_rules T dT dRu, (He.glo_ok X G (c.fact 68 (f := .glo "_law_rules") rfl)), F__law_rules.kp, b__law_rules⟩
  have dOP : Cal P w K mg base CX0 2 "_law_odd_path" ["_law_row"] (spOdd (K := K) isPathV) := ⟨(He.ga K "_law_odd_path"), _, ok_oddP F__law_odd_path T dT, (He.glo_ok X G (c.fact 69 (f := .glo "_law_odd_path") rfl)), F__law_odd_path.kp, b__law_odd_path⟩
  have dOW : Cal P w K mg base CX0 2 "_law_odd_words" ["_law_row"] (spOdd (K := K) isTextV) := ⟨(He.ga K "_law_odd_words"), _, ok_oddW F__law_odd_words T dT, (He.glo_ok X G (c.fact 70 (f := .glo "_law_odd_words") rfl)), F__law_odd_words.kp, b__law_odd_words⟩
  have dOT : Cal P w K mg base CX0 3 "_law_odd_tree" ["_law_row", "_law_tree_here"] (spOddT (K := K)) := ⟨(He.ga K "_law_odd_tree"), _, ok_oddT F__law_odd_tree T dT dOP dOW, (He.glo_ok X G (c.fact 71 (f := .glo "_law_odd_tree") rfl)), F__law_odd_tree.kp, b__law_odd_tree⟩
  have dR : Cal P w K mg base CX0 10 "_law_refused" ["_law_kind", "_law_book", "_law_tree_here", "_law_made"] (spRef K (He.ga K "Book") (He.ga K "BadBook") (He.ga K "BadTree") (He.ga K "BadMade")) := ⟨(He.ga K "_law_refused"), _, ok_ref F__law_refused xs c0 c1 c2 c3 c4 c5 c6 c7 c8, (He.glo_ok X G (c.fact 72 (f := .glo "_law_refused") rfl)), F__law_refused.kp, b__law_refused⟩
  exact ok_law F_law T B gI bI dT dO dRs dTr dOT dR
end Bt
open PySem PySem.W PySem.Calls PyProof.Rows
set_option maxRecDepth 100000 in
set_option maxHeartbeats 0 in
theorem PySem.Challenge.cw_buildroom_k06_questions_refused_holds : PySem.Challenge.rw_buildroom_k06_questions_refused.Holds := by
  w_on; o_law
  refine HandSHeadRun.head_any (r := OpenLaw.row PySem.Challenge.rw_buildroom_k06_questions_refused) (q := view (OpenLaw.row PySem.Challenge.rw_buildroom_k06_questions_refused).prog [79]) (H := Bt.hkL) (ob := Bt.obL) (M := 20000) (loose := Bt.nmL) (d := HandSHeadRun.topDef (OpenLaw.row PySem.Challenge.rw_buildroom_k06_questions_refused).prog 79) (kwd := []) Bt.obL_eq
    (by kernel_rfl) (fun s => by kernel_rfl) Bt.run_ok (by kernel_rfl) (by kernel_rfl) (by kernel_rfl) (by rfl) (by first | assumption | decide +kernel) (by decide +kernel) ⟨rfl, rfl, rfl, rfl, rfl, by decide +kernel⟩ ?hw ?hc
  case hw => w_witness2
  case hc =>
    refine L2.walk_ofE (l := PySem.Challenge.rw_buildroom_k06_questions_refused) (n := 63) (k := 11) (x := "_law_script") (CX := L2.CX0) rfl (by decide) (by kernel_rfl) ⟨rfl, by decide, by decide⟩ ?F (fun _ _ _ _ z => z)
    intro w mg fa h Y G hmg0
    obtain ⟨K, KX, c⟩ := Y
    have hmg : mg ("law" : PySem.Str) = some (.ref fa) := by
      have e : (HandSHeadRun.topDef (OpenLaw.row PySem.Challenge.rw_buildroom_k06_questions_refused).prog 79).name = ("law" : PySem.Str) := by kernel_rfl
      rw [← e]
      exact hmg0
    obtain ⟨fd, hb, hF⟩ := Bt.facts (P := (PySem.Challenge.rw_buildroom_k06_questions_refused).prog) (w := w) KX G hmg c
    refine ⟨K, fd, Bt.spLaw K, KX, hb, fun H a ns hl hO hS => ⟨a, ns, rfl, ?_, fun _ => rfl⟩, hF⟩
    rcases hS with (h | ⟨o, h⟩) | h
    · rcases hO a with z | ⟨o, xs, z⟩
      · rw [h] at z; cases z
      · rw [h] at z; cases z
    · exact .inl ⟨o, h⟩
    · exact .inr h
