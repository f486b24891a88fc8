import PyProof.Rows.All
import Wide.All
import OpenK.AllK
import Wide.FinOn
import PyProof.EqAt
import PyProof.EqKinds
import PyProof.TupleCall
import HandS.Base
import HandS.Call
import HandS.Exc
import HandS.TryMany
import HandS.ExcOwn
import PyProof.Draws
import KE.GoesMore
import KE.GoesEnum
import HandS.List
import HandS.Dict
import HandS.Iter
import PyProof.NeKinds
import HandS.Text
import HandS.ForMost
import HandS.TryOnly
import HandS.WordsExc
import HandS.IsInst
import HandS.Walk
import HandS.TupAny
import HandS.ExcInit
import HandS.ExcField
import HandS.Evl
import KE.KDictPairs
import HandS.Head0
import HandS.Head1
import HandS.Head2
import HandS.HeadEnd
import HandS.HeadHook1
import HandS.HeadHook2
import HandS.HeadHook3
import HandS.Property
import PySem.Challenge.RW_buildroom_k92_errors_are_apart
import HandS.OwnEq
import HandS.TupMul
import HandS.RepeatKit
import HandS.More
import HandS.Zip
import PyProof.InstSpecial
import PyProof.StrBlock2
import KE.DataEq
import HandS.DictComp
import HandS.Deep
import PyProof.P3In
set_option Elab.async false
set_option linter.all false
set_option maxRecDepth 100000
set_option maxHeartbeats 8000000
namespace Bk
open PySem PySem.Spec PyProof.Rows L2

/-! ## try with several clauses, some of them «as n» -/
abbrev Cl := Value × Option Nat × (Addr → Value → Option Addr → TS)
def clEnds (n : Option Nat) (D : Ends) : Ends := match n with
  | none => D
  | some i => { nx := fun τ G => D.nx (τ.set i none) G, rt := D.rt, bk := fun τ G => D.bk (τ.set i none) G, ct := fun τ G => D.ct (τ.set i none) G }
def clSlots (n : Option Nat) (τ : L2.St) (a : Addr) : L2.St := match n with
  | none => τ
  | some i => τ.set i (some (.ref a))
def wMix (K : PySem.W.Frag) (Wo : WX) (D : Ends) : List Cl → WX
  | [] => Wo
  | (c, n, ts) :: r => fun cls d τ G => ∃ b, PySem.W.exmOne K cls c = some b ∧
      (b = true → ∀ a, G a = none → ts a cls d (clEnds n D) (clSlots n τ a) G) ∧ (b = false → wMix K Wo D r cls d τ G)
inductive HMix (X : Cx) : List ExceptHandler → List Cl → Prop
  | nil : HMix X [] []
  | bare {x : Str} {c : Value} {ts : Addr → Value → Option Addr → TS} {b0 : Stmt} {bs : List Stmt} {q1 q2 : Pos} {hs : List ExceptHandler} {l : List Cl} (hc : Names X x c)
      (su : ∀ (a : Addr) (oe : Obj) (cls : Value) (d : Option Addr) (pn : List (Addr × Obj)), Zc cls d oe → (∃ vs, oe.data = .fields vs) → PSs (X.suite a ((a, oe) :: pn)) (b0 :: bs) (ts a cls d)) (r : HMix X hs l) :
      HMix X (.ExceptHandler (some (.Name x q1)) none (b0 :: bs) q2 :: hs) ((c, none, ts) :: l)
  | named {x n : Str} {i : Nat} {c : Value} {ts : Addr → Value → Option Addr → TS} {b0 : Stmt} {bs : List Stmt} {q1 q2 : Pos} {hs : List ExceptHandler} {l : List Cl} (hc : Names X x c)
      (hi : X.N[i]? = some n) (hl : X.env.kindOf n = some .local)
      (su : ∀ (a : Addr) (oe : Obj) (cls : Value) (d : Option Addr) (pn : List (Addr × Obj)), Zc cls d oe → (∃ vs, oe.data = .fields vs) → PSs (X.suite a ((a, oe) :: pn)) (b0 :: bs) (ts a cls d)) (r : HMix X hs l) :
      HMix X (.ExceptHandler (some (.Name x q1)) (some n) (b0 :: bs) q2 :: hs) ((c, some i, ts) :: l)
section
variable {X : Cx} {body : List Stmt} {h0 : ExceptHandler} {hs : List ExceptHandler} {l : List Cl} {pos : Pos} {tb : WX → TS} {Wo : WX}
theorem ps_try_mix (st : X.stack = X.env :: X.outer) (fr : X.env.frame = some X.env.locals) (nd : X.N.Nodup) (tk : Takes X Wo)
    (hb : ∀ (W : WX) (pn : List (Addr × Obj)) (xe : Value → Shared → Prop), Takes (X.tr pn xe) W → PassesOwn (model X.prog X.w) X.A X.env xe → PSs (X.tr pn xe) body (tb W))
    (hh : HMix X (h0 :: hs) l) : PS X (.Try body (h0 :: hs) [] [] pos) (fun D τ G => tb (wMix X.K Wo D l) D τ G) := by
  refine ⟨fun pins s τ G D I h => ?_⟩
  have ok := I.ok
  have fram : X.A.frames = some (X.env :: X.outer) := by rw [ok.frames, st]
  refine wpAny_Try_except ?_
  refine wpAny_mono ((hb (wMix X.K Wo D l) (X.pn ++ pins) (fun e s1 => wpAny (model X.prog X.w) X.A (noteFrame e X.env) (fun _ s2 =>
    wpAny (model X.prog X.w) X.A (setFlight e none) (fun _ s3 => wpAny (model X.prog X.w) X.A (handleBy e X.env (h0 :: hs)) (SP X pins D) X.xe s3) X.xe s2) X.xe s1)
    (fun u s' xx => ?caught) PassesOwn.looking).run [] s τ G D (I.toTry _) h) (fun f s1 sp => ?through) (fun e s1 z => z)
  case through =>
    cases f with
    | next =>
      obtain ⟨τ', G', J, q⟩ := sp
      exact wpAny_execs_nil ⟨τ', G', J.ofTry ok, q⟩
    | brk => obtain ⟨τ', G', J, q⟩ := sp; exact ⟨τ', G', J.ofTry ok, q⟩
    | cont => obtain ⟨τ', G', J, q⟩ := sp; exact ⟨τ', G', J.ofTry ok, q⟩
    | ret u => obtain ⟨v, τ', G', J, r, q⟩ := sp; exact ⟨v, τ', G', J.ofTry ok, r, q⟩
  case caught =>
    obtain ⟨a, B, sI, pins1, τ1, G1, cls, d, rfl, J0, nb, up, sky, na, os, ag, w⟩ := xx
    have J : Inv X pins τ1 G1 sI := J0.ofTry ok
    have sky1 : Sky B (X.env :: X.outer) a (Zc cls d) X.env.locals s'.heap := by rw [← st]; exact sky
    show wpAny (model X.prog X.w) X.A (noteFrame (.ref a) X.env) _ _ _
    refine Sky.land Zc.steady fram fr sky1 fun g3 fl3 up3 => ?_
    have J3 : Inv X pins τ1 G1 { s' with heap := g3 } := J.landed nb fl3.1 (up.trans up3) os ag
    obtain ⟨o3, v3, e3, z3, d3⟩ := fl3.there
    have nofr : a ∉ frs (X.env :: X.outer) := fun hm => by
      obtain ⟨_, o', e', hn⟩ := fl3.2.2.1.mem hm
      rw [e3] at e'
      cases e'
      exact hn _ d3
    have nL : a ≠ X.env.locals := fun z => nofr (List.mem_filterMap.mpr ⟨X.env, List.mem_cons_self, by rw [fr, z]⟩)
    have nF : a ∉ X.fs := fun hm => by
      obtain ⟨e, he, q⟩ := List.mem_filterMap.mp hm
      exact nofr (List.mem_filterMap.mpr ⟨e, List.mem_cons_of_mem _ he, q⟩)
    have S3 := J3.suite e3 d3 na nL nF
    have typ : PySem.W.Looks (model X.prog X.w) g3 (typeOf (.ref a)) cls := fun A Q E s k q => wpAny_typeOf_ref (k _ _ e3) (by rw [z3.1]; exact q)
    have named : ∀ {x : Str} {c : Value} {np : Pos} {Q E : Value → Shared → Prop}, Names X x c → Q c { s' with heap := g3 } →
        wpAny (model X.prog X.w) (X.A.mark (some (.ref a))) (eval (.Name x np) X.env) Q E { s' with heap := g3 } := fun {x c np Q E} hc q => by
      obtain ⟨hg, hdbg, hm | ⟨hm, hv, hnn⟩⟩ := hc
      · exact ld_glob (X := X.suite a ((a, o3) :: (X.pn ++ pins))) S3 hg hm q hdbg
      · exact ld_blt (X := X.suite a ((a, o3) :: (X.pn ++ pins))) S3 hg hm hv q hnn hdbg
    have go : ∀ {hs1 : List ExceptHandler} {l1 : List Cl}, HMix X hs1 l1 → wMix X.K Wo D l1 cls d τ1 G1 →
        wpAny (model X.prog X.w) X.A (handleBy (.ref a) X.env hs1) (SP X pins D) X.xe { s' with heap := g3 } := by
      intro hs1 l1 hk
      induction hk with
      | nil =>
        intro w
        refine wpAny_handleBy_nil ?_
        obtain ⟨k1, k2, k3, oe, vs, T, oT, ts', he, hz, hd, h1, hr⟩ := id fl3
        unfold PySem.passOn
        refine wpAny_bind (wpAny_field he hd h1 ?_)
        rw [if_neg (show ¬ ((Value.ref T == Value.none) = true) from by simp)]
        have fin : wpAny (model X.prog X.w) X.A (setFlight (.ref a) X.env.frame) (fun _ s4 => wpAny (model X.prog X.w) X.A (throw (.ref a) : Sem Flow) (SP X pins D) X.xe s4) X.xe { s' with heap := g3 } := by
          rw [fr]
          refine HandSPX.setFlight_upZ fl3 fun g4 hh4 up4 => wpAny_throw (tk _ _ ?_)
          exact ⟨a, B, sI, pins, τ1, G1, cls, d, rfl, J, nb, (up.trans up3).trans up4, .inr (.inr (by rw [st]; exact hh4)), na, os, ag, w⟩
        first
          | exact wpAny_bind (wpAny_pure (wpAny_bind fin))
          | exact wpAny_bind fin
      | @bare x c ts b0 bs q1 q2 hs2 l2 hc su r ih =>
        rintro ⟨b, hb1, yes, no⟩
        have LM := PySem.W.exm_one (M := model X.prog X.w) (J3.kIn) typ hb1
        refine wpAny_handleBy_cons (codeAny_handlers_test ?_) (by intro q; cases q)
        refine named hc (LM.here ?_)
        cases b with
        | false =>
          show wpAny _ X.A (handleBy (.ref a) X.env hs2) _ _ _
          exact ih (no rfl)
        | true =>
          refine codeAny_handlers_suite ?_
          refine HandSPX.lands_againZ fl3 fun g4 fl4 up4 => ?_
          have J4 : Inv X pins τ1 G1 { s' with heap := g4 } := J.landed nb fl4.1 ((up.trans up3).trans up4) os ag
          obtain ⟨o4, v4, e4, z4, d4⟩ := fl4.there
          have S4 := J4.suite e4 d4 na nL nF
          refine wpAny_mono ((su a o4 cls d (X.pn ++ pins) z4 ⟨_, d4⟩).run [] _ _ G1 _ S4 (yes rfl a na)) (fun f s6 sp => ?_) (fun _ _ z => False.elim z)
          cases f with
          | next => obtain ⟨t6, G6, S6, q6⟩ := sp; exact ⟨_, _, S6.unsuite ok, q6⟩
          | brk => obtain ⟨t6, G6, S6, q6⟩ := sp; exact ⟨_, _, S6.unsuite ok, q6⟩
          | cont => obtain ⟨t6, G6, S6, q6⟩ := sp; exact ⟨_, _, S6.unsuite ok, q6⟩
          | ret u => obtain ⟨v6, t6, G6, S6, r6, q6⟩ := sp; exact ⟨_, _, _, S6.unsuite ok, r6, q6⟩
      | @named x n i c ts b0 bs q1 q2 hs2 l2 hc hi hl su r ih =>
        rintro ⟨b, hb1, yes, no⟩
        have LM := PySem.W.exm_one (M := model X.prog X.w) (J3.kIn) typ hb1
        refine wpAny_handleBy_cons (codeAny_handlers_test ?_) (by intro q; cases q)
        refine named hc (LM.here ?_)
        cases b with
        | false =>
          show wpAny _ X.A (handleBy (.ref a) X.env hs2) _ _ _
          exact ih (no rfl)
        | true =>
          refine codeAny_handlers_suite_as ?_
          refine HandSPX.lands_againZ fl3 fun g4 fl4 up4 => ?_
          have J4 : Inv X pins τ1 G1 { s' with heap := g4 } := J.landed nb fl4.1 ((up.trans up3).trans up4) os ag
          obtain ⟨o4, v4, e4, z4, d4⟩ := fl4.there
          have S4 := J4.suite e4 d4 na nL nF
          refine store_ok (X := X.suite a ((a, o4) :: (X.pn ++ pins))) (v := .ref a) S4 nd hi (.inl hl) rfl (fun s5 S5 => ?_) (.inr hl)
          refine wpAny_mono ((su a o4 cls d (X.pn ++ pins) z4 ⟨_, d4⟩).run [] s5 _ G1 _ S5 (yes rfl a na)) (fun f s6 sp => ?_) (fun _ _ z => False.elim z)
          have fin : ∀ {t6 : L2.St} {G6 : Hp} {Q : Shared → Prop}, Inv (X.suite a ((a, o4) :: (X.pn ++ pins))) [] t6 G6 s6 → (∀ s7, Inv X pins (t6.set i none) G6 s7 → Q s7) →
              wpAny (model X.prog X.w) X.A (do bindName X.env n .none; unbindBehindTheSuite X.env n q2) (fun _ s7 => Q s7) X.xe s6 := fun {t6 G6 Q} S6 hq => gone_ok (S6.unsuite ok) nd hi hl hq
          cases f with
          | next => obtain ⟨t6, G6, S6, q6⟩ := sp; exact fin S6 fun s7 J7 => ⟨_, _, J7, q6⟩
          | brk => obtain ⟨t6, G6, S6, q6⟩ := sp; exact fin S6 fun s7 J7 => ⟨_, _, J7, q6⟩
          | cont => obtain ⟨t6, G6, S6, q6⟩ := sp; exact fin S6 fun s7 J7 => ⟨_, _, J7, q6⟩
          | ret u => obtain ⟨v6, t6, G6, S6, r6, q6⟩ := sp; exact fin S6 fun s7 J7 => ⟨_, _, _, J7, r6, q6⟩
    exact go hh w
end

/-! ## f(e, ..) where f is any expression that gives a def -/
structure CanCall (X : Cx) (CX : CXT) (k : Nat) (f : Addr) (sp : Sp) : Prop where
  ex : ∃ (fd : FuncData) (ps : List Str), FnOk X.prog X.w X.K X.mg X.base CX k f fd ps sp ∧ PySem.W.keepIn X.K (.ref f) = true ∧ Binds X.K fd ps []
/-- the promise goes with the address: S f sp -/
def tCallE (S : Addr → Sp → Prop) (E : L2.St → XK) (tf : TE) (t : TA) : TE := fun σ H Q => tf σ H fun y H1 => ∃ f sp, y = .ref f ∧ S f sp ∧ t σ H1 fun vs H2 => sp vs H2 Q (E σ)
section
variable {X : Cx} {CX : CXT} {k : Nat} {S : Addr → Sp → Prop} {E : L2.St → XK} {fe e : Expr} {es : List Expr} {tf : TE} {t : TA} {pos : Pos}
theorem pe_callE (hf : PE X fe tf) (A : ∀ f sp, S f sp → CanCall X CX k f sp) (hr : Room k X.A) (hx : ∀ σ, PassesAt CX X σ (E σ)) (ha : PA X (e :: es) t)
    (ht : eval (.Call fe (e :: es) [] pos) X.env = (do callWith pos (← eval fe X.env) [] (backTo pos (starEach (e :: es) X.env)) (backToKw pos (keywordEach [] X.env))) := by rfl)
    (he : starEach (e :: es) X.env = (false, eval e X.env) :: starEach es X.env := by rfl) (hpl : (backTo pos (starEach es X.env)).any (·.1) = false := by rfl) :
    PE X (.Call fe (e :: es) [] pos) (tCallE S E tf t) := by
  refine ⟨fun pins s σ H Q I h => ?_⟩
  rw [ht]
  refine wpAny_bind (thn (hf.run pins s σ H _ I h) fun u s1 q1 => ?_)
  obtain ⟨y, H1, I1, ry, f, sp, ey, hs, q⟩ := q1
  subst ey
  cases ry
  obtain ⟨fd, ps, F, hk, hb⟩ := (A f sp hs).ex
  refine PySem.W.callWith_K (h₀ := X.base) I.ok.mod.kin hk (thn (ha.run pos pins s1 σ H1 _ I1 q) fun us s2 q2 => ?_) he hpl
  obtain ⟨vs, H2, I2, r, q3⟩ := q2
  exact ⟨I2.kIn, run_fnS F hr hb (hx σ) I2 r q3⟩
end
end Bk
namespace Bk
open PySem PySem.Spec PyProof.Rows L2

/-! ## for i, x in enumerate(a tuple) -/
set_option maxHeartbeats 4000000 in
theorem enum_new1 {v : Value} {o : Obj} {G : Heap → Prop} (B : Begins v o G) :
    Meets (Builtin.«enumerate.__new__» ⟨[.type "enumerate", v], []⟩) (fun _ R s => G s.heap ∧
      R (.ok (.ret (.ref (s.heap.push o).objs.size))) { s with heap := (s.heap.push o).push { cls := .type "enumerate", data := .fields #[.none, .bool false, .ref s.heap.objs.size, rawInt 0, .none, .none] } }) :=
  .of_wp fun prog w A R s h => by
    obtain ⟨hp, g, d, tk, os⟩ := s
    obtain ⟨h1, h⟩ := h
    have hsub := sub_enumerate
    have it0 : ∀ {A' : Around} {E : Value → Shared → Prop} {Q : Value → Shared → Prop}, Q (.ref hp.objs.size) ⟨hp.push o, g, d, tk, os⟩ → wpAny (model prog w) A' (pyIter v) Q E ⟨hp, g, d, tk, os⟩ :=
      fun q => B.iter prog w _ _ ⟨hp, g, d, tk, os⟩ _ h1 q
    wp_walk using it0
    refine wpAny_stack_any fun st => wpAny_pure ?_
    split
    · rename_i c _ _ _ _ _
      cases (c == Value.type "enumerate") <;> (wp_walk using it0; exact ⟨_, rfl, h⟩)
    · wp_walk using it0
      exact ⟨_, rfl, h⟩
section
variable {prog : Program} {w : World} {A : Around} {E : Value → Shared → Prop} {s : Shared}
theorem enum_call1 {v : Value} {o : Obj} {G : Heap → Prop} {Q : Value → Shared → Prop} (B : Begins v o G) (h1 : G s.heap)
    (h : ∀ g, IsEnum g (s.heap.objs.size + 1) s.heap.objs.size 0 .none → g.get? s.heap.objs.size = some o → g.objs.size = s.heap.objs.size + 2 →
      (∀ b o, s.heap.get? b = some o → g.get? b = some o) → Q (.ref (s.heap.objs.size + 1)) { s with heap := g }) :
    wpAny (model prog w) A (call (.type "enumerate") [v]) Q E s := by
  refine callType_new F.called_enumerate (by decide) (F.typeCall_enumerate_1 _) (F.newCall_enumerate_1 _) (fun obj => F.args_object_init_2 obj _) F.entry_enumerate_new (enum_new1 B) ⟨h1, ?_⟩
  have z : (s.heap.push o).objs.size = s.heap.objs.size + 1 := Heap.size_push ..
  show _ ∧ _
  rw [z]
  have e0 := Heap.get?_push_size (s.heap.push o) (o := { cls := .type "enumerate", data := .fields #[.none, .bool false, .ref s.heap.objs.size, rawInt 0, .none, .none] }) rfl
  rw [z] at e0
  exact ⟨⟨_, e0, rfl⟩, h _ e0 (Heap.get?_push_of_some _ (Heap.get?_push_size _ B.free)) (by rw [Heap.size_push, z]) fun b o x => Heap.get?_push_of_some _ (Heap.get?_push_of_some _ x)⟩
end
/-- the tuple at a, each item in a new pair -/
def ItEt (K : PySem.W.Frag) (a : Addr) : It :=
  ⟨fun i G => ∃ (xs : List V) (x : V), SqT K G a xs ∧ xs[i]? = some x,
   fun i G v G' => ∃ T x, v = .ref T ∧ G T = none ∧ G' = upd G T (.tup [.int (i : Nat), x]) ∧ ∀ xs, SqT K G a xs → xs[i]? = some x,
   fun i G => ∃ xs : List V, SqT K G a xs ∧ xs.length ≤ i⟩
theorem turn_enumT {P : Program} {w : World} {K : PySem.W.Frag} {elts : List Expr} {kk : Nat} {tpos : Pos} (a e it : Addr) (hai : a ≠ it) (hea : e ≠ a) :
    Turn P w K (.Tuple elts kk tpos) (ItEt K a) [e, it] e (fun i g => (∃ old, IsEnum g e it ((i : Nat) : Int) old) ∧ g.IsTupleIter it a i ∧ e ≠ it) where
  mem := by simp
  obj := fun i g st b hb => by
    obtain ⟨⟨old, he⟩, ⟨o, ho, hc, hd⟩, _⟩ := st
    have two : b = e ∨ b = it := by simpa using hb
    rcases two with z | z
    · rw [z]; exact ⟨_, he, fun v q => nomatch q⟩
    · rw [z]; exact ⟨o, ho, fun v q => by rw [hd] at q; cases q⟩
  keep := fun i g g' st k => let ⟨⟨old, he⟩, hi, hne⟩ := st; ⟨⟨old, k e (by simp) _ he⟩, hi.at fun o q => k it (by simp) o q, hne⟩
  item := by
    intro X eP ew eK hc i pins s τ G E I hf st hg
    subst eP ew eK
    obtain ⟨⟨old, he⟩, hit, hne⟩ := st
    obtain ⟨xs, x, hq, hx⟩ := hg
    obtain ⟨its, rv, p, hz⟩ := I.tuple hq
    obtain ⟨u, hu, ru⟩ := rv.get hx
    have hel : e < s.heap.objs.size := Heap.lt_size he
    have hil : it < s.heap.objs.size := by obtain ⟨_, q, _⟩ := hit; exact Heap.lt_size q
    have lt : i < its.toArray.size := by
      have l1 := (List.getElem?_eq_some_iff.mp hu).1
      simpa using l1
    have tup : s.heap.IsTuple a its.toArray := p
    refine wpAny_pyNext_enum_itemD (Draws.tuple (show X.A.in1.handled = none from I.ok.hd hc) it a hai its.toArray) he ⟨hit, tup⟩ lt hne (by simp [hne, hea]) fun y g' tk hy ho hst hT hsz hk => ?_
    obtain rfl : u = y := by
      have h1 : its.toArray[i]? = some u := by simpa using hu
      exact Option.some.inj (h1.symm.trans hy)
    refine ⟨_, rfl, wpAny_letOwnedTupleGo_enum (s := { s with heap := g', toks := tk + 1 }) ho fun g2 he2 sb => ?_⟩
    have hT2 : g2.get? s.heap.objs.size = some { cls := .type "tuple", data := .seq #[.int i tk, u] } := (sb.2 _ (Nat.ne_of_gt hel)).trans hT
    have new : ObjOk X.prog X.w (upd G s.heap.objs.size (.tup [.int (i : Nat), x])) g2 s.heap.objs.size (.tup [.int (i : Nat), x]) :=
      ⟨by show 2 ≤ sizeLine; decide, [.int i tk, u], .cons ⟨_, rfl⟩ (.cons ru .nil), ⟨_, hT2, rfl, _, rfl⟩⟩
    have I1 : Inv X pins τ (upd G s.heap.objs.size (.tup [.int (i : Nat), x])) { s with heap := g2, toks := tk + 1 } :=
      I.turnedNew (ch := [e, it]) (fun b ob hb q => (sb.2 b (fun z => hb (by simp [z]))).trans (hk b ob (fun z => hb (by simp [z])) (fun z => hb (by simp [z])) q)) hf (Nat.le_refl _) new
    refine ⟨.ref s.heap.objs.size, _, I1, rfl, ⟨_, x, rfl, I.hok.fresh (Nat.le_refl _), rfl, fun ys hy => by rw [I.tuple_inj hy hq]; exact hx⟩, ⟨⟨u, ?_⟩, hst.1.at fun o q => (sb.2 it (Ne.symm hne)).trans q, hne⟩, fun b hb => ?_⟩
    · have e1 : ((i + 1 : Nat) : Int) = (i : Int) + 1 := by omega
      rw [e1]
      exact he2
    · have two : b = e ∨ b = it := by simpa using hb
      have lt2 : b < s.heap.objs.size := by
        rcases two with z | z
        · rw [z]; exact hel
        · rw [z]; exact hil
      rw [upd_ne (Nat.ne_of_lt lt2)]
      exact (hf b hb).1
  done := by
    intro X eP ew eK hc i pins s τ G E I hf st hg
    subst eP ew eK
    obtain ⟨⟨old, he⟩, hit, hne⟩ := st
    obtain ⟨xs, hq, hx⟩ := hg
    obtain ⟨its, rv, p, hz⟩ := I.tuple hq
    obtain ⟨f0, f1, f2, f3, f4, f5⟩ := hf it (by simp)
    have tup : s.heap.IsTuple a its.toArray := p
    have hl := rv.length
    have hT : s.TypeIs (.ref e) "enumerate" := ⟨_, he, rfl⟩
    unfold pyNext
    refine wpAny_bind (wpAny_attempt (wpAny_callSpecial?_slot (name := Str.ofString "__next__") hT F.slot_enumerate_next (wpAny_call_entry F.slot_enumerate_next hT F.entry_enumerate_next ?_ (F.args_enumerate_next_1 _))))
    show wpAny _ _ (field (.ref e) 2 >>= _) _ _ _
    refine wpAny_bind (wpAny_field he rfl (x := .ref it) rfl ?_)
    refine wpAny_bind (wpAny_nextOf_tuple_end (show X.A.in1.handled = none from I.ok.hd hc) hit tup (by simp; omega) fun g' x' eb hx' => ?_)
    obtain ⟨o, ho, hc'⟩ := hx'
    refine wpAny_bind (wpAny_isInstance (T := "StopIteration") (b := true) ⟨o, ho, hc'⟩ isSubtype_stop ?_)
    exact wpAny_pure ⟨rfl, I.turned (t' := s.toks) (fun b o hb q => eb b o hb q) f0 f1 f3 f4 f5⟩
  self := fun A i s Q E st h => let ⟨⟨_, he⟩, _⟩ := st; wpAny_pyIter_enum he h
def iEnumT (K : PySem.W.Frag) (ta : TA) : TI := fun τ G R => ta τ G fun vs G1 => ∃ a xs, vs = [.ref a] ∧ SqT K G1 a xs ∧ R (ItEt K a) G1
theorem pi_enumT {X : Cx} {e : Expr} {ta : TA} {p pos tpos : Pos} {elts : List Expr} {kk : Nat} (hg : Gl X "enumerate") (hm : X.mg "enumerate" = none) (ha : PA X [e] ta) (hs : starEach [e] X.env = [(false, eval e X.env)] := by rfl) :
    PI X (.Tuple elts kk tpos) (.Call (.Name "enumerate" p) [e] [] pos) (iEnumT X.K ta) := by
  refine ⟨fun pins s τ G R I h => ?_⟩
  refine Call_ (ld_blt I hg hm boot_enumerate (PyProof.Rows.callWith_type1 (thn (ha.run pos pins s τ G _ I h) fun us s1 q0 => ?_) hs rfl))
  obtain ⟨vs, G1, I1, r1, a, xs, ex, hq, q⟩ := q0
  subst ex
  cases r1 with
  | cons r rr =>
    cases rr
    cases r
    obtain ⟨its, rv, p', hz⟩ := I1.tuple hq
    have tup : s1.heap.IsTuple a its.toArray := p'
    have hlt : a < s1.heap.objs.size := by obtain ⟨o, eo, _⟩ := tup; exact Heap.lt_size eo
    refine enum_call1 (begins_tuple a its.toArray) tup fun g he hit hsz hk => wpAny_pyIter_enum he ?_
    have I2 : Inv X pins τ G1 { s1 with heap := g } := I1.kept (t' := s1.toks) hk
    refine ⟨s1.heap.objs.size + 1, [s1.heap.objs.size + 1, s1.heap.objs.size], _, _, G1, rfl, I2, turn_enumT a (s1.heap.objs.size + 1) s1.heap.objs.size (Nat.ne_of_lt hlt) (Nat.ne_of_gt (Nat.lt_succ_of_lt hlt)),
      ⟨⟨.none, he⟩, ⟨_, hit, rfl, rfl⟩, Nat.succ_ne_self _⟩, fun b hb => ?_, q⟩
    have two : b = s1.heap.objs.size + 1 ∨ b = s1.heap.objs.size := by simpa using hb
    have hle : s1.heap.objs.size ≤ b := by
      rcases two with z | z
      · rw [z]; exact Nat.le_add_right _ _
      · rw [z]; exact Nat.le_refl _
    exact I1.fpOk hle (I1.hok.fresh hle)
/-- over a tuple that the body leaves as it is -/
theorem for_enumT {K : PySem.W.Frag} {a : Addr} {xs : List V} {g : TG} {tb : TS} {D : Ends} {τ : L2.St} {G : Hp} (Pv : Nat → L2.St → Hp → Prop) (h0 : Pv 0 τ G) (hl : ∀ i τ G, i ≤ xs.length → Pv i τ G → SqT K G a xs)
    (step : ∀ i x τ G T, xs[i]? = some x → Pv i τ G → G T = none → g (.ref T) τ (upd G T (.tup [.int (i : Nat), x])) fun τ2 G2 => tb { D with nx := Pv (i + 1), ct := Pv (i + 1), bk := D.nx } τ2 G2)
    (last : ∀ τ G, Pv xs.length τ G → D.nx τ G) :
    ∃ W : Nat → Nat → L2.St → Hp → Prop, (∃ m, W 0 m τ G) ∧ ∀ i m τ G, W i m τ G → ((ItEt K a).stop i G ∧ D.nx τ G) ∨ ((ItEt K a).go i G ∧ ∃ N : L2.St → Hp → Prop,
      (∀ τ' G', N τ' G' → ∃ m', m' < m ∧ W (i + 1) m' τ' G') ∧ ∀ x G', (ItEt K a).yld i G x G' → g x τ G' fun τ2 G2 => tb { D with nx := N, ct := N, bk := D.nx } τ2 G2) := by
  refine ⟨fun i m τ G => m = xs.length - i ∧ i ≤ xs.length ∧ Pv i τ G, ⟨xs.length, by simp, Nat.zero_le _, h0⟩, ?_⟩
  rintro i m τ G ⟨rfl, hi, p⟩
  have q := hl i τ G hi p
  by_cases c : i < xs.length
  · refine .inr ⟨⟨xs, xs[i], q, by simp [c]⟩, Pv (i + 1), fun τ' G' p' => ⟨xs.length - (i + 1), by omega, rfl, c, p'⟩, fun x G' y => ?_⟩
    obtain ⟨T, z, rfl, hT, rfl, hz⟩ := y
    exact step i z τ G T (hz xs q) p hT
  · have e : i = xs.length := by omega
    subst e
    exact .inl ⟨⟨xs, q, Nat.le_refl _⟩, last τ G p⟩

/-! ## a dict against a text -/
theorem deq_str (l : Addr) (o : Obj) (b : Str) (u : Tok) (es : Array DictEntry) (n : Nat) (hd : o.data = .dict es n) (hc : o.cls = .type "dict") :
    Meets (Builtin.«dict.__eq__» ⟨[.ref l, .str b u], []⟩) (fun _ R s => s.heap.get? l = some o ∧ R (.ok (.ret .notImplemented)) s) :=
  .of_wp fun prog w A R s h => by
    obtain ⟨hp, g, d, tk, os⟩ := s
    obtain ⟨hl, h⟩ := h
    obtain ⟨c, dd, dt, sl⟩ := o
    dsimp only at hd hc
    subst hd hc
    have f1 := F.sub_str_dict
    wp_walk using PySem.AutoSeq1.wpAny_loadPart' hl
    exact ⟨_, rfl, h⟩
end Bk
namespace Bk
open PySem PySem.Spec PyProof.Rows L2
theorem dne_str (l : Addr) (o : Obj) (b : Str) (u : Tok) (es : Array DictEntry) (n : Nat) (hd : o.data = .dict es n) (hc : o.cls = .type "dict") :
    Meets (Builtin.«dict.__ne__» ⟨[.ref l, .str b u], []⟩) (fun _ R s => s.heap.get? l = some o ∧ R (.ok (.ret .notImplemented)) s) :=
  .of_wp fun prog w A R s h => by
    obtain ⟨hp, g, d, tk, os⟩ := s
    obtain ⟨hl, h⟩ := h
    obtain ⟨c, dd, dt, sl⟩ := o
    dsimp only at hd hc
    subst hd hc
    have f1 := F.sub_str_dict
    wp_walk using PySem.AutoSeq1.wpAny_loadPart' hl
    exact ⟨_, rfl, h⟩
theorem sne_dict (b : Str) (u : Tok) (l : Addr) (o : Obj) (es : Array DictEntry) (n : Nat) (hd : o.data = .dict es n) :
    Meets (Builtin.«str.__ne__» ⟨[.str b u, .ref l], []⟩) (fun _ R s => s.heap.get? l = some o ∧ R (.ok (.ret .notImplemented)) s) :=
  .of_wp fun prog w A R s h => by
    obtain ⟨hp, g, d, tk, os⟩ := s
    obtain ⟨hl, h⟩ := h
    obtain ⟨c, dd, dt, sl⟩ := o
    dsimp only at hd
    subst hd
    wp_walk using PySem.AutoSeq1.wpAny_loadPart' hl, wpAny_load hl
    exact ⟨_, rfl, h⟩
theorem seq_dict (b : Str) (u : Tok) (l : Addr) (o : Obj) (es : Array DictEntry) (n : Nat) (hd : o.data = .dict es n) :
    Meets (Builtin.«str.__eq__» ⟨[.str b u, .ref l], []⟩) (fun _ R s => s.heap.get? l = some o ∧ R (.ok (.ret .notImplemented)) s) :=
  .of_wp fun prog w A R s h => by
    obtain ⟨hp, g, d, tk, os⟩ := s
    obtain ⟨hl, h⟩ := h
    obtain ⟨c, dd, dt, sl⟩ := o
    dsimp only at hd
    subst hd
    wp_walk using PySem.AutoSeq1.wpAny_loadPart' hl, wpAny_load hl
    exact ⟨_, rfl, h⟩
section
variable {X : Cx}
/-- a tracked dict against a text -/
def rDS (c : Bool) : R2 := fun x y G Q => ∃ a kvs z, x = .ref a ∧ y = .str z ∧ G a = some (.dK kvs) ∧ Q (.bl c) G
theorem dict_obj {pins : List (Addr × Obj)} {τ : L2.St} {G : Hp} {s : Shared} {a : Addr} {kvs : List (Key × V)} (I : Inv X pins τ G s) (h : G a = some (.dK kvs)) :
    ∃ o es n, s.heap.get? a = some o ∧ o.data = .dict es n ∧ o.cls = .type "dict" := by
  obtain ⟨_, _, vs, _, o, es, ep, h1, h2, r⟩ := (show ObjOk X.prog X.w G s.heap a (.dK kvs) from I.hok a _ h)
  exact ⟨o, es, ep, h1, r.1, h2.1⟩
theorem op_ne_ds (hu : X.A.units < cLine) : OpR X (compareOp .NotEq) (rDS true) := by
  intro pins s τ G x y v u Q I rx ry h
  obtain ⟨a, kvs, z, rfl, rfl, ha, q⟩ := h
  cases rx
  obtain ⟨t, rfl⟩ := ry
  obtain ⟨o, es, n, ho, hd, hc⟩ := dict_obj I ha
  show wpAny _ _ (richCompare .NotEq _ _) _ _ s
  exact SeqAt.rc_ne_decline_or (k := false) ⟨o, ho, hc⟩ (typeIs_str s z t) (by decide) F.sub_str_dict F.slot_dict_ne F.slot_str_ne_refl
    (fun _ hq => call_meets F.slot_dict_ne ⟨o, ho, hc⟩ F.entry_dict_ne (F.args_dict_ne_2 _ _) (dne_str a o z t es n hd hc) ⟨ho, hq⟩)
    (fun _ hq => call_meets F.slot_str_ne_refl (typeIs_str s z t) F.entry_str_ne (F.args_str_ne_2 _ _) (sne_dict z t a o es n hd) ⟨ho, hq⟩)
    (fun _ hq => wpAny_of_eq (rfl : isSame (.ref a) (.str z t) = pure false) hq) (.inr hu) ⟨.bl true, G, I, rfl, q⟩
theorem op_eq_ds (hu : X.A.units < cLine) : OpR X (compareOp .Eq) (rDS false) := by
  intro pins s τ G x y v u Q I rx ry h
  obtain ⟨a, kvs, z, rfl, rfl, ha, q⟩ := h
  cases rx
  obtain ⟨t, rfl⟩ := ry
  obtain ⟨o, es, n, ho, hd, hc⟩ := dict_obj I ha
  show wpAny _ _ (richCompare .Eq _ _) _ _ s
  exact SeqAt.rc_eq_decline_or (k := false) ⟨o, ho, hc⟩ (typeIs_str s z t) (by decide) F.sub_str_dict F.slot_dict_eq F.slot_str_eq_refl
    (fun _ hq => call_meets F.slot_dict_eq ⟨o, ho, hc⟩ F.entry_dict_eq (F.args_dict_eq_2 _ _) (deq_str a o z t es n hd hc) ⟨ho, hq⟩)
    (fun _ hq => call_meets F.slot_str_eq_refl (typeIs_str s z t) F.entry_str_eq (F.args_str_eq_2 _ _) (seq_dict z t a o es n hd) ⟨ho, hq⟩)
    (fun _ hq => wpAny_of_eq (rfl : isSame (.ref a) (.str z t) = pure false) hq) (.inr hu) ⟨.bl false, G, I, rfl, q⟩
/-- of two rules for one operator either -/
theorem op_or {f : Value → Value → Sem Value} {r r' : R2} (h : OpR X f r) (h' : OpR X f r') : OpR X f (fun x y G Q => r x y G Q ∨ r' x y G Q) := by
  intro pins s τ G x y v u Q I rx ry q
  rcases q with q | q
  · exact h pins s τ G x y v u Q I rx ry q
  · exact h' pins s τ G x y v u Q I rx ry q
end
end Bk
/-! the mirror of buildroom.paths: what its checks say, over texts -/
namespace Bm
open PySem L2 TL
/-- [a, b, ..] below [c, ..] for single signs -/
theorem lt_one (a b : Nat) : decide (([a] : List Nat) < [b]) = decide (a < b) := by
  rw [Bool.eq_iff_iff, decide_eq_true_eq, decide_eq_true_eq]
  constructor
  · intro h
    cases h with
    | rel h => exact h
    | cons h => cases h
  · intro h
    exact List.Lex.rel h
def sgnN (c : Nat) : Bool := (decide (97 ≤ c) && decide (c ≤ 122)) || (decide (48 ≤ c) && decide (c ≤ 57))
def sgnT (c : Nat) : Bool := (decide (32 ≤ c) && decide (c ≤ 126)) || decide (c = 10)
def nameB (x : Str) : Bool := decide (1 ≤ x.length) && decide (x.length ≤ 6) && x.cps.toList.all sgnN
def partsOf (x : Str) : List Str := Txt.split x (Str.ofString "/")
def pathB (x : Str) : Bool := decide ((partsOf x).length ≤ 3) && (partsOf x).all nameB
def textB (x : Str) : Bool := decide (x.length ≤ 200) && x.cps.toList.all sgnT
def within (p f : Str) : Bool := decide (f = Str.ofString "") || Txt.startswith p (f ++ Str.ofString "/")
def isPathV : V → Bool
  | .str x => pathB x
  | _ => false
def isTextV : V → Bool
  | .str x => textB x
  | _ => false
def isFolderV : V → Bool
  | .str x => pathB x || decide (x = Str.ofString "")
  | _ => false
theorem spl_len {S : List Nat} : ∀ (l : List Nat) (k : Nat) (acc p : List Nat), p ∈ spl S k acc l → p.length ≤ acc.length + l.length
  | [], k, acc, p, h => by
    rw [spl_nil] at h
    have e : p = acc := by simpa using h
    subst e
    simp
  | c :: r, 0, acc, p, h => by
    by_cases q : pre S (c :: r) = true
    · rw [spl_hit q] at h
      rcases List.mem_cons.mp h with rfl | h
      · simp
      · have ih := spl_len r _ _ p h
        simp at ih ⊢
        omega
    · rw [spl_miss (by simpa using q)] at h
      have ih := spl_len r _ _ p h
      simp at ih ⊢
      omega
  | c :: r, k + 1, acc, p, h => by
    have h' : p ∈ spl S k acc r := h
    have ih := spl_len r _ _ p h'
    simp at ih ⊢
    omega
theorem str_len (x : Str) : (tl x).length = x.length := by simp [tl, Str.length]
theorem part_len {x p : Str} (h : p ∈ partsOf x) : p.length ≤ x.length := by
  have e := split_spl x (Str.ofString "/") (by decide) (kind_ok (by decide +kernel))
  have h1 : tl p ∈ (Txt.split x (Str.ofString "/")).map tl := List.mem_map.mpr ⟨p, h, rfl⟩
  rw [e] at h1
  have h2 := spl_len _ _ _ _ h1
  rw [str_len, str_len] at h2
  simpa using h2
example : pathB (Str.ofString "e/f/g") = true := by decide +kernel
example : pathB (Str.ofString "a/b/c/d") = false := by decide +kernel
end Bm
/-! more of what readings evaluate to -/
namespace Be
open PySem PySem.Spec PyProof.Rows L2 Bk Bm Evl
section
variable {K : PySem.W.Frag} {σ : L2.St} {H H' : Hp} {ta tb tc te tx : TE} {t u : TT} {x y z v : V} {r r' : R2}
theorem ev_chain {b1 b2 : Bool} (ha : Ev ta σ H x) (hb : Ev tb σ H y) (hr : RV r x y H (.bl b1)) (hc : b1 = true → Ev tc σ H z) (hr' : b1 = true → RV r' y z H (.bl b2)) : Ev (tChain r r' ta tb tc) σ H (.bl (b1 && b2)) := fun H1 e Q q =>
  ha H1 e _ fun H2 e2 => hb H2 (e.trans e2) _ fun H3 e3 => hr H3 ((e.trans e2).trans e3) _ fun H4 e4 => ⟨b1, rfl, by
    have e14 := (e2.trans e3).trans e4
    cases b1 with
    | false =>
      rw [if_neg (by decide)]
      exact q H4 e14
    | true =>
      rw [if_pos rfl]
      exact hc rfl H4 (e.trans e14) _ fun H5 e5 => hr' rfl H5 ((e.trans e14).trans e5) Q fun H6 e6 => q H6 ((e14.trans e5).trans e6)⟩
theorem ev_isL {xs ys : List V} (h : EvL te σ H xs) (e : xs = ys) : EvL te σ H ys := by
  rw [← e]
  exact h
theorem ev_and {a b : Bool} (h1 : Ev ta σ H (.bl a)) (h2 : a = true → Ev tb σ H (.bl b)) : Ev (tAndV ta tb) σ H (.bl (a && b)) := ev_andV h1 h2
/-- a comprehension over a text, no test -/
theorem el_lcS {j : Nat} {w : Str} {tl : TE} (f : Nat → V) (h : Ev tl σ H (.str w)) (hz : w.length ≤ 40000)
    (he : ∀ (c : Nat) H1, Ex H H1 → c ∈ w.cps.toList → Ev te (σ.set j (some (.str ⟨#[c]⟩))) H1 (f c)) : EvL (tLc (iStr tl) (gName j) tYes te [j]) σ H (w.cps.toList.map f) := fun H0 e Q q => h H0 e _ fun H1 e1 => ⟨w, rfl, fun D hD =>
  lc_it (walk_str (z := w)) (fun i G => Ex H1 G ∧ G D = some (.lst ((w.cps.toList.take i).map f))) ⟨Ex.new hD, upd_same⟩ (fun _ _ _ _ => trivial) (by
    rintro i v G G' hi ⟨s1, hd⟩ ⟨rfl, c, hc, rfl⟩
    have hl : w.cps.toList[i]? = some c := by simpa using hc
    have ee : (wipe σ [j]).set j (some (V.str ⟨#[c]⟩)) = σ.set j (some (V.str ⟨#[c]⟩)) := by
      show (σ.set j none).set j (some (V.str ⟨#[c]⟩)) = _
      rw [List.set_set]
    show wipe ((wipe σ [j]).set j (some (V.str ⟨#[c]⟩))) [j] = wipe σ [j] ∧ _
    rw [ee]
    refine ⟨by show (σ.set j _).set j none = σ.set j none; rw [List.set_set], ?_⟩
    unfold tYes
    dsimp only
    rw [if_pos rfl]
    refine he c G' ((e.trans e1).trans s1) (List.mem_of_getElem? hl) G' (Ex.refl _) _ fun G2 e2 => ⟨_, e2 D _ hd, sz_lt ?_, (s1.trans e2).mut hD, ?_⟩
    · rw [List.length_map]
      have h1 := List.length_take_le i w.cps.toList
      have h2 : w.cps.toList.length = w.length := by simp [Str.length]
      have h3 := List.length_take_le' i w.cps.toList
      omega
    · rw [upd_same, List.take_succ, hl]
      simp) (by
    rintro G ⟨s1, hd⟩
    refine q D G (fresh_back e1 hD) (e1.trans s1) ?_
    rw [hd]
    have h2 : w.cps.toList.length = w.cps.size := by simp
    rw [List.take_of_length_le (Nat.le_of_eq h2)])⟩
/-- over a list, no test -/
theorem el_lcN {j : Nat} {xs : List V} {tl : TE} (f : V → V) (h : EvL tl σ H xs) (hz : xs.length ≤ 40000)
    (he : ∀ (x : V) H1, Ex H H1 → x ∈ xs → Ev te (σ.set j (some x)) H1 (f x)) : EvL (tLc (iList K tl) (gName j) tYes te [j]) σ H (xs.map f) := fun H0 e Q q => h H0 e _ fun a H1 ha e1 hx => ⟨a, rfl, ⟨xs, sq_of hx⟩, fun D hD =>
  lc_it (walk_list (K := K) (a := a) (xs := xs)) (fun i G => Ex H1 G ∧ G D = some (.lst ((xs.take i).map f))) ⟨Ex.new hD, upd_same⟩ (fun i G _ p => sq_of (p.1 a _ hx)) (by
    rintro i v G G' hi ⟨s1, hd⟩ ⟨rfl, hl⟩
    have ee : (wipe σ [j]).set j (some v) = σ.set j (some v) := by
      show (σ.set j none).set j (some v) = _
      rw [List.set_set]
    show wipe ((wipe σ [j]).set j (some v)) [j] = wipe σ [j] ∧ _
    rw [ee]
    refine ⟨by show (σ.set j _).set j none = σ.set j none; rw [List.set_set], ?_⟩
    unfold tYes
    dsimp only
    rw [if_pos rfl]
    refine he v G' ((e.trans e1).trans s1) (List.mem_of_getElem? hl) G' (Ex.refl _) _ fun G2 e2 => ⟨_, e2 D _ hd, sz_lt ?_, (s1.trans e2).mut hD, ?_⟩
    · rw [List.length_map]
      have h3 := List.length_take_le' i xs
      omega
    · rw [upd_same, List.take_succ, hl]
      simp) (by
    rintro G ⟨s1, hd⟩
    refine q D G (fresh_back e1 hD) (e1.trans s1) ?_
    rw [hd, List.take_of_length_le (Nat.le_refl _)])⟩
/-- over a tuple, no test -/
theorem el_lcT {j : Nat} {a : Addr} {xs : List V} {tl : TE} (f : V → V) (h : Ev tl σ H (.ref a)) (hx : SqT K H a xs) (hz : xs.length ≤ 40000)
    (he : ∀ (x : V) H1, Ex H H1 → x ∈ xs → Ev te (σ.set j (some x)) H1 (f x)) : EvL (tLc (iTup K tl) (gName j) tYes te [j]) σ H (xs.map f) := fun H0 e Q q => h H0 e _ fun H1 e1 => ⟨a, rfl, ⟨xs, ex_t (e.trans e1) hx⟩, fun D hD =>
  lc_it (walk_tup (K := K) (a := a) (xs := xs)) (fun i G => Ex H1 G ∧ G D = some (.lst ((xs.take i).map f))) ⟨Ex.new hD, upd_same⟩ (fun i G _ p => ex_t ((e.trans e1).trans p.1) hx) (by
    rintro i v G G' hi ⟨s1, hd⟩ ⟨rfl, hl⟩
    have ee : (wipe σ [j]).set j (some v) = σ.set j (some v) := by
      show (σ.set j none).set j (some v) = _
      rw [List.set_set]
    show wipe ((wipe σ [j]).set j (some v)) [j] = wipe σ [j] ∧ _
    rw [ee]
    refine ⟨by show (σ.set j _).set j none = σ.set j none; rw [List.set_set], ?_⟩
    unfold tYes
    dsimp only
    rw [if_pos rfl]
    refine he v G' ((e.trans e1).trans s1) (List.mem_of_getElem? hl) G' (Ex.refl _) _ fun G2 e2 => ⟨_, e2 D _ hd, sz_lt ?_, (s1.trans e2).mut hD, ?_⟩
    · rw [List.length_map]
      have h3 := List.length_take_le' i xs
      omega
    · rw [upd_same, List.take_succ, hl]
      simp) (by
    rintro G ⟨s1, hd⟩
    refine q D G (fresh_back e1 hD) (e1.trans s1) ?_
    rw [hd, List.take_of_length_le (Nat.le_refl _)])⟩
theorem ev_all {bs : List Bool} (h : EvL te σ H (bs.map V.bl)) : Ev (tCB (rAll K) (tCons te tNil)) σ H (.bl (bs.all id)) := fun H1 e Q q =>
  h H1 e _ fun p H2 _ e2 h2 => ⟨p, bs, rfl, sq_of h2, q H2 e2⟩
theorem ev_any {bs : List Bool} (h : EvL te σ H (bs.map V.bl)) : Ev (tCB (rAny K) (tCons te tNil)) σ H (.bl (bs.any id)) := fun H1 e Q q =>
  h H1 e _ fun p H2 _ e2 h2 => ⟨p, bs, rfl, sq_of h2, q H2 e2⟩
theorem ev_lenS {w : Str} (h : Ev te σ H (.str w)) (hl : w.length ≤ 100000) : Ev (tCB (fun xs H Q => ∃ z, xs = [V.str z] ∧ z.length ≤ sizeLine ∧ Q (.int z.length) H) (tCons te tNil)) σ H (.int (w.length : Int)) := fun H1 e Q q =>
  h H1 e _ fun H2 e2 => ⟨w, rfl, sz_of hl, q H2 e2⟩
/-- what isinstance asks of any value of these programs -/
inductive Kd (K : PySem.W.Frag) (H : Hp) : V → String → Prop
  | mk {v : V} {n : String} (h : TyX K H v (.type n)) (k : n ∈ (["NoneType", "bool", "int", "str", "list", "tuple", "dict"] : List String)) : Kd K H v n
theorem kd_str (x : Str) : Kd K H (.str x) "str" := ⟨.base (.str x), by decide⟩
theorem kd_non : Kd K H .non "NoneType" := ⟨.base .non, by decide⟩
theorem kd_int (i : Int) : Kd K H (.int i) "int" := ⟨.base (.int i), by decide⟩
theorem kd_bl (b : Bool) : Kd K H (.bl b) "bool" := ⟨.base (.bl b), by decide⟩
theorem kd_lst {a : Addr} {xs : List V} (h : H a = some (.lst xs)) : Kd K H (.ref a) "list" := ⟨.base (.lst h), by decide⟩
theorem kd_tup {a : Addr} {xs : List V} (h : H a = some (.tup xs)) : Kd K H (.ref a) "tuple" := ⟨.base (.tup h), by decide⟩
theorem kd_dK {a : Addr} {kvs : List (Key × V)} (h : H a = some (.dK kvs)) : Kd K H (.ref a) "dict" := ⟨.base (.dK h), by decide⟩
theorem tyOf_mono {v : V} {T : Value} (e : Ex H H') (h : TyOf K H v T) : TyOf K H' v T := by
  cases h with
  | non => exact .non
  | bl b => exact .bl b
  | int i => exact .int i
  | str x => exact .str x
  | flt x => exact .flt x
  | lst h => exact .lst (e _ _ h)
  | frz h => exact .frz (e _ _ h)
  | tup h => exact .tup (e _ _ h)
  | dK h => exact .dK (e _ _ h)
  | dT h => exact .dT (e _ _ h)
  | ins h a b c d f => exact .ins (e _ _ h) a b c d f
theorem tyX_mono {v : V} {T : Value} (e : Ex H H') (h : TyX K H v T) : TyX K H' v T := by
  cases h with
  | base h => exact .base (tyOf_mono e h)
  | byt b => exact .byt b
  | set h => exact .set (e _ _ h)
  | kList h c => exact .kList h c
  | kTuple h c => exact .kTuple h c
  | kDict h c => exact .kDict h c
  | fTuple h => exact .fTuple (e _ _ h)
  | fDict h => exact .fDict (e _ _ h)
theorem Kd.mono {n : String} (e : Ex H H') (h : Kd K H v n) : Kd K H' v n := by
  obtain ⟨h, k⟩ := h
  exact ⟨tyX_mono e h, k⟩
theorem kd_kit {n m : String} (h : Kd K H v n) (hm : m = "str" ∨ m = "tuple") : PySem.W.kitOne K (.type n) (.type m) = some (decide (n = m)) := by
  obtain ⟨_, k⟩ := h
  simp only [List.mem_cons, List.not_mem_nil, or_false] at k
  rcases hm with rfl | rfl <;> rcases k with rfl | rfl | rfl | rfl | rfl | rfl | rfl <;> exact kit_ty (by decide +kernel)
theorem ev_isi {n m : String} (h : Ev te σ H v) (hc : Ev tx σ H (.ty m)) (k : Kd K H v n) (hm : m = "str" ∨ m = "tuple") : Ev (tCB (rIsi K) (tCons te (tCons tx tNil))) σ H (.bl (decide (n = m))) := fun H1 e Q q =>
  h H1 e _ fun H2 e2 => hc H2 (e.trans e2) _ fun H3 e3 => by
    obtain ⟨ty, kk⟩ := id (k.mono ((e.trans e2).trans e3))
    exact ⟨v, .ty m, .type n, .type m, _, rfl, .ty m, ty, kd_kit k hm, q H3 (e2.trans e3)⟩
/-- s.split(sep) -/
theorem el_split {w s : Str} (h : Ev te σ H (.str w)) (hs : Ev tx σ H (.str s)) (h0 : (s.length == 0) = false) (hl : w.length ≤ 100000) :
    EvL (tM1 (fun x xs H Q => ∃ a b, x = .str a ∧ xs = [.str b] ∧ (b.length == 0) = false ∧ a.length + 2 ≤ sizeLine ∧ rNewStrs (Txt.split a b) H Q) te tx) σ H ((Txt.split w s).map V.str) := fun H1 e Q q =>
  h H1 e _ fun H2 e2 => ⟨⟨w, rfl⟩, hs H2 (e.trans e2) _ fun H3 e3 => ⟨w, s, rfl, rfl, h0, Nat.le_trans (Nat.add_le_add_right hl 2) (by rw [sizeLine_eq]; decide), fun p hp => q p _ (fresh_back (e2.trans e3) hp) ((e2.trans e3).trans (Ex.new hp)) upd_same⟩⟩
/-- over a list that stands, no test -/
theorem el_lcA {j : Nat} {a : Addr} {xs : List V} {tl : TE} (f : V → V) (h : Ev tl σ H (.ref a)) (hx : SqL K H a xs) (hz : xs.length ≤ 40000)
    (he : ∀ (x : V) H1, Ex H H1 → x ∈ xs → Ev te (σ.set j (some x)) H1 (f x)) : EvL (tLc (iList K tl) (gName j) tYes te [j]) σ H (xs.map f) := fun H0 e Q q => h H0 e _ fun H1 e1 => ⟨a, rfl, ⟨xs, ex_l (e.trans e1) hx⟩, fun D hD =>
  lc_it (walk_list (K := K) (a := a) (xs := xs)) (fun i G => Ex H1 G ∧ G D = some (.lst ((xs.take i).map f))) ⟨Ex.new hD, upd_same⟩ (fun i G _ p => ex_l ((e.trans e1).trans p.1) hx) (by
    rintro i v G G' hi ⟨s1, hd⟩ ⟨rfl, hl⟩
    have ee : (wipe σ [j]).set j (some v) = σ.set j (some v) := by
      show (σ.set j none).set j (some v) = _
      rw [List.set_set]
    show wipe ((wipe σ [j]).set j (some v)) [j] = wipe σ [j] ∧ _
    rw [ee]
    refine ⟨by show (σ.set j _).set j none = σ.set j none; rw [List.set_set], ?_⟩
    unfold tYes
    dsimp only
    rw [if_pos rfl]
    refine he v G' ((e.trans e1).trans s1) (List.mem_of_getElem? hl) G' (Ex.refl _) _ fun G2 e2 => ⟨_, e2 D _ hd, sz_lt ?_, (s1.trans e2).mut hD, ?_⟩
    · rw [List.length_map]
      have h3 := List.length_take_le' i xs
      omega
    · rw [upd_same, List.take_succ, hl]
      simp) (by
    rintro G ⟨s1, hd⟩
    refine q D G (fresh_back e1 hD) (e1.trans s1) ?_
    rw [hd, List.take_of_length_le (Nat.le_refl _)])⟩
theorem kd_strV {x : Str} {n : String} (h : Kd K H (.str x) n) : n = "str" := by
  obtain ⟨h, _⟩ := h
  cases h with
  | base h => cases h; rfl
theorem kd_isStr {v : V} (h : Kd K H v "str") : ∃ x, v = .str x := by
  obtain ⟨h, _⟩ := h
  generalize e : Value.type "str" = T at h
  cases h with
  | base h =>
    cases h with
    | str x => exact ⟨x, rfl⟩
    | ins => cases e
    | _ => simp at e
  | _ => simp at e
theorem kd_isTup {v : V} (h : Kd K H v "tuple") : ∃ a, v = .ref a := by
  obtain ⟨h, _⟩ := h
  generalize e : Value.type "tuple" = T at h
  cases h with
  | base h =>
    cases h with
    | tup h => exact ⟨_, rfl⟩
    | ins => cases e
    | _ => simp at e
  | kTuple h c => exact ⟨_, rfl⟩
  | fTuple h => exact ⟨_, rfl⟩
  | _ => simp at e
/-- a def as its callers see it -/
structure Cal (P : Program) (w : World) (K : PySem.W.Frag) (mg : Str → Option Value) (base : Heap) (CX : CXT) (k : Nat) (x : Str) (ps : List Str) (sp : Sp) where
  f : Addr
  fd : FuncData
  F : FnOk P w K mg base CX k f fd ps sp
  g : mg x = some (.ref f)
  kp : PySem.W.keepIn K (.ref f) = true
  b : Binds K fd ps []
end
end Be
/-! tuples that are known to be plain: dict(a tuple of pairs) -/
namespace Kr
open PySem PySem.Spec PyProof.Rows L2 Bk Bm Evl Be
/-- a plain tuple, as tuple(a list) lays it -/
def Pln (o : Obj) : Prop := o.cls = .type "tuple" ∧ o.dict = none
section
variable {X : Cx}
theorem call_tuple_ofZ : CallR X (.type "tuple") (fun vs G Q => ∃ p ys, vs = [.ref p] ∧ SqL X.K G p ys ∧ ∀ l o, G l = none → Pln o → Q (.ref l) (upd G l (.frz o (.tup ys)))) := by
  intro pins s τ G vs us Q I rv h
  obtain ⟨p, ys, rfl, hq, q⟩ := h
  obtain ⟨u, rfl, ru⟩ := vals1 rv
  cases ru
  obtain ⟨its, r2, pl, small⟩ := I.list hq
  have count := r2.length
  refine call_tuple_list pl.isList (fun g kp => ?_) (by simp only [List.size_toArray]; omega)
  have J : Inv X pins τ G { s with heap := g } := I.kept (t' := s.toks) kp
  have at_ : (g.push { cls := .type "tuple", data := .seq its.toArray }).get? g.objs.size = some { cls := .type "tuple", data := .seq its.toArray } := Heap.get?_push_size _ rfl
  have J2 : Inv X pins τ (upd G g.objs.size (.frz { cls := .type "tuple", data := .seq its.toArray } (.tup ys))) { s with heap := g.push { cls := .type "tuple", data := .seq its.toArray } } :=
    J.laid (t' := s.toks) (fun b o e => Heap.get?_push_of_some _ e) (Nat.le_refl _) (show ObjOk X.prog X.w _ _ _ (.frz _ (.tup ys)) from ⟨at_, small, its, r2, IsTup.new _ _⟩)
  exact ⟨.ref g.objs.size, _, J2, rfl, q _ _ (J.hok.fresh (Nat.le_refl _)) ⟨rfl, rfl⟩⟩
theorem pairs_raw {pins : List (Addr × Obj)} {τ : L2.St} {G : Hp} {s : Shared} (I : Inv X pins τ G s) : ∀ {ps : List Addr} {kvs : List (Key × V)}, Paired (fun p kv => SqT X.K G p [kV kv.1, kv.2]) ps kvs →
    ∃ (prs : List (Key × Value)) (raw : List (Value × Value)), KV kvs prs ∧ prs.length = ps.length ∧ raw.length = ps.length ∧
      ∀ (j : Nat) (k v : Value), raw[j]? = some (k, v) → ∃ b key, ps[j]? = some b ∧ PairAt s.heap b k v ∧ prs[j]? = some (key, v) ∧ keyIs key k = true
  | _, _, .nil => ⟨[], [], .nil, rfl, rfl, fun j k v e => by simp at e⟩
  | _, _, .cons (a := p) (b := kv) h t => by
    obtain ⟨prs, raw, r, l1, l2, hp⟩ := pairs_raw I t
    obtain ⟨its, rv, ht, _⟩ := I.tuple h
    obtain ⟨u, y, rfl, ru, ry⟩ := vals2 rv
    refine ⟨(kv.1, y) :: prs, (u, y) :: raw, .cons ⟨rfl, ry⟩ r, by rw [List.length_cons, List.length_cons, l1], by rw [List.length_cons, List.length_cons, l2], fun j k v e => ?_⟩
    cases j with
    | zero =>
      have e' : (u, y) = (k, v) := Option.some.inj e
      cases e'
      exact ⟨p, kv.1, rfl, .inl ht, rfl, kV_is (P := X.prog) (w := X.w) ru⟩
    | succ j =>
      obtain ⟨b, key, e1, e2, e3, e4⟩ := hp j k v (by simpa using e)
      exact ⟨b, key, by simpa using e1, e2, by simpa using e3, e4⟩
/-- dict(a plain tuple of pairs) -/
def rDictT (K : PySem.W.Frag) : List V → Hp → VK → Prop := fun vs G Q => ∃ (a : Addr) (o : Obj) (ps : List Addr) (kvs : List (Key × V)), vs = [.ref a] ∧ G a = some (.frz o (.tup (ps.map V.ref))) ∧ Pln o ∧
    Paired (fun p kv => SqT K G p [kV kv.1, kv.2]) ps kvs ∧ ∀ p, G p = none → Q (.ref p) (upd G p (.dK (mergeK [] kvs)))
theorem call_dictT (hcalm : X.calm = true) : CallR X (.type "dict") (rDictT X.K) := by
  intro pins s τ G vs us Q I rv h
  obtain ⟨a, o, ps, kvs, rfl, ha, hpl, hp, q⟩ := h
  obtain ⟨u, rfl, ru⟩ := vals1 rv
  cases ru
  obtain ⟨at_, small, its, r2, o2, e2, hc2, n, hdat⟩ := I.hok a _ ha
  have ei := refs_at r2
  subst ei
  rw [at_] at e2
  cases e2
  rw [List.length_map] at small
  obtain ⟨prs, raw, rel, l1, l2, hpr⟩ := pairs_raw I hp
  have P := PairArg.tuple (prog := X.prog) (w := X.w) a (ps.map Value.ref).toArray (fun j => ps.getD j 0) raw
  refine PySem.call_dict_pairs (knd := mixKind X.prog X.w) (kvs := prs) P (I.ok.hd hcalm) ⟨⟨o, n, at_, hc2, hpl.2, hdat⟩, by simp [l2], fun j k v e => ?_⟩ ⟨by rw [l1, l2], fun i key v e => ?_⟩ (by rw [l2]; exact small) fun g tk hd k => ?_
  · obtain ⟨b, key, e1, e2, _, _⟩ := hpr j k v e
    have eb : ps.getD j 0 = b := by rw [List.getD_eq_getElem?_getD, e1]; rfl
    refine ⟨by simp [e1, eb], ?_⟩
    show PairAt s.heap (ps.getD j 0) k v
    rw [eb]
    exact e2
  · obtain ⟨b, k, e1, e2, e3, e4⟩ := hpr i key v e
    exact ⟨k, e3, e4⟩
  · have hm : (s.heap.objs.size == sysModules) = false := beq_eq_false_iff_ne.mpr (Nat.ne_of_gt I.big)
    have few : (mergeK [] kvs).length ≤ sizeLine := by
      refine Nat.le_trans (length_mergeK kvs []) ?_
      rw [List.length_nil, Nat.zero_add, rel.length, l1]
      exact small
    have fine : ObjOk X.prog X.w (upd G s.heap.objs.size (.dK (mergeK [] kvs))) g s.heap.objs.size (.dK (mergeK [] kvs)) := ⟨few, hm, _, KV.merge rel .nil, hd⟩
    exact ⟨.ref s.heap.objs.size, upd G s.heap.objs.size (.dK (mergeK [] kvs)), I.laid (t' := tk) (fun b ob e => k b ob (by simp) e) (Nat.le_refl _) fine, rfl, q _ (I.hok.fresh (Nat.le_refl _))⟩
end
end Kr
/-! a law's end over a head that is run once: defs at addresses that are told, facts by a list of Bools -/
namespace Hk
open PySem PySem.Spec PyProof.Rows L2 He
/-- a def: where it stands, its name, qualified name, statement -/
structure PD where
  at_ : PySem.W.Frag → Addr
  name : Str
  qual : Str
  st : Stmt
def fnP (K : PySem.W.Frag) (a : Addr) : FnW := match K.lookup a with
  | some ⟨_, _, .func fd, _⟩ => some (fd.name, fd.qualname, fd.params, fd.body, fd.scope, fd.globals, fd.closure, fd.builtins)
  | _ => none
def PD.val (d : PD) : FnW := some (d.name, d.qual, defArgs d.st, .stmts (defBody d.st), defScope d.st, mainGlobals, [], builtinsNs)
def noneB : Value → Bool
  | .none => true
  | _ => false
def PD.ok (K : PySem.W.Frag) (d : PD) : Bool := PySem.W.keepIn K (.ref (d.at_ K)) && (match K.lookup (d.at_ K) with
  | some ⟨_, _, .func fd, _⟩ => PySem.W.codeIn K fd.code d.qual && noneB fd.defaults
  | _ => false)
theorem PD.fun_ {K : PySem.W.Frag} {d : PD} (e : fnP K (d.at_ K) = d.val) (c : d.ok K = true) : ∃ fd, Fun K d.name d.qual d.st (d.at_ K) fd := by
  obtain ⟨kp, c2⟩ := ba c
  unfold fnP at e
  cases q : K.lookup (d.at_ K) with
  | none =>
    rw [q] at c2
    cases c2
  | some o =>
    obtain ⟨oc, od, dt, osl⟩ := o
    rw [q] at c2 e
    cases dt with
    | func fd =>
      obtain ⟨n1, n2, n3, n4, n5, n6, n7, n8, n9, n10, n11, n12, n13, n14, n15⟩ := fd
      have e2 : (some (n1, n2, n3, n4, n5, n6, n7, n15) : FnW) = some (d.name, d.qual, defArgs d.st, .stmts (defBody d.st), defScope d.st, mainGlobals, [], builtinsNs) := e
      simp only [Option.some.injEq, Prod.mk.injEq] at e2
      obtain ⟨h1, h2, h3, h4, h5, h6, h7, h8⟩ := e2
      subst h1 h2 h3 h4 h5 h6 h7 h8
      obtain ⟨k1, k2⟩ := ba (show (PySem.W.codeIn K n13 d.qual && noneB n8) = true from c2)
      have k3 : n8 = .none := by
        cases n8 with
        | none => rfl
        | _ => cases k2
      subst k3
      exact ⟨_, ⟨oc, od, n9, n10, n11, n12, n13, n14, osl, rfl, q, k1⟩, kp⟩
    | _ => cases c2
/-! ### a part of the heap, by names -/
def nbr (g : Addr → Option Obj) (a : Addr) : List Addr := match g a with
  | some o => (match o.data with
    | .seq its _ => its.toList.flatMap refV
    | .dict es _ => es.toList.flatMap fun e => refV e.val
    | .func fd => refV fd.code
    | .cls cd => cd.ns :: cd.mro.flatMap refV
    | .fields vs => (match o.cls with
      | .type t => (match decide (t = "property") with
        | true => vs.toList.flatMap refV
        | false => [])
      | _ => [])
    | _ => [])
  | none => []
/-- those that are new, the set of all so far as a number's bits -/
def pick {α : Type} : List Addr → Nat → (List Addr → Nat → α) → α
  | [], v, k => k [] v
  | a :: r, v, k => match Nat.testBit v a with
    | true => pick r v k
    | false => HandSHeadRun.frNat (Nat.lor v (Nat.shiftLeft 1 a)) fun v' => pick r v' fun l u => k (a :: l) u
def bfs (g : Addr → Option Obj) : Nat → List Addr → Nat → List Addr
  | 0, _, _ => []
  | n + 1, fr, v => pick (fr.flatMap fun a => nbr g a) v fun l u => l ++ bfs g n l u
def asN (g : Addr → Option Obj) (xs : List Str) : List Addr :=
  pick (mainGlobals :: xs.map fun x => ga (frG g [mainGlobals]) x) 0 fun l u => l ++ bfs g 4 l.tail u
def forceK {α : Type} : PySem.W.Frag → (PySem.W.Frag → α) → α
  | [], k => k []
  | (a, o) :: r, k => HandSHeadRun.frNat a fun a' => forceK r fun r' => k ((a', o) :: r')
theorem forceK_eq {α : Type} : ∀ (l : PySem.W.Frag) (k : PySem.W.Frag → α), forceK l k = k l
  | [], _ => rfl
  | (a, o) :: r, k => by
    show HandSHeadRun.frNat a (fun a' => forceK r fun r' => k ((a', o) :: r')) = _
    rw [HandSHeadRun.frNat_eq, forceK_eq r]
/-! ### the Hook -/
/-- written out (a map on both sides would be held against the other by its function) -/
def seeF (K : PySem.W.Frag) : List PD → List FnW
  | [] => []
  | d :: r => fnP K (d.at_ K) :: seeF K r
def sayF : List PD → List FnW
  | [] => []
  | d :: r => d.val :: sayF r
def seeT (K : PySem.W.Frag) : List Tab → List (Option (List (Option (Str × Int))))
  | [] => []
  | t :: r => dicW K (t.1 K) :: seeT K r
def sayT (w : World) : List Tab → List (Option (List (Option (Str × Int))))
  | [] => []
  | t :: r => some (keysIn w.params t.2) :: sayT w r
theorem seeF_eq (K : PySem.W.Frag) : ∀ l, seeF K l = l.map fun d => fnP K (d.at_ K)
  | [] => rfl
  | d :: r => by rw [seeF, seeF_eq K r]; rfl
theorem sayF_eq : ∀ l, sayF l = l.map PD.val
  | [] => rfl
  | d :: r => by rw [sayF, sayF_eq r]; rfl
theorem seeT_eq (K : PySem.W.Frag) : ∀ l, seeT K l = l.map fun t => dicW K (t.1 K)
  | [] => rfl
  | d :: r => by rw [seeT, seeT_eq K r]; rfl
theorem sayT_eq (w : World) : ∀ l, sayT w l = l.map fun t => some (keysIn w.params t.2)
  | [] => rfl
  | d :: r => by rw [sayT, sayT_eq w r]; rfl
abbrev AlY : Type := (Bool × List FnW) × List (Option (List (Option (Str × Int))))
def obsY (fa : List Fa) (fn : List PD) (ts : List Tab) (ex : PySem.W.Frag → List Bool) (K : PySem.W.Frag) : AlY :=
  (((fa.all fun f => f.ok K) && ((fn.all fun d => d.ok K) && (ex K).all id), seeF K fn), seeT K ts)
def valY (fn : List PD) (ts : List Tab) (w : World) : AlY := ((true, sayF fn), sayT w ts)
def obsYG (xs : List Str) (fa : List Fa) (fn : List PD) (ts : List Tab) (ex : PySem.W.Frag → List Bool) (g : Addr → Option Obj) : AlY := forceK (frG g (asN g xs)) fun K => obsY fa fn ts ex K
def SaysY (fa : List Fa) (fn : List PD) (ts : List Tab) (ex : PySem.W.Frag → List Bool) (w : World) (K : PySem.W.Frag) : Prop := obsY fa fn ts ex K = valY fn ts w
def hookY (xs : List Str) (fa : List Fa) (fn : List PD) (ts : List Tab) (ex : PySem.W.Frag → List Bool) : PySem.W.Hook where
  α := AlY
  obs := fun s => obsYG xs fa fn ts ex s.heap.get?
  val := fun w => valY fn ts w
  says := fun w h => ∃ K : PySem.W.Frag, K.In h ∧ SaysY fa fn ts ex w K
  of := fun _ _ e => ⟨_, frG_in, (forceK_eq _ _).symm.trans e⟩
  keeps := fun _ _ _ ⟨K, hK, c⟩ k => ⟨K, PySem.W.Frag.In.keeps hK k, c⟩
theorem obsYG_eq {xs : List Str} {fa : List Fa} {fn : List PD} {ts : List Tab} {ex : PySem.W.Frag → List Bool} {g : Addr → Option Obj} {s : Shared} (h : ∀ a, g a = s.heap.get? a) : obsYG xs fa fn ts ex g = (hookY xs fa fn ts ex).obs s := by
  have e : g = s.heap.get? := funext h
  rw [e] <;> rfl
section
variable {fa : List Fa} {fn : List PD} {ts : List Tab} {ex : PySem.W.Frag → List Bool} {w : World} {K : PySem.W.Frag}
theorem SaysY.b (c : SaysY fa fn ts ex w K) : (fa.all fun f => f.ok K) = true ∧ (fn.all fun d => d.ok K) = true ∧ (ex K).all id = true := by
  have e : ((fa.all fun f => f.ok K) && ((fn.all fun d => d.ok K) && (ex K).all id)) = true := congrArg (fun z : AlY => z.1.1) c
  obtain ⟨h1, h2⟩ := ba e
  exact ⟨h1, ba h2⟩
theorem SaysY.fact (c : SaysY fa fn ts ex w K) (i : Nat) {f : Fa} (h : fa[i]? = some f := by rfl) : f.ok K = true :=
  List.all_eq_true.mp c.b.1 f (List.mem_of_getElem? h)
theorem SaysY.more (c : SaysY fa fn ts ex w K) (i : Nat) {x : Bool} (h : (ex K)[i]? = some x := by rfl) : x = true :=
  List.all_eq_true.mp c.b.2.2 x (List.mem_of_getElem? h)
theorem SaysY.def_ (c : SaysY fa fn ts ex w K) (i : Nat) {d : PD} (h : fn[i]? = some d := by rfl) : ∃ fd, Fun K d.name d.qual d.st (d.at_ K) fd := by
  refine PD.fun_ ?_ (List.all_eq_true.mp c.b.2.1 d (List.mem_of_getElem? h))
  have e0 : seeF K fn = sayF fn := congrArg (fun z : AlY => z.1.2) c
  have e : fn.map (fun d => fnP K (d.at_ K)) = fn.map PD.val := by rw [← seeF_eq, ← sayF_eq]; exact e0
  have e2 : (fn.map fun d => fnP K (d.at_ K))[i]? = (fn.map PD.val)[i]? := by rw [e]
  rw [List.getElem?_map, List.getElem?_map, h] at e2
  exact Option.some.inj e2
theorem SaysY.tab (c : SaysY fa fn ts ex w K) (i : Nat) {t : Tab} (h : ts[i]? = some t := by rfl) : ∃ es n, KDict K w (t.1 K) es n := by
  have e0 : seeT K ts = sayT w ts := congrArg (fun z : AlY => z.2) c
  have e : ts.map (fun t => dicW K (t.1 K)) = ts.map fun t => some (keysIn w.params t.2) := by rw [← seeT_eq, ← sayT_eq]; exact e0
  have e2 : (ts.map fun t => dicW K (t.1 K))[i]? = (ts.map fun t => some (keysIn w.params t.2))[i]? := by rw [e]
  rw [List.getElem?_map, List.getElem?_map, h] at e2
  exact dicW_ok (Option.some.inj e2)
end
/-! ### Bools and what they tell -/
/-- a written tuple of texts -/
def seqB (K : PySem.W.Frag) (a : Addr) (vs : List V) : Bool := match K.lookup a with
  | some ⟨.type c, _, .seq its _, _⟩ => decide (c = "tuple") && (decide (its.size ≤ sizeLine) && relAll vs its.toList)
  | _ => false
theorem seqB_ok {K : PySem.W.Frag} {a : Addr} {vs : List V} (h : seqB K a vs = true) (H : Hp) : SqT K H a vs := by
  unfold seqB at h
  cases q : K.lookup a with
  | none =>
    rw [q] at h
    cases h
  | some o =>
    obtain ⟨oc, od, dt, osl⟩ := o
    rw [q] at h
    cases oc with
    | type c =>
      cases dt with
      | seq its n =>
        obtain ⟨h1, h2⟩ := ba (show (decide (c = "tuple") && (decide (its.size ≤ sizeLine) && relAll vs its.toList)) = true from h)
        obtain ⟨h3, h4⟩ := ba h2
        exact .inr ⟨_, its, n, q, congrArg Value.type (of_decide_eq_true h1), rfl, of_decide_eq_true h3, relAll_ok h4⟩
      | _ => cases h
    | _ => cases dt <;> cases h
/-- the address of a dict's value -/
def valAd (K : PySem.W.Frag) (D : Addr) (z : Str) : Addr := match PySem.W.nsIn K D z with
  | some (some (.ref t)) => t
  | _ => 0
def eqV (a b : Option Value) : Bool := decide (a = b)
/-- a dict's value is a tuple of texts -/
def dtB (K : PySem.W.Frag) (D : Addr) (z : Str) (fs : List Str) : Bool := eqO (PySem.W.nsIn K D z) (some (some (.ref (valAd K D z)))) && seqB K (valAd K D z) (fs.map V.str)
theorem dtB_ok {K : PySem.W.Frag} {D : Addr} {z : Str} {fs : List Str} (h : dtB K D z fs = true) : ∃ t, PySem.W.nsIn K D z = some (some (.ref t)) ∧ ∀ H, SqT K H t (fs.map V.str) := by
  obtain ⟨h1, h2⟩ := ba h
  exact ⟨_, eqO_ok h1, fun H => seqB_ok h2 H⟩
/-- the class of an error with a field -/
def oexB (K : PySem.W.Frag) (C : Addr) : Bool := match K.lookup C with
  | some ⟨.type t, _, .cls cd, sl⟩ => decide (t = "type") && ((match cd.mro with
      | .ref c :: bm => decide (c = C) && PySem.HandSPX.refsVE bm
      | _ => false) && (cd.hasDict && (!cd.hasDel && (match sl.toList with
      | [_, _, _, _, some (.builtin z), _] => decide (z = "ValueError.__new__")
      | _ => false))))
  | _ => false
theorem oexB_ok {K : PySem.W.Frag} {C : Addr} (h : oexB K C = true) : ∃ nm q N bs bm sn sub ab col dd k0 k1 k2 k3 k5, K.lookup C = some (excClassObj nm q C N bs bm true sn sub ab col dd k0 k1 k2 k3 k5 "ValueError.__new__") ∧ PySem.HandSPX.refsVE bm = true := by
  unfold oexB at h
  cases q : K.lookup C with
  | none =>
    rw [q] at h
    cases h
  | some o =>
    obtain ⟨oc, od, dt, osl⟩ := o
    rw [q] at h
    cases oc with
    | type t =>
      cases dt with
      | cls cd =>
        obtain ⟨n1, n2, n3, n4, n5, n6, n7, n8, n9, n10, n11⟩ := cd
        obtain ⟨h1, h2⟩ := ba h
        obtain ⟨h3, h4⟩ := ba h2
        obtain ⟨h5, h6⟩ := ba h4
        obtain ⟨h7, h8⟩ := ba h6
        have e1 : t = "type" := of_decide_eq_true h1
        dsimp only at h3 h5 h7 h8
        subst h5
        have e7 : n11 = false := by simpa using h7
        subst e1 e7
        cases n3 with
        | nil => cases h3
        | cons v bm =>
          cases v with
          | ref c =>
            obtain ⟨h9, h10⟩ := ba (show (decide (c = C) && PySem.HandSPX.refsVE bm) = true from h3)
            have e9 : c = C := of_decide_eq_true h9
            subst e9
            obtain ⟨osl⟩ := osl
            match osl, h8 with
            | [k0, k1, k2, k3, some (.builtin z), k5], h8 =>
              have e10 : z = "ValueError.__new__" := of_decide_eq_true h8
              subst e10
              exact ⟨n1, n5, n4, n2, bm, n7, n8, n9, n10, od, k0, k1, k2, k3, k5, rfl, h10⟩
          | _ => cases h3
      | _ => cases h
    | _ => cases dt <;> cases h
def xiB (K : PySem.W.Frag) (C : Addr) (i : Addr) : List Bool := [oexB K C, eqO (PySem.W.findIn K (.ref C) "__setattr__") (some (some (.builtin "object.__setattr__"))), decide (PySem.W.subIn K (.ref C) (.type "BaseException") = some true), eqV (PySem.W.typeIn K (.ref C)) (some (.type "type")), PySem.W.keepIn K (.ref C), xfB K C,
  eqO (PySem.W.findIn K (.ref C) "index") (some none), eqO (PySem.W.findIn K (.ref C) "__init__") (some (some (.ref i))), eqV (PySem.W.typeIn K (.ref i)) (some (.type "function"))]
/-- what an error class with a field index has -/
structure XiF (K : PySem.W.Frag) (C fI : Addr) : Prop where
  o : OexC K C
  f : XfC K C
  n : PySem.W.findIn K (.ref C) "index" = some none
  i : PySem.W.findIn K (.ref C) "__init__" = some (some (.ref fI))
  t : PySem.W.typeIn K (.ref fI) = some (.type "function")
theorem all_at {l : List Bool} (h : l.all id = true) (i : Nat) {x : Bool} (e : l[i]? = some x := by rfl) : x = true := List.all_eq_true.mp h x (List.mem_of_getElem? e)
theorem xiB_ok {K : PySem.W.Frag} {C i : Addr} (h : (xiB K C i).all id = true) : XiF K C i :=
  ⟨⟨oexB_ok (all_at h 0), eqO_ok (all_at h 1), of_decide_eq_true (all_at h 2), of_decide_eq_true (all_at h 3), all_at h 4⟩, xfB_ok (all_at h 5), eqO_ok (all_at h 6), eqO_ok (all_at h 7), of_decide_eq_true (all_at h 8)⟩
/-- an own class beside the built-in ones -/
def ownB (K : PySem.W.Frag) (C : Addr) : List Bool := [eqO (PySem.W.findIn K (.ref C) "__class__") (some (some (.builtin "object.__class__"))), eqO (PySem.W.specialIn K (.builtin "object.__class__") "__get__") (some (some (.builtin "getset_descriptor.__get__"))), decide (PySem.W.takesIn K (.builtin "object.__class__") = some true),
  decide (PySem.W.mroIn K C (.type "object") = some true), eqV (PySem.W.typeIn K (.ref C)) (some (.type "type")), PySem.W.isClsIn K C, decide (PySem.W.subIn K (.type "tuple") (.ref C) = some false), decide (PySem.W.subIn K (.ref C) (.type "tuple") = some false)]
structure OwnF (K : PySem.W.Frag) (C : Addr) : Prop where
  ha : PySem.W.findIn K (.ref C) "__class__" = some (some (.builtin "object.__class__"))
  hn : PySem.W.specialIn K (.builtin "object.__class__") "__get__" = some (some (.builtin "getset_descriptor.__get__"))
  ht : PySem.W.takesIn K (.builtin "object.__class__") = some true
  hm : PySem.W.mroIn K C (.type "object") = some true
  ty : PySem.W.typeIn K (.ref C) = some (.type "type")
  ic : PySem.W.isClsIn K C = true
  st : PySem.W.subIn K (.type "tuple") (.ref C) = some false
  ct : PySem.W.subIn K (.ref C) (.type "tuple") = some false
theorem ownB_ok {K : PySem.W.Frag} {C : Addr} (h : (ownB K C).all id = true) : OwnF K C :=
  ⟨eqO_ok (all_at h 0), eqO_ok (all_at h 1), of_decide_eq_true (all_at h 2), of_decide_eq_true (all_at h 3), of_decide_eq_true (all_at h 4), all_at h 5, of_decide_eq_true (all_at h 6), of_decide_eq_true (all_at h 7)⟩
/-- a property: its object, its getter -/
def prG (K : PySem.W.Frag) (p : Addr) : Addr := match PySem.W.recIn K p "property" with
  | some (.ref g :: _) => g
  | _ => 0
def prB (K : PySem.W.Frag) (C : Addr) (f : Str) : List Bool := [eqO (PySem.W.findIn K (.ref C) f) (some (some (.ref (ma K C f)))), eqO (PySem.W.specialIn K (.ref (ma K C f)) "__get__") (some (some (.builtin "property.__get__"))), decide (PySem.W.takesIn K (.ref (ma K C f)) = some true),
  (match PySem.W.recIn K (ma K C f) "property" with
  | some (.ref _ :: _) => true
  | _ => false)]
theorem prB_ok {K : PySem.W.Frag} {C : Addr} {f : Str} (h : (prB K C f).all id = true) : PropOf K C f (ma K C f) (prG K (ma K C f)) := by
  refine ⟨eqO_ok (all_at h 0), eqO_ok (all_at h 1), of_decide_eq_true (all_at h 2), ?_⟩
  have h3 := all_at h 3
  unfold prG
  split at h3
  · next g r e =>
    rw [e]
    exact ⟨r, rfl⟩
  · cases h3
end Hk
/-! k92: the run of the law's head, in six parts (each within the memory of one check), ahead of all else -/
namespace Bt
open PySem PySem.Spec PyProof.Rows L2
def topH (i : Nat) : Stmt := PySem.Challenge.pw_buildroom_k92_errors_are_apart.main.body.getD i (.Pass ⟨0, 0, 0, 0⟩)
def waysH : List Str := [Str.ofString "always", Str.ofString "moments", Str.ofString "records", Str.ofString "whole"]
def kindsH : List Str := [Str.ofString "eldest", Str.ofString "lately"]
/-- the first clause that takes it -/
def pick (K : PySem.W.Frag) (X : Addr) : List (Addr × Int) → Option Int
  | [] => none
  | (c, n) :: r => match PySem.W.exmOne K (.ref X) (.ref c) with
    | some true => some n
    | some false => pick K X r
    | none => none
def fstJ (L : Nat → Addr) (R : Addr) : List (Addr × Int) := [(L 0, 0), (L 1, 1), (L 2, 2), (L 3, 3), (L 4, 4), (L 5, 5), (L 6, 6), (L 7, 7), (L 8, 8), (L 9, 9), (R, 10)]
def sndJ (L : Nat → Addr) (R : Addr) : List (Addr × Int) := [(L 10, 10), (L 11, 11), (L 12, 12), (L 13, 13), (L 14, 14), (L 15, 15), (L 16, 16), (L 17, 17), (L 18, 18), (R, 0)]
def thdJ (L : Nat → Addr) (R : Addr) : List (Addr × Int) := [(L 19, 19), (L 20, 20), (L 21, 21), (L 22, 22), (R, 0)]
def fstN (k : Nat) : Int := if (10 : Int) < (k : Int) then 10 else (k : Int)
def sndN (k : Nat) : Int := if 9 < k ∧ k < 19 then (k : Int) else 0
def thdN (k : Nat) : Int := if 18 < k then (k : Int) else 0
def xnB (K : PySem.W.Frag) (C : Addr) (i : Addr) : List Bool := [Hk.oexB K C, He.eqO (PySem.W.findIn K (.ref C) "__setattr__") (some (some (.builtin "object.__setattr__"))), decide (PySem.W.subIn K (.ref C) (.type "BaseException") = some true), Hk.eqV (PySem.W.typeIn K (.ref C)) (some (.type "type")), PySem.W.keepIn K (.ref C),
  He.eqO (PySem.W.findIn K (.ref C) "n") (some none), He.eqO (PySem.W.findIn K (.ref C) "__init__") (some (some (.ref i))), Hk.eqV (PySem.W.typeIn K (.ref i)) (some (.type "function"))]
def Ls (K : PySem.W.Frag) : Nat → Addr
  | 0 => He.ga K "BadTree"
  | 1 => He.ga K "BadPath"
  | 2 => He.ga K "BadFolder"
  | 3 => He.ga K "BadWords"
  | 4 => He.ga K "Clash"
  | 5 => He.ga K "Full"
  | 6 => He.ga K "Absent"
  | 7 => He.ga K "BadRules"
  | 8 => He.ga K "BadBook"
  | 9 => He.ga K "BadMade"
  | 10 => He.ga K "BadRule"
  | 11 => He.ga K "BadRecord"
  | 12 => He.ga K "BadBooks"
  | 13 => He.ga K "BadAims"
  | 14 => He.ga K "BadWay"
  | 15 => He.ga K "BadStep"
  | 16 => He.ga K "BadSteps"
  | 17 => He.ga K "BadShop"
  | 18 => He.ga K "BadRow"
  | 19 => He.ga K "BadNumber"
  | 20 => He.ga K "BadKind"
  | 21 => He.ga K "BadEntries"
  | 22 => He.ga K "BadLengths"
  | _ => 0
def d0 : Hk.PD := ⟨fun K => (He.ga K "is_name"), "is_name", "is_name", topH 39⟩
def d1 : Hk.PD := ⟨fun K => (He.ga K "is_path"), "is_path", "is_path", topH 40⟩
def d2 : Hk.PD := ⟨fun K => (He.ga K "is_folder"), "is_folder", "is_folder", topH 41⟩
def d3 : Hk.PD := ⟨fun K => (He.ga K "has_signs"), "has_signs", "has_signs", topH 43⟩
def d4 : Hk.PD := ⟨fun K => (He.ga K "is_text"), "is_text", "is_text", topH 42⟩
def d5 : Hk.PD := ⟨fun K => (He.ga K "is_file"), "is_file", "is_file", topH 44⟩
def d6 : Hk.PD := ⟨fun K => (He.ga K "lies_within"), "lies_within", "lies_within", topH 37⟩
def d7 : Hk.PD := ⟨fun K => (He.ga K "in_the_way"), "in_the_way", "in_the_way", topH 38⟩
def d8 : Hk.PD := ⟨fun K => (He.ga K "may_follow"), "may_follow", "may_follow", topH 45⟩
def d9 : Hk.PD := ⟨fun K => (He.ga K "check_tree"), "check_tree", "check_tree", topH 49⟩
def d10 : Hk.PD := ⟨fun K => (He.ga K "is_word"), "is_word", "is_word", topH 60⟩
def d11 : Hk.PD := ⟨fun K => (He.ga K "fits"), "fits", "fits", topH 61⟩
def d12 : Hk.PD := ⟨fun K => (He.ga K "is_rule"), "is_rule", "is_rule", topH 62⟩
def d13 : Hk.PD := ⟨fun K => (He.ga K "check_rules"), "check_rules", "check_rules", topH 63⟩
def d14 : Hk.PD := ⟨fun K => (He.ga K "check_book"), "check_book", "check_book", topH 64⟩
def d15 : Hk.PD := ⟨fun K => (He.ga K "made_paths"), "made_paths", "made_paths", topH 56⟩
def d16 : Hk.PD := ⟨fun K => (He.ga K "is_from_to"), "is_from_to", "is_from_to", topH 99⟩
def d17 : Hk.PD := ⟨fun K => (He.ga K "is_step"), "is_step", "is_step", topH 106⟩
def d18 : Hk.PD := ⟨fun K => (He.ga K "has_step_form"), "has_step_form", "has_step_form", topH 107⟩
def d19 : Hk.PD := ⟨fun K => (He.ga K "fits_step"), "fits_step", "fits_step", topH 108⟩
def d20 : Hk.PD := ⟨fun K => (He.ga K "step_paths"), "step_paths", "step_paths", topH 109⟩
def d21 : Hk.PD := ⟨fun K => (He.ga K "are_aims"), "are_aims", "are_aims", topH 110⟩
def d22 : Hk.PD := ⟨fun K => (He.ga K "are_ascending"), "are_ascending", "are_ascending", topH 100⟩
def d23 : Hk.PD := ⟨fun K => (He.ga K "check_books"), "check_books", "check_books", topH 111⟩
def d24 : Hk.PD := ⟨fun K => (He.ga K "check_aims"), "check_aims", "check_aims", topH 112⟩
def d25 : Hk.PD := ⟨fun K => (He.ga K "check_way"), "check_way", "check_way", topH 113⟩
def d26 : Hk.PD := ⟨fun K => (He.ga K "_law_taken"), "_law_taken", "_law_taken", topH 149⟩
def d27 : Hk.PD := ⟨fun K => (He.ga K "check_path"), "check_path", "check_path", topH 46⟩
def d28 : Hk.PD := ⟨fun K => (He.ga K "check_folder"), "check_folder", "check_folder", topH 47⟩
def d29 : Hk.PD := ⟨fun K => (He.ga K "check_words"), "check_words", "check_words", topH 48⟩
def d30 : Hk.PD := ⟨fun K => (He.ga K "text_at"), "text_at", "text_at", topH 31⟩
def d31 : Hk.PD := ⟨fun K => (He.ga K "names_in"), "names_in", "names_in", topH 32⟩
def d32 : Hk.PD := ⟨fun K => (He.ga K "put"), "put", "put", topH 33⟩
def d33 : Hk.PD := ⟨fun K => (He.ga K "taken"), "taken", "taken", topH 34⟩
def d34 : Hk.PD := ⟨fun K => (He.ga K "check_made"), "check_made", "check_made", topH 65⟩
def d35 : Hk.PD := ⟨fun K => (He.ga K "run"), "run", "run", topH 91⟩
def d36 : Hk.PD := ⟨fun K => (He.ga K "build_for"), "build_for", "build_for", topH 93⟩
def d37 : Hk.PD := ⟨fun K => (He.ga K "check_steps"), "check_steps", "check_steps", topH 145⟩
def d38 : Hk.PD := ⟨fun K => (He.ga K "check_shop"), "check_shop", "check_shop", topH 146⟩
def d39 : Hk.PD := ⟨fun K => (He.ga K "check_row"), "check_row", "check_row", topH 147⟩
def d40 : Hk.PD := ⟨fun K => (He.ga K "first_wrong"), "first_wrong", "first_wrong", topH 141⟩
def d41 : Hk.PD := ⟨fun K => (He.ga K "follow"), "follow", "follow", topH 142⟩
def d42 : Hk.PD := ⟨fun K => (He.ga K "is_stopped"), "is_stopped", "is_stopped", topH 72⟩
def d43 : Hk.PD := ⟨fun K => (He.ga K "places_known"), "places_known", "places_known", topH 73⟩
def d44 : Hk.PD := ⟨fun K => (He.ga K "next_place"), "next_place", "next_place", topH 71⟩
def d45 : Hk.PD := ⟨fun K => (He.ga K "is_record"), "is_record", "is_record", topH 119⟩
def d46 : Hk.PD := ⟨fun K => (He.ga K "check_rule"), "check_rule", "check_rule", topH 122⟩
def d47 : Hk.PD := ⟨fun K => (He.ga K "check_record"), "check_record", "check_record", topH 123⟩
def d48 : Hk.PD := ⟨fun K => (He.ga K "right_record"), "right_record", "right_record", topH 117⟩
def d49 : Hk.PD := ⟨fun K => (He.ga K "told_by"), "told_by", "told_by", topH 118⟩
def d50 : Hk.PD := ⟨fun K => (He.ga K "true_entry"), "true_entry", "true_entry", topH 130⟩
def d51 : Hk.PD := ⟨fun K => (He.ga K "check_entries"), "check_entries", "check_entries", topH 131⟩
def d52 : Hk.PD := ⟨fun K => (He.ga K "check_lengths"), "check_lengths", "check_lengths", topH 137⟩
def d53 : Hk.PD := ⟨fun K => (He.ga K "plan_of"), "plan_of", "plan_of", topH 135⟩
def d54 : Hk.PD := ⟨fun K => (He.ga K "_law_paths"), "_law_paths", "_law_paths", topH 150⟩
def d55 : Hk.PD := ⟨fun K => (He.ga K "_law_rooms"), "_law_rooms", "_law_rooms", topH 151⟩
def d56 : Hk.PD := ⟨fun K => (He.ga K "_law_call"), "_law_call", "_law_call", topH 152⟩
def d57 : Hk.PD := ⟨fun K => (He.ga K "_law_first"), "_law_first", "_law_first", topH 153⟩
def d58 : Hk.PD := ⟨fun K => (He.ga K "_law_second"), "_law_second", "_law_second", topH 154⟩
def d59 : Hk.PD := ⟨fun K => (He.ga K "_law_third"), "_law_third", "_law_third", topH 155⟩
def d60 : Hk.PD := ⟨fun K => (He.ga K "law"), "law", "law", topH 156⟩
def d61 : Hk.PD := ⟨fun K => (He.ma K (He.ga K "Book") "__init__"), "__init__", "Book.__init__", inClass (topH 55) 0⟩
def d62 : Hk.PD := ⟨fun K => (Hk.prG K (He.ma K (He.ga K "Book") "rules")), "rules", "Book.rules", inClass (topH 55) 1⟩
def d63 : Hk.PD := ⟨fun K => (He.ma K (He.ga K "BadRules") "__init__"), "__init__", "BadRules.__init__", inClass (topH 10) 0⟩
def d64 : Hk.PD := ⟨fun K => (He.ma K (He.ga K "BadTree") "__init__"), "__init__", "BadTree.__init__", inClass (topH 6) 0⟩
def d65 : Hk.PD := ⟨fun K => (He.ma K (He.ga K "BadBooks") "__init__"), "__init__", "BadBooks.__init__", inClass (topH 15) 0⟩
def d66 : Hk.PD := ⟨fun K => (He.ma K (He.ga K "BadSteps") "__init__"), "__init__", "BadSteps.__init__", inClass (topH 19) 0⟩
def d67 : Hk.PD := ⟨fun K => (He.ma K (He.ga K "BadEntries") "__init__"), "__init__", "BadEntries.__init__", inClass (topH 23) 0⟩
def d68 : Hk.PD := ⟨fun K => (He.ma K (He.ga K "BadNumber") "__init__"), "__init__", "BadNumber.__init__", inClass (topH 22) 0⟩
def d69 : Hk.PD := ⟨fun K => (He.ma K (He.ga K "Store") "__init__"), "__init__", "Store.__init__", inClass (topH 128) 0⟩
def d70 : Hk.PD := ⟨fun K => (He.ma K (He.ga K "Book") "__len__"), "__len__", "Book.__len__", inClass (topH 55) 2⟩
def d71 : Hk.PD := ⟨fun K => (He.ma K (He.ga K "Bench") "__init__"), "__init__", "Bench.__init__", inClass (topH 97) 0⟩
def d72 : Hk.PD := ⟨fun K => (He.ma K (He.ga K "Builder") "__init__"), "__init__", "Builder.__init__", inClass (topH 115) 0⟩
def d73 : Hk.PD := ⟨fun K => (He.ma K (He.ga K "Builder") "do"), "do", "Builder.do", inClass (topH 115) 4⟩
def d74 : Hk.PD := ⟨fun K => (He.ma K (He.ga K "Shop") "__init__"), "__init__", "Shop.__init__", inClass (topH 140) 0⟩
def d75 : Hk.PD := ⟨fun K => (Hk.prG K (He.ma K (He.ga K "Shop") "steps")), "steps", "Shop.steps", inClass (topH 140) 1⟩
def fnL1 : List Hk.PD := [d0, d1, d2, d3, d4, d5, d6, d7, d8, d9, d10, d11, d12, d13, d14, d15, d16, d17, d18, d19, d20, d21, d22, d23, d24, d25, d26, d27, d28, d29, d30, d31, d32, d33, d34, d35, d36, d37]
def fnL2 : List Hk.PD := [d38, d39, d40, d41, d42, d43, d44, d45, d46, d47, d48, d49, d50, d51, d52, d53, d54, d55, d56, d57, d58, d59, d60, d61, d62, d63, d64, d65, d66, d67, d68, d69, d70, d71, d72, d73, d74, d75]
def fnL : List Hk.PD := fnL1 ++ fnL2
def faL : List He.Fa := [.free "len", .free "all", .free "any", .free "isinstance", .free "str", .free "tuple", .free "list", .free "int", .free "range", .free "enumerate", .int "MOST_NAMES" 3, .int "LONGEST_NAME" 6, .int "LONGEST_TEXT" 200, .free "zip", .free "sorted", .free "max", .int "MOST_RULES" 8, .int "MOST_JOINED" 4, .int "LONGEST_WORD" 8, .int "MOST_FILES" 20, .glo "BadRules", .glo "BadTree", .glo "Book", .cls "Book", .mkr "Book", .noat "Book" "_rules", .glo "FORMS", .glo "BadBooks", .exc "BadAims", .glo "BadAims", .exc "BadWay", .glo "BadWay", .glo "STEP_FORMS", .glo "WAYS", .exc "BadPath", .glo "BadPath", .exc "BadFolder", .glo "BadFolder", .exc "BadWords", .glo "BadWords", .exc "Clash", .glo "Clash", .exc "Full", .glo "Full", .exc "Absent", .glo "Absent", .exc "BadBook", .glo "BadBook", .exc "BadMade", .glo "BadMade", .exc "BadRule", .glo "BadRule", .exc "BadRecord", .glo "BadRecord", .exc "BadStep", .glo "BadStep", .exc "BadShop", .glo "BadShop", .exc "BadRow", .glo "BadRow", .exc "BadKind", .glo "BadKind", .exc "BadLengths", .glo "BadLengths", .glo "BadSteps", .glo "BadEntries", .glo "BadNumber", .glo "KINDS", .glo "Shop", .cls "Shop", .mkr "Shop", .noat "Shop" "_books", .noat "Shop" "_tree", .noat "Shop" "_aims", .noat "Shop" "_steps", .glo "Bench", .cls "Bench", .mkr "Bench", .noat "Bench" "books", .noat "Bench" "aims", .noat "Bench" "way", .noat "Bench" "chosen", .noat "Bench" "clock", .noat "Bench" "sources", .noat "Bench" "sources_at", .noat "Bench" "left", .noat "Bench" "left_at", .noat "Bench" "kept", .glo "Builder", .cls "Builder", .mkr "Builder", .noat "Builder" "_bench", .meth "Builder" "do", .mkr "Store", .glo "RoomError", .glo "is_name", .glo "is_path", .glo "is_folder", .glo "has_signs", .glo "is_text", .glo "is_file", .glo "lies_within", .glo "in_the_way", .glo "may_follow", .glo "check_tree", .glo "is_word", .glo "fits", .glo "is_rule", .glo "check_rules", .glo "check_book", .glo "made_paths", .free "bool", .glo "is_from_to", .int "MOST_CUT" 20, .glo "fits_step", .glo "has_step_form", .glo "step_paths", .glo "is_step", .glo "are_ascending", .glo "are_aims", .int "MOST_BOOKS" 3, .glo "check_books", .glo "check_aims", .glo "check_way", .glo "check_path", .glo "check_folder", .glo "check_words", .glo "text_at", .glo "names_in", .free "dict", .glo "put", .glo "taken", .glo "check_made", .glo "build_for", .glo "run", .int "BEGINNING" 1, .int "MOST_STEPS" 8, .glo "check_steps", .glo "check_shop", .glo "check_row", .glo "first_wrong", .glo "follow", .glo "check_rule", .glo "is_stopped", .glo "places_known", .glo "next_place", .glo "is_record", .glo "check_record", .glo "right_record", .glo "told_by", .glo "true_entry", .int "MOST_ENTRIES" 40, .glo "check_entries", .int "MOST_ROOM" 20, .glo "check_lengths", .glo "plan_of", .glo "_law_paths", .glo "Store", .glo "_law_rooms", .glo "_law_call", .glo "_law_taken", .glo "_law_first", .glo "_law_second", .glo "_law_third", .free "min", .glo "law"]
def t0 : He.Tab := (fun K => He.ga K "FORMS", ["join", "size", "sort", "pick", "names", "use", "choose", "need"])
def t1 : He.Tab := (fun K => He.ga K "STEP_FORMS", ["write", "back", "drop", "touch", "spoil", "lose", "forget", "swap", "build", "cut"])
def tsL : List He.Tab := [t0, t1]
def exL (K : PySem.W.Frag) : List Bool := [(Hk.xiB K (He.ga K "BadRules") (He.ma K (He.ga K "BadRules") "__init__")).all id, (Hk.xiB K (He.ga K "BadTree") (He.ma K (He.ga K "BadTree") "__init__")).all id, (Hk.ownB K (He.ga K "Book")).all id, (Hk.prB K (He.ga K "Book") "rules").all id, He.eqO (PySem.W.findIn K (.ref (He.ga K "Book")) "__len__") (some (some (.ref (He.ma K (He.ga K "Book") "__len__")))), PySem.W.isFn K (.ref (He.ma K (He.ga K "Book") "__len__")), He.eqO (PySem.W.findIn K (.ref (He.ga K "Book")) "__eq__") (some (some (.ref (He.ma K (He.ga K "Book") "__eq__")))), PySem.W.isFn K (.ref (He.ma K (He.ga K "Book") "__eq__")), He.eqO (PySem.W.nsIn K (He.ga K "FORMS") "Size") (some none), Hk.dtB K (He.ga K "FORMS") "join" [Str.ofString "paths"], Hk.dtB K (He.ga K "FORMS") "size" [Str.ofString "path"], Hk.dtB K (He.ga K "FORMS") "sort" [Str.ofString "path"], Hk.dtB K (He.ga K "FORMS") "pick" [Str.ofString "path", Str.ofString "word"], Hk.dtB K (He.ga K "FORMS") "names" [Str.ofString "folder"], Hk.dtB K (He.ga K "FORMS") "use" [Str.ofString "path"], Hk.dtB K (He.ga K "FORMS") "choose" [Str.ofString "path", Str.ofString "path", Str.ofString "path"], Hk.dtB K (He.ga K "FORMS") "need" [Str.ofString "path", Str.ofString "word"], (Hk.xiB K (He.ga K "BadBooks") (He.ma K (He.ga K "BadBooks") "__init__")).all id, He.eqO (PySem.W.nsIn K (He.ga K "STEP_FORMS") "Build") (some none), Hk.dtB K (He.ga K "STEP_FORMS") "write" [Str.ofString "file", Str.ofString "text"], Hk.dtB K (He.ga K "STEP_FORMS") "back" [Str.ofString "file", Str.ofString "text"], Hk.dtB K (He.ga K "STEP_FORMS") "drop" [Str.ofString "file"], Hk.dtB K (He.ga K "STEP_FORMS") "touch" [Str.ofString "file"], Hk.dtB K (He.ga K "STEP_FORMS") "spoil" [Str.ofString "made", Str.ofString "text"], Hk.dtB K (He.ga K "STEP_FORMS") "lose" [Str.ofString "made"], Hk.dtB K (He.ga K "STEP_FORMS") "forget" [Str.ofString "made"], Hk.dtB K (He.ga K "STEP_FORMS") "swap" [Str.ofString "book"], Hk.dtB K (He.ga K "STEP_FORMS") "build" [], Hk.dtB K (He.ga K "STEP_FORMS") "cut" [Str.ofString "run"], Hk.seqB K (He.ga K "WAYS") (waysH.map V.str), (Hk.xiB K (He.ga K "BadSteps") (He.ma K (He.ga K "BadSteps") "__init__")).all id, (Hk.xiB K (He.ga K "BadEntries") (He.ma K (He.ga K "BadEntries") "__init__")).all id, (xnB K (He.ga K "BadNumber") (He.ma K (He.ga K "BadNumber") "__init__")).all id, Hk.seqB K (He.ga K "KINDS") (kindsH.map V.str), (Hk.ownB K (He.ga K "Shop")).all id, (Hk.prB K (He.ga K "Shop") "steps").all id, He.eqO (PySem.W.findIn K (.ref (He.ga K "Shop")) "__eq__") (some (some (.ref (He.ma K (He.ga K "Shop") "__eq__")))), PySem.W.isFn K (.ref (He.ma K (He.ga K "Shop") "__eq__")), (List.range 23).all fun k => decide (pick K (Ls K k) (fstJ (Ls K) (He.ga K "RoomError")) = some (fstN k)), (List.range 23).all fun k => decide (pick K (Ls K k) (sndJ (Ls K) (He.ga K "RoomError")) = some (sndN k)), (List.range 23).all fun k => decide (pick K (Ls K k) (thdJ (Ls K) (He.ga K "RoomError")) = some (thdN k))]
def nmL0 : List Str := ["_wall", "__name__", "RoomError", "BadPath", "BadFolder", "BadWords", "BadTree", "Clash", "Full", "Absent", "BadRules", "BadBook", "BadRule", "BadMade", "BadRecord", "BadBooks", "BadAims", "BadWay", "BadStep", "BadSteps", "BadShop", "BadRow", "BadNumber", "BadEntries", "BadKind", "BadLengths", "MOST_NAMES", "LONGEST_NAME", "LONGEST_TEXT", "MOST_FILES"]
def nmL1 : List Str := ["text_at", "names_in", "put", "taken", "ascending_pairs", "names_behind", "lies_within", "in_the_way", "is_name", "is_path", "is_folder", "is_text", "has_signs", "is_file", "may_follow", "check_path", "check_folder", "check_words", "check_tree", "MOST_RULES", "MOST_JOINED", "LONGEST_WORD", "FORMS", "Book", "made_paths", "least_order", "told_paths", "rule_table", "is_word", "fits"]
def nmL2 : List Str := ["is_rule", "check_rules", "check_book", "check_made", "LONGEST_MADE", "USE", "place_of", "look_at", "next_place", "is_stopped", "places_known", "outcome_by", "text_by", "text_of", "sorted_lines", "picked_lines", "is_use", "used_paths", "text_with", "RingMet", "Making", "CutOff", "Build", "RING", "CleanBuild", "run", "lies_clean", "build_for", "BACK", "BEGINNING"]
def nmL3 : List Str := ["Bench", "is_from_to", "are_ascending", "MOST_BOOKS", "MOST_CUT", "WAYS", "STEP_FORMS", "is_step", "has_step_form", "fits_step", "step_paths", "are_aims", "check_books", "check_aims", "check_way", "Builder", "right_record", "told_by", "is_record", "is_look_at", "are_names", "check_rule", "check_record", "MOST_ROOM", "MOST_ENTRIES", "KINDS", "Store", "StoreBuild", "true_entry", "check_entries"]
def nmL4 : List Str := ["LONGEST_JOB", "ROOM_OF_RULE", "plan_of", "made_in_record", "check_lengths", "MOST_STEPS", "Shop", "first_wrong", "follow", "first_row", "is_wrong", "check_steps", "check_shop", "check_row", "_law_taken", "_law_paths", "_law_rooms", "_law_call", "_law_first", "_law_second", "_law_third"]
def nmL : List Str := nmL0 ++ nmL1 ++ nmL2 ++ nmL3 ++ nmL4
def xsL0 : List Str := ["is_name", "is_path", "is_folder", "has_signs", "is_text", "is_file", "lies_within", "in_the_way", "may_follow", "check_tree", "is_word", "fits", "is_rule", "check_rules", "check_book", "made_paths", "is_from_to", "is_step", "has_step_form", "fits_step", "step_paths", "are_aims", "are_ascending", "check_books", "check_aims", "check_way", "_law_taken", "check_path", "check_folder", "check_words"]
def xsL1 : List Str := ["text_at", "names_in", "put", "taken", "check_made", "run", "build_for", "check_steps", "check_shop", "check_row", "first_wrong", "follow", "is_stopped", "places_known", "next_place", "is_record", "check_rule", "check_record", "right_record", "told_by", "true_entry", "check_entries", "check_lengths", "plan_of", "_law_paths", "_law_rooms", "_law_call", "_law_first", "_law_second", "_law_third"]
def xsL2 : List Str := ["law", "Book", "BadRules", "BadTree", "BadBooks", "BadSteps", "BadEntries", "BadNumber", "Store", "Bench", "Builder", "Shop", "FORMS", "STEP_FORMS", "WAYS", "KINDS", "RoomError", "BadAims", "BadWay", "BadPath", "BadFolder", "BadWords", "Clash", "Full", "Absent", "BadBook", "BadMade", "BadRule", "BadRecord", "BadStep"]
def xsL3 : List Str := ["BadShop", "BadRow", "BadKind", "BadLengths"]
def xsL : List Str := xsL0 ++ xsL1 ++ xsL2 ++ xsL3
theorem says_join {fa : List He.Fa} {f1 f2 : List Hk.PD} {ts : List He.Tab} {ex : PySem.W.Frag → List Bool} {w : World} {K : PySem.W.Frag} (c1 : Hk.SaysY [] f1 ts (fun _ => []) w K) (c2 : Hk.SaysY [] f2 [] (fun _ => []) w K)
    (c3 : Hk.SaysY fa [] [] (fun _ => []) w K) (c4 : Hk.SaysY [] [] [] ex w K) : Hk.SaysY fa (f1 ++ f2) ts ex w K := by
  obtain ⟨_, h1, _⟩ := c1.b
  obtain ⟨_, h2, _⟩ := c2.b
  obtain ⟨h3, _, _⟩ := c3.b
  obtain ⟨_, _, h4⟩ := c4.b
  have e1 : Hk.seeF K f1 = Hk.sayF f1 := congrArg (fun z : Hk.AlY => z.1.2) c1
  have e2 : Hk.seeF K f2 = Hk.sayF f2 := congrArg (fun z : Hk.AlY => z.1.2) c2
  have e3 : Hk.seeT K ts = Hk.sayT w ts := congrArg (fun z : Hk.AlY => z.2) c1
  have e4 : Hk.seeF K (f1 ++ f2) = Hk.sayF (f1 ++ f2) := by
    rw [Hk.seeF_eq, Hk.sayF_eq] at e1 e2 ⊢
    rw [List.map_append, List.map_append, e1, e2]
  have e5 : ((f1 ++ f2).all fun d => d.ok K) = true := by rw [List.all_append, h1, h2]; rfl
  show (((fa.all fun f => f.ok K) && (((f1 ++ f2).all fun d => d.ok K) && (ex K).all id), Hk.seeF K (f1 ++ f2)), Hk.seeT K ts) = ((true, Hk.sayF (f1 ++ f2)), Hk.sayT w ts)
  rw [h3, h4, e3, e4, e5]
  rfl
abbrev e0 : PySem.W.Frag → List Bool := fun _ => []
abbrev AlZ : Type := (Hk.AlY × Hk.AlY) × (Hk.AlY × Hk.AlY)
abbrev hkL : PySem.W.Hook where
  α := AlZ
  obs := fun s => ((Hk.obsYG xsL [] fnL1 tsL e0 s.heap.get?, Hk.obsYG xsL [] fnL2 [] e0 s.heap.get?), (Hk.obsYG xsL faL [] [] e0 s.heap.get?, Hk.obsYG xsL [] [] [] exL s.heap.get?))
  val := fun w => ((Hk.valY fnL1 tsL w, Hk.valY fnL2 [] w), (Hk.valY [] [] w, Hk.valY [] [] w))
  says := fun w h => ∃ K : PySem.W.Frag, K.In h ∧ Hk.SaysY [] fnL1 tsL e0 w K ∧ Hk.SaysY [] fnL2 [] e0 w K ∧ Hk.SaysY faL [] [] e0 w K ∧ Hk.SaysY [] [] [] exL w K
  of := fun _ _ e => ⟨_, He.frG_in, (Hk.forceK_eq _ _).symm.trans (congrArg (fun z : AlZ => z.1.1) e), (Hk.forceK_eq _ _).symm.trans (congrArg (fun z : AlZ => z.1.2) e), (Hk.forceK_eq _ _).symm.trans (congrArg (fun z : AlZ => z.2.1) e), (Hk.forceK_eq _ _).symm.trans (congrArg (fun z : AlZ => z.2.2) e)⟩
  keeps := fun _ _ _ ⟨K, hK, c⟩ k => ⟨K, PySem.W.Frag.In.keeps hK k, c⟩
def obC (s : PySem.W.SharedT) : Hk.AlY := Hk.obsYG xsL [] fnL1 tsL e0 (HandSHeadRun.getT s)
def obD (s : PySem.W.SharedT) : Hk.AlY := Hk.obsYG xsL [] fnL2 [] e0 (HandSHeadRun.getT s)
def obE (s : PySem.W.SharedT) : Hk.AlY := Hk.obsYG xsL faL [] [] e0 (HandSHeadRun.getT s)
def obF (s : PySem.W.SharedT) : Hk.AlY := Hk.obsYG xsL [] [] [] exL (HandSHeadRun.getT s)
def obL (s : PySem.W.SharedT) : AlZ := ((obC s, obD s), (obE s, obF s))
theorem obL_eq (s : PySem.W.SharedT) : obL s = hkL.obs s.abs :=
  Prod.ext (Prod.ext (Hk.obsYG_eq (s := s.abs) (HandSHeadRun.getT_eq s)) (Hk.obsYG_eq (s := s.abs) (HandSHeadRun.getT_eq s))) (Prod.ext (Hk.obsYG_eq (s := s.abs) (HandSHeadRun.getT_eq s)) (Hk.obsYG_eq (s := s.abs) (HandSHeadRun.getT_eq s)))
abbrev rwL := PySem.W.OpenLaw.row PySem.Challenge.rw_buildroom_k92_errors_are_apart
abbrev qL := PySem.W.view rwL.prog [156]
theorem both {S A B : Type} {X : Option S} {f : S → A} {g : S → B} {a : A} {b : B} (ea : X.map f = some a) (eb : X.map g = some b) : X.map (fun s => (f s, g s)) = some (a, b) := by
  cases X with
  | none => cases ea
  | some s =>
    injection ea with ea
    injection eb with eb
    show some (f s, g s) = _
    rw [ea, eb]
open PySem.W HandSHeadRun in
abbrev runA (w : World) : Prop := ∀ os : OsState, (endF (stepQ (denQ tabQ) rwL.prog w) 20000 rwL.prog w os).map (fun s => looksF rwL.prog (boot_heap w.params) s.abs) = some (true)
theorem runA_f (w : World) : runA (w.withFollow "special-get-raises" false) := by intro os; kernel_rfl
theorem runA_t (w : World) : runA (w.withFollow "special-get-raises" true) := by intro os; kernel_rfl
theorem runA_ok (w : World) : runA w := PySem.W.byRow2 "special-get-raises" (P := runA) runA_f runA_t w
open PySem.W HandSHeadRun in
abbrev runB (w : World) : Prop := ∀ os : OsState, (endF (stepQ (denQ tabQ) rwL.prog w) 20000 rwL.prog w os).map (fun s => seenQ qL nmL (importedModules rwL.prog.main.body) (fun s => xlAt qL [] s && recOk rwL.toRowW.records s) s.abs) = some (openGood qL nmL)
theorem runB_f (w : World) : runB (w.withFollow "special-get-raises" false) := by intro os; kernel_rfl
theorem runB_t (w : World) : runB (w.withFollow "special-get-raises" true) := by intro os; kernel_rfl
theorem runB_ok (w : World) : runB w := PySem.W.byRow2 "special-get-raises" (P := runB) runB_f runB_t w
open PySem.W HandSHeadRun in
abbrev runC (w : World) : Prop := ∀ os : OsState, (endF (stepQ (denQ tabQ) rwL.prog w) 20000 rwL.prog w os).map (fun s => obC s) = some (Hk.valY fnL1 tsL w)
theorem runC_f (w : World) : runC (w.withFollow "special-get-raises" false) := by intro os; kernel_rfl
theorem runC_t (w : World) : runC (w.withFollow "special-get-raises" true) := by intro os; kernel_rfl
theorem runC_ok (w : World) : runC w := PySem.W.byRow2 "special-get-raises" (P := runC) runC_f runC_t w
open PySem.W HandSHeadRun in
abbrev runD (w : World) : Prop := ∀ os : OsState, (endF (stepQ (denQ tabQ) rwL.prog w) 20000 rwL.prog w os).map (fun s => obD s) = some (Hk.valY fnL2 [] w)
theorem runD_f (w : World) : runD (w.withFollow "special-get-raises" false) := by intro os; kernel_rfl
theorem runD_t (w : World) : runD (w.withFollow "special-get-raises" true) := by intro os; kernel_rfl
theorem runD_ok (w : World) : runD w := PySem.W.byRow2 "special-get-raises" (P := runD) runD_f runD_t w
open PySem.W HandSHeadRun in
abbrev runE (w : World) : Prop := ∀ os : OsState, (endF (stepQ (denQ tabQ) rwL.prog w) 20000 rwL.prog w os).map (fun s => obE s) = some (Hk.valY [] [] w)
theorem runE_f (w : World) : runE (w.withFollow "special-get-raises" false) := by intro os; kernel_rfl
theorem runE_t (w : World) : runE (w.withFollow "special-get-raises" true) := by intro os; kernel_rfl
theorem runE_ok (w : World) : runE w := PySem.W.byRow2 "special-get-raises" (P := runE) runE_f runE_t w
open PySem.W HandSHeadRun in
abbrev runF (w : World) : Prop := ∀ os : OsState, (endF (stepQ (denQ tabQ) rwL.prog w) 20000 rwL.prog w os).map (fun s => obF s) = some (Hk.valY [] [] w)
theorem runF_f (w : World) : runF (w.withFollow "special-get-raises" false) := by intro os; kernel_rfl
theorem runF_t (w : World) : runF (w.withFollow "special-get-raises" true) := by intro os; kernel_rfl
theorem runF_ok (w : World) : runF w := PySem.W.byRow2 "special-get-raises" (P := runF) runF_f runF_t w
theorem run_ok (w : World) : HandSHeadRun.RunEq rwL qL hkL obL 20000 nmL w := fun os => both (runA_ok w os) (both (runB_ok w os) (both (both (runC_ok w os) (runD_ok w os)) (both (runE_ok w os) (runF_ok w os))))
end Bt
/-! own classes: len, ==; zip of tuples in a comprehension -/
namespace Cr
open PySem PySem.Spec PyProof.Rows L2 Bk Bm Evl Be
section
variable {X : Cx} {n : Nat} {C f : Addr} {fd : FuncData} {ps : List Str} {sp : Sp}
/-- len(x), x of an own class with a __len__ -/
theorem call_lenI (F : FnOk X.prog X.w X.K X.mg X.base CX0 n f fd ps sp) (hs : PySem.W.findIn X.K (.ref C) "__len__" = some (some (.ref f))) (hf : PySem.W.isFn X.K (.ref f) = true) (hb : Binds X.K fd ps []) (hr : Room (n + 1) X.A) :
    CallR X (.builtin "len") (fun xs H Q => ∃ a dx fs, xs = [.ref a] ∧ H a = some (.ins C dx fs) ∧ sp [.ref a] H (fun v H' => ∃ i, v = .int i ∧ 0 ≤ i ∧ i < 2 ^ 63 ∧ Q (.int i) H') E0) := by
  intro pins s σ H xs us Q I r h
  obtain ⟨a, dx, fs, rfl, ha, hsp⟩ := h
  obtain ⟨u, rfl, ru⟩ := vals1 r
  cases ru
  obtain ⟨mA, J, _⟩ := ins_get I.hok ha
  obtain ⟨od, J, _⟩ := J.look
  obtain ⟨m, hF⟩ := I.fr
  refine PySem.W.len_K hF I.ok.mod.kin J hs hf ?_
  have hl := F.len _ _ _ _ hsp
  have r2 : Vals [V.ref a] [Value.ref a] := .cons rfl .nil
  refine wpAny_call (codeAny_mono (F.run X.A.in1 X.stack s H ⟨[.ref a], []⟩ [.ref a] [.ref a] _ E0 hr.in1 I.env0.in1 (by
    have := hb s [.ref a] I.kIn (by simpa using hl)
    simpa using this) r2 hsp) fun r s' hq => ?_)
  cases r with
  | error e => exact pass0 pins σ H s e s' I hq
  | ok fl =>
    cases fl with
    | ret w =>
      obtain ⟨z, H', I', rz, i, rfl, h0, h1, q⟩ := I.after hq
      obtain ⟨t, rfl⟩ := rz
      exact ⟨⟨h0, h1⟩, .int i, H', I'.tok _, ⟨_, rfl⟩, q⟩
    | next => exact False.elim hq
    | brk => exact False.elim hq
    | cont => exact False.elim hq
/-- the other side of an own == -/
inductive Oth (K : PySem.W.Frag) (C : Addr) (H : Hp) : V → Prop
  | ins {b dx : Addr} {fs : List (Str × V)} (h : H b = some (.ins C dx fs)) : Oth K C H (.ref b)
  | tup {b : Addr} {xs : List V} (h : H b = some (.tup xs)) (hn : PySem.W.notFirst K C (.type "tuple") = true) : Oth K C H (.ref b)
/-- x == y, x of an own class with an __eq__ -/
theorem op_eqI (F : FnOk X.prog X.w X.K X.mg X.base CX0 n f fd ps sp) (hs : PySem.W.findIn X.K (.ref C) "__eq__" = some (some (.ref f))) (hf : PySem.W.isFn X.K (.ref f) = true) (hb : Binds X.K fd ps []) (hr : Room n X.A) :
    OpR X (compareOp .Eq) (fun x y H Q => ∃ a dx fs b, x = .ref a ∧ H a = some (.ins C dx fs) ∧ y = .ref b ∧ Oth X.K C H y ∧ sp [.ref a, .ref b] H (fun v H' => ∃ i, v = .bl i ∧ Q (.bl i) H') E0) := by
  intro pins s σ H x y v u Q I rx ry h
  obtain ⟨a, dx, fs, b, rfl, ha, rfl, oth, hsp⟩ := h
  cases rx
  cases ry
  obtain ⟨mA, J, _⟩ := ins_get I.hok ha
  obtain ⟨od, J, _⟩ := J.look
  obtain ⟨m, hF⟩ := I.fr
  have ty : ∃ tb, PySem.W.Looks (model X.prog X.w) s.heap (typeOf (.ref b)) tb ∧ PySem.W.notFirst X.K C tb = true := by
    cases oth with
    | ins hb' =>
      obtain ⟨mB, J', _⟩ := ins_get I.hok hb'
      obtain ⟨od', J', _⟩ := J'.look
      exact ⟨_, J'.type, by simp [PySem.W.notFirst]⟩
    | tup hb' hn =>
      obtain ⟨_, its, _, o, ho, hc, _⟩ := I.hok b _ hb'
      exact ⟨_, hc ▸ (PySem.W.Looks.ld ho).andThen .now, hn⟩
  obtain ⟨tb, hL, hn⟩ := ty
  show wpAny (model X.prog X.w) X.A (richCompare .Eq (.ref a) (.ref b)) (EP X pins σ Q) X.xe s
  refine PySem.W.cmp_K (op := .Eq) hr.units0 hF I.ok.mod.kin J hL hn hs hf ?_
  have hl := F.len _ _ _ _ hsp
  have r2 : Vals [V.ref a, V.ref b] [Value.ref a, Value.ref b] := .cons rfl (.cons rfl .nil)
  refine wpAny_call (codeAny_mono (F.run X.A X.stack s H ⟨[.ref a, .ref b], []⟩ [.ref a, .ref b] [.ref a, .ref b] _ E0 hr I.env0 (by
    have := hb s [.ref a, .ref b] I.kIn (by simpa using hl)
    simpa using this) r2 hsp) fun r s' hq => ?_)
  cases r with
  | error e => exact pass0 pins σ H s e s' I hq
  | ok fl =>
    cases fl with
    | ret w =>
      obtain ⟨z, H', I', rz, i, rfl, q⟩ := I.after hq
      cases rz
      exact ⟨.bl i, H', I', rfl, q⟩
    | next => exact False.elim hq
    | brk => exact False.elim hq
    | cont => exact False.elim hq
end
section
variable {K : PySem.W.Frag} {σ : L2.St} {H H' : Hp} {ta tb tc te tx : TE} {x y z v : V}
/-- pairs of two tuples -/
theorem walk_zipT {a b : Addr} {xs ys : List V} {n : Nat} (hn : n = min xs.length ys.length) : Walk (RZ.ItzT K a b) n (fun H => SqT K H a xs ∧ SqT K H b ys) (YPair (fun i => xs[i]?) (fun i => ys[i]?)) := by
  subst hn
  refine ⟨fun i _ hi q => ?_, fun _ q => ⟨xs, ys, q.1, q.2, by omega⟩, fun i H v H' _ q y => ?_⟩
  · have h1 : i < xs.length := by omega
    have h2 : i < ys.length := by omega
    exact ⟨xs, ys, xs[i], ys[i], q.1, q.2, by simp [h1], by simp [h2]⟩
  · obtain ⟨T, x, z, h1, h2, h3, h4, h5⟩ := y
    exact ⟨T, x, z, h1, h2, h3, h4 xs q.1, h5 ys q.2⟩
end
end Cr
/-! dict(a plain tuple of pairs), as a dict that stands -/
namespace Kr
open PySem PySem.Spec PyProof.Rows L2 Bk Bm Evl Be
section
variable {X : Cx}
def rDictZ (K : PySem.W.Frag) : List V → Hp → VK → Prop := fun vs G Q => ∃ (a : Addr) (o : Obj) (ps : List Addr) (kvs : List (Key × V)), vs = [.ref a] ∧ G a = some (.frz o (.tup (ps.map V.ref))) ∧ Pln o ∧
    Paired (fun p kv => SqT K G p [kV kv.1, kv.2]) ps kvs ∧ ∀ p od, G p = none → Q (.ref p) (upd G p (.frz od (.dK (mergeK [] kvs))))
theorem call_dictZ (hcalm : X.calm = true) : CallR X (.type "dict") (rDictZ X.K) := by
  intro pins s τ G vs us Q I rv h
  obtain ⟨a, o, ps, kvs, rfl, ha, hpl, hp, q⟩ := h
  obtain ⟨u, rfl, ru⟩ := vals1 rv
  cases ru
  obtain ⟨at_, small, its, r2, o2, e2, hc2, n, hdat⟩ := I.hok a _ ha
  have ei := refs_at r2
  subst ei
  rw [at_] at e2
  cases e2
  rw [List.length_map] at small
  obtain ⟨prs, raw, rel, l1, l2, hpr⟩ := pairs_raw I hp
  have P := PairArg.tuple (prog := X.prog) (w := X.w) a (ps.map Value.ref).toArray (fun j => ps.getD j 0) raw
  refine PySem.call_dict_pairs (knd := mixKind X.prog X.w) (kvs := prs) P (I.ok.hd hcalm) ⟨⟨o, n, at_, hc2, hpl.2, hdat⟩, by simp [l2], fun j k v e => ?_⟩ ⟨by rw [l1, l2], fun i key v e => ?_⟩ (by rw [l2]; exact small) fun g tk hd k => ?_
  · obtain ⟨b, key, e1, e2, _, _⟩ := hpr j k v e
    have eb : ps.getD j 0 = b := by rw [List.getD_eq_getElem?_getD, e1]; rfl
    refine ⟨by simp [e1, eb], ?_⟩
    show PairAt s.heap (ps.getD j 0) k v
    rw [eb]
    exact e2
  · obtain ⟨b, k, e1, e2, e3, e4⟩ := hpr i key v e
    exact ⟨k, e3, e4⟩
  · have hm : (s.heap.objs.size == sysModules) = false := beq_eq_false_iff_ne.mpr (Nat.ne_of_gt I.big)
    have few : (mergeK [] kvs).length ≤ sizeLine := by
      refine Nat.le_trans (length_mergeK kvs []) ?_
      rw [List.length_nil, Nat.zero_add, rel.length, l1]
      exact small
    obtain ⟨od, eod⟩ : ∃ od, g.get? s.heap.objs.size = some od := by
      obtain ⟨od, _, _, e, _⟩ := id hd
      exact ⟨od, e⟩
    have fine : ObjOk X.prog X.w (upd G s.heap.objs.size (.frz od (.dK (mergeK [] kvs)))) g s.heap.objs.size (.frz od (.dK (mergeK [] kvs))) := ⟨eod, few, hm, _, KV.merge rel .nil, hd⟩
    exact ⟨.ref s.heap.objs.size, upd G s.heap.objs.size (.frz od (.dK (mergeK [] kvs))), I.laid (t' := tk) (fun b ob e => k b ob (by simp) e) (Nat.le_refl _) fine, rfl, q _ _ (I.hok.fresh (Nat.le_refl _))⟩
end
end Kr
namespace Kr
open PySem PySem.Spec PyProof.Rows L2 Bk Bm Evl Be
/-! a dict of ours that was walked may be written again -/
section
variable {X : Cx} {pins : List (Addr × Obj)} {σ : L2.St} {H : Hp} {s : Shared} {a : Addr}
theorem inv_thaw {o : Obj} {kvs : List (Key × V)} (I : Inv X pins σ H s) (ha : H a = some (.frz o (.dK kvs))) (h0 : X.H_0 a = none) : Inv X pins σ (upd H a (.dK kvs)) s := by
  have neN : ∀ b, H b = none → b ≠ a := fun b e z => by
    rw [z, ha] at e
    cases e
  obtain ⟨ok, os, bare, base, loc, cell, free, freeC, pin, hok, len⟩ := I
  obtain ⟨b1, b2, b3, b4, b5, b6, b7⟩ := base
  refine ⟨ok, os, bare, ⟨b1, b2, fun b ob q n hx => ?_, b4, fun b xs e => ?_, fun b ob u e => ?_, fun b ps e => ?_⟩, loc, cell, ?_, fun x c e => ?_, fun p hp => ?_, fun b u e => ?_, len⟩
  · have z := b3 b ob q n hx
    rw [upd_ne (neN b z)]
    exact z
  · have n : b ≠ a := fun z => by rw [z, h0] at e; cases e
    rw [upd_ne n]
    exact b5 b xs e
  · have n : b ≠ a := fun z => by rw [z, h0] at e; cases e
    rw [upd_ne n]
    exact b6 b ob u e
  · have n : b ≠ a := fun z => by rw [z, h0] at e; cases e
    rw [upd_ne n]
    exact b7 b ps e
  · rw [upd_ne (neN _ free)]
    exact free
  · have z := freeC x c e
    rw [upd_ne (neN _ z)]
    exact z
  · obtain ⟨p1, p2, p3⟩ := pin p hp
    exact ⟨p1, by rw [upd_ne (neN _ p2)]; exact p2, p3⟩
  · by_cases hb : b = a
    · subst hb
      rw [upd_same] at e
      cases e
      obtain ⟨_, q⟩ := hok b _ ha
      exact q
    · rw [upd_ne hb] at e
      exact (hok b u e).stay (fun _ _ _ q => q) (fun c q => by rw [upd_ne (ne_of q ha (by intro z; cases z))]; exact q) fun c xs q => by rw [upd_ne (ne_of q ha (by intro z; cases z))]; exact q
def tThaw (H0 : Hp) (te : TE) : TE := fun σ H Q => te σ H fun x H1 => ∃ a kvs, x = .ref a ∧ ((∃ o, H1 a = some (.frz o (.dK kvs)) ∧ H0 a = none ∧ Q (.ref a) (upd H1 a (.dK kvs))) ∨ (H1 a = some (.dK kvs) ∧ Q (.ref a) H1))
theorem pe_thaw {e : Expr} {te : TE} (h : PE X e te) : PE X e (tThaw X.H_0 te) := by
  refine ⟨fun pins s σ H Q I q => ?_⟩
  refine wpAny_mono (h.run pins s σ H _ I q) (fun u s1 ⟨v, H1, I1, r, a, kvs, ev, q1⟩ => ?_) fun _ _ x => x
  subst ev
  rcases q1 with ⟨o, e1, e2, q2⟩ | ⟨e1, q2⟩
  · exact ⟨_, _, inv_thaw I1 e1 e2, r, q2⟩
  · exact ⟨_, _, I1, r, q2⟩
end
end Kr
namespace Bp
open PySem PySem.Spec PyProof.Rows L2 Bk Bm Evl Be Cr
def top (i : Nat) : Stmt := PySem.Challenge.pw_buildroom_k92_errors_are_apart.main.body.getD i (.Pass ⟨0, 0, 0, 0⟩)
abbrev sLies : Stmt := top 37
abbrev sWay : Stmt := top 38
abbrev sIsName : Stmt := top 39
abbrev sIsPath : Stmt := top 40
abbrev sIsFolder : Stmt := top 41
abbrev sIsText : Stmt := top 42
abbrev sHas : Stmt := top 43
/-- the built-ins and the module's constants -/
structure Gv (mg : Str → Option Value) : Prop where
  len : mg "len" = none
  all : mg "all" = none
  any : mg "any" = none
  isi : mg "isinstance" = none
  str : mg "str" = none
  tup : mg "tuple" = none
  lst : mg "list" = none
  int : mg "int" = none
  rng : mg "range" = none
  enu : mg "enumerate" = none
  mn : ∃ t, mg "MOST_NAMES" = some (.int 3 t)
  ln : ∃ t, mg "LONGEST_NAME" = some (.int 6 t)
  lt : ∃ t, mg "LONGEST_TEXT" = some (.int 200 t)
  zip : mg "zip" = none
  srt : mg "sorted" = none
  max : mg "max" = none
  mr : ∃ t, mg "MOST_RULES" = some (.int 8 t)
  mj : ∃ t, mg "MOST_JOINED" = some (.int 4 t)
  lw : ∃ t, mg "LONGEST_WORD" = some (.int 8 t)
  mf : ∃ t, mg "MOST_FILES" = some (.int 20 t)
section
variable {σ : L2.St} {H : Hp}
theorem rv_leS {a b : Str} {k : Bool} (e : (!decide (b.cps.toList < a.cps.toList)) = k) : RV (fun x y H Q => ∃ i j, x = V.str i ∧ y = V.str j ∧ Q (.bl (!decide (j.cps.toList < i.cps.toList))) H) (.str a) (.str b) H (.bl k) := fun H1 _ Q q =>
  ⟨a, b, rfl, rfl, by rw [e]; exact q H1 (Ex.refl H1)⟩
theorem rv_gtS {a b : Str} : RV (fun x y H Q => ∃ i j, x = V.str i ∧ y = V.str j ∧ Q (.bl (decide (j.cps.toList < i.cps.toList))) H) (.str a) (.str b) H (.bl (decide (b.cps.toList < a.cps.toList))) := fun H1 _ Q q =>
  ⟨a, b, rfl, rfl, q H1 (Ex.refl H1)⟩
theorem not_lt_dec (a b : Nat) : (!decide (a < b)) = decide (b ≤ a) := by
  by_cases h : a < b
  · rw [decide_eq_true h, decide_eq_false (by omega)]; rfl
  · rw [decide_eq_false h, decide_eq_true (by omega)]; rfl
theorem le_lo {c n : Nat} : (!decide ((⟨#[c]⟩ : Str).cps.toList < (⟨#[n]⟩ : Str).cps.toList)) = decide (n ≤ c) := by
  show (!decide (([c] : List Nat) < [n])) = _
  rw [lt_one, not_lt_dec]
end
section
variable {P : Program} {w : World} {K : PySem.W.Frag} {mg : Str → Option Value} {base : Heap}
/-! ### is_name -/
def spName : Sp := fun vs H Q _ => ∃ x : Str, vs = [.str x] ∧ x.length ≤ 100000 ∧ RetV (.bl (nameB x)) H Q
theorem scName : FnScope ["word", "sign"] ["word"] (defScope sIsName) := ⟨rfl, rfl, rfl, by decide +kernel, rfl, by decide +kernel, by decide +kernel⟩
theorem ok_name {f : Addr} {fd : FuncData} (F : Fun K "is_name" "is_name" sIsName f fd) (T : Gv mg) : FnOk P w K mg base CX0 1 f fd ["word"] spName := by
  refine F.ok scName (fun vs H Q E h => ?_) (fun cdv A outer s H vs Q E hr h => ?_)
  · obtain ⟨x, rfl, _⟩ := h
    rfl
  · obtain ⟨x, rfl, hl, k⟩ := h
    obtain ⟨t1, m1⟩ := T.ln
    refine ⟨_, pss_one (ps_ret (pe_and (pe_chain op_le op_le pe_int (pe_callB call_len_str (by rfl) T.len PySem.boot_len (pa_cons (pv 0) pa_nil)) (pe_glob (v := .int 6) (by rfl) m1 ⟨_, rfl⟩))
      (pe_one (pe_callB (cr_all rfl) (by rfl) T.all boot_all (pa_cons (pe_lc (own := [("sign", 1)]) (g := gName 1) (tt := tYes) rfl scName.nd (pi_str (pv 0)) (blkOk_by (N := ["word", "sign"]) (sc := defScope sIsName) (by decide +kernel))
        (fun _ _ _ _ _ => pg_name (i := 1) scName.nd rfl (Or.inl rfl)) (fun _ _ _ _ _ => pts_nil)
        (fun _ _ _ _ _ => pe_or (pe_chain op_le_str op_le_str pe_str (pv 1) pe_str) (pe_one (pe_chain op_le_str op_le_str pe_str (pv 1) pe_str)))) pa_nil))))), ?_⟩
    refine s_ret (v := .bl (nameB x)) ?_ k
    refine ev_is (ev_and (a := decide ((1:Int) ≤ x.length) && decide ((x.length : Int) ≤ 6)) (b := (x.cps.toList.map sgnN).all id)
      (ev_chain ev_c (ev_lenS (ev_var rfl) hl) (rv_I0) (fun _ => ev_c) (fun _ => rv_I0))
      (fun hh => ev_all (ev_isL (el_lcS (fun c => .bl (sgnN c)) (ev_var rfl) ?_ fun c H1 e1 hc => ?_) ?_))) ?_
    · simp only [Bool.and_eq_true, decide_eq_true_eq] at hh
      omega
    · exact ev_orV (a := decide (97 ≤ c) && decide (c ≤ 122)) (b := decide (48 ≤ c) && decide (c ≤ 57)) (ev_chain ev_c (ev_var rfl) (rv_leS le_lo) (fun _ => ev_c) (fun _ => rv_leS le_lo)) (fun _ => ev_chain ev_c (ev_var rfl) (rv_leS le_lo) (fun _ => ev_c) (fun _ => rv_leS le_lo))
    · simp
    · have d1 : decide ((1 : Int) ≤ (x.length : Int)) = decide (1 ≤ x.length) := decide_eq_decide.mpr (by omega)
      have d2 : decide ((x.length : Int) ≤ 6) = decide (x.length ≤ 6) := decide_eq_decide.mpr (by omega)
      rw [d1, d2]
      simp [nameB, List.all_map]
/-! ### is_path -/
def spPath : Sp := fun vs H Q _ => ∃ v n, vs = [v] ∧ Kd K H v n ∧ (∀ x, v = .str x → x.length ≤ 100000) ∧ RetV (.bl (isPathV v)) H Q
theorem scPath : FnScope ["value", "names", "name"] ["value"] (defScope sIsPath) := ⟨rfl, rfl, rfl, by decide +kernel, rfl, by decide +kernel, by decide +kernel⟩
theorem ok_path {f : Addr} {fd : FuncData} (F : Fun K "is_path" "is_path" sIsPath f fd) (T : Gv mg) (cN : Cal P w K mg base CX0 1 "is_name" ["word"] spName) : FnOk P w K mg base CX0 2 f fd ["value"] (spPath (K := K)) := by
  refine F.ok scPath (fun vs H Q E h => ?_) (fun cdv A outer s H vs Q E hr h => ?_)
  · obtain ⟨x, n, rfl, _⟩ := h
    rfl
  · obtain ⟨v, n, rfl, kd, hl, k⟩ := h
    obtain ⟨t1, m1⟩ := T.mn
    refine ⟨_, pss_cons (ps_if (pt_not (pt_val (pe_callB call_isi (by rfl) T.isi boot_isinstance (pa_cons (pv 0) (pa_cons (pe_bltn (v := .ty "str") (by rfl) T.str (by decide +kernel) rfl) pa_nil))))) (pss_one (ps_ret pe_bl)) pss_nil)
      (pss_cons (ps_set (i := 1) scPath.nd rfl (Or.inl rfl) (pe_split (pv 0) pe_str))
      (pss_one (ps_ret (pe_and (pe_cmpR op_le (pe_callB call_len_seq (by rfl) T.len PySem.boot_len (pa_cons (pv 1) pa_nil)) (pe_glob (v := .int 3) (by rfl) m1 ⟨_, rfl⟩) (nomark _))
        (pe_one (pe_callB (cr_all rfl) (by rfl) T.all boot_all (pa_cons (pe_lc (own := [("name", 2)]) (g := gName 2) (tt := tYes) rfl scPath.nd (pi_list (pv 1)) (blkOk_by (N := ["value", "names", "name"]) (sc := defScope sIsPath) (by decide +kernel))
          (fun _ _ _ _ _ => pg_name (i := 2) scPath.nd rfl (Or.inl rfl)) (fun _ _ _ _ _ => pts_nil)
          (fun _ _ _ _ _ => pe_call cN.F hr rfl cN.g cN.kp cN.b .nil pass0 (pa_cons (pv 2) pa_nil))) pa_nil))))))), ?_⟩
    refine q_when (et_not (et_B (ev_isi (ev_var rfl) ev_c kd (.inl rfl)))) (fun hb H1 e1 => ?_) (fun hb H1 e1 => ?_)
    · have hn : n ≠ "str" := by simpa using hb
      refine s_ret (v := .bl (isPathV v)) (ev_is ev_c ?_) fun H2 e2 => k H2 (e1.trans e2)
      cases v with
      | str x => exact absurd (kd_strV kd) hn
      | _ => rfl
    · have hn : n = "str" := by simpa using hb
      subst hn
      obtain ⟨x, rfl⟩ := kd_isStr kd
      have hx := hl x rfl
      refine q_asgL (el_split (ev_var rfl) ev_c (by decide) hx) fun p H2 hp e2 h2 => ?_
      refine s_ret (v := .bl (pathB x)) ?_ fun H3 e3 => k H3 ((e1.trans e2).trans e3)
      refine ev_is (ev_and (a := decide (((partsOf x).length : Int) ≤ 3)) (b := ((partsOf x).map nameB).all id)
        (ev_is (ev_op (ev_len (ev_var rfl) (sq_of h2)) ev_c rv_I0) ?_)
        (fun hh => ev_all (ev_isL (el_lcA (fun y => match y with | .str z => .bl (nameB z) | _ => .non) (ev_var rfl) (sq_of h2) ?_ fun y H4 e4 hy => ?_) ?_))) ?_
      · rw [List.length_map]
        rfl
      · have h3 : ((partsOf x).length : Int) ≤ 3 := by simpa using hh
        rw [List.length_map]
        have h4 : (Txt.split x (Str.ofString "/")).length = (partsOf x).length := rfl
        omega
      · obtain ⟨z, hz, rfl⟩ := List.mem_map.mp hy
        have h5 := part_len (x := x) (p := z) hz
        exact ev_call (ea_cons (ev_var rfl) ea_nil) fun H5 e5 Q' q' E' => ⟨z, rfl, by omega, q'⟩
      · simp [partsOf]
      · have d1 : decide (((partsOf x).length : Int) ≤ 3) = decide ((partsOf x).length ≤ 3) := decide_eq_decide.mpr (by omega)
        rw [d1]
        simp [pathB, List.all_map]
/-! ### is_text -/
def spText : Sp := fun vs H Q _ => ∃ v n, vs = [v] ∧ Kd K H v n ∧ (∀ x, v = .str x → x.length ≤ 100000) ∧ RetV (.bl (isTextV v)) H Q
theorem scHas : FnScope ["value", "most", "sign"] ["value", "most"] (defScope sHas) := ⟨rfl, rfl, rfl, by decide +kernel, rfl, by decide +kernel, by decide +kernel⟩
def hasB (m : Nat) (x : Str) : Bool := decide (x.length ≤ m) && x.cps.toList.all sgnT
def hasV (m : Nat) : V → Bool
  | .str x => hasB m x
  | _ => false
def spHas : Sp := fun vs H Q _ => ∃ v n, ∃ m : Nat, vs = [v, .int (m : Int)] ∧ m ≤ 40000 ∧ Kd K H v n ∧ (∀ x, v = .str x → x.length ≤ 100000) ∧ RetV (.bl (hasV m v)) H Q
theorem ok_has {f : Addr} {fd : FuncData} (F : Fun K "has_signs" "has_signs" sHas f fd) (T : Gv mg) : FnOk P w K mg base CX0 1 f fd ["value", "most"] (spHas (K := K)) := by
  refine F.ok scHas (fun vs H Q E h => ?_) (fun cdv A outer s H vs Q E hr h => ?_)
  · obtain ⟨x, n, m, rfl, _⟩ := h
    rfl
  · obtain ⟨v, n, m, rfl, hm, kd, hl, k⟩ := h
    refine ⟨_, pss_cons (ps_if (pw_or (pt_not (pt_val (pe_callB call_isi (by rfl) T.isi boot_isinstance (pa_cons (pv 0) (pa_cons (pe_bltn (v := .ty "str") (by rfl) T.str (by decide +kernel) rfl) pa_nil)))))
        (pw_or1 (pt_cmpR op_gt (pe_callB call_len_str (by rfl) T.len PySem.boot_len (pa_cons (pv 0) pa_nil)) (pv 1) (nomark _)))).pt (pss_one (ps_ret pe_bl)) pss_nil)
      (pss_one (ps_ret (pe_callB (cr_all rfl) (by rfl) T.all boot_all (pa_cons (pe_lc (own := [("sign", 2)]) (g := gName 2) (tt := tYes) rfl scHas.nd (pi_str (pv 0)) (blkOk_by (N := ["value", "most", "sign"]) (sc := defScope sHas) (by decide +kernel))
          (fun _ _ _ _ _ => pg_name (i := 2) scHas.nd rfl (Or.inl rfl)) (fun _ _ _ _ _ => pts_nil)
          (fun _ _ _ _ _ => pe_or (pe_chain op_le_str op_le_str pe_str (pv 2) pe_str) (pe_one (pe_cmpR op_eq (pv 2) pe_str (nomark _))))) pa_nil)))), ?_⟩
    refine q_when (b := !(decide (n = "str")) || (match v with | .str x => decide ((m : Int) < x.length) | _ => false)) (et_or (et_not (et_B (ev_isi (ev_var rfl) ev_c kd (.inl rfl)))) fun hb => ?_) (fun hb H1 e1 => ?_) (fun hb H1 e1 => ?_)
    · have hn : n = "str" := by simpa using hb
      subst hn
      obtain ⟨x, rfl⟩ := kd_isStr kd
      exact et_test (ev_op (ev_lenS (ev_var rfl) (hl x rfl)) (ev_var rfl) rv_I0)
    · refine s_ret (v := .bl (hasV m v)) (ev_is ev_c ?_) fun H2 e2 => k H2 (e1.trans e2)
      cases v with
      | str x =>
        have hn := kd_strV kd
        subst hn
        have h6 : (m : Int) < x.length := by simpa using hb
        have h7 : hasB m x = false := by
          simp only [hasB, Bool.and_eq_false_iff, decide_eq_false_iff_not]
          left
          omega
        show _ = V.bl (hasB m x)
        rw [h7]
      | _ => rfl
    · have hb' := hb
      simp only [Bool.or_eq_false_iff] at hb'
      have hn : n = "str" := by simpa using hb'.1
      subst hn
      obtain ⟨x, rfl⟩ := kd_isStr kd
      have h6 : (x.length : Int) ≤ m := by simpa using hb'.2
      refine s_ret (v := .bl (hasB m x)) ?_ fun H2 e2 => k H2 (e1.trans e2)
      refine ev_is (ev_all (bs := x.cps.toList.map sgnT) (ev_isL (el_lcS (fun c => .bl (sgnT c)) (ev_var rfl) (by omega) fun c H1 e1 hc => ?_) ?_)) ?_
      · exact ev_orV (a := decide (32 ≤ c) && decide (c ≤ 126)) (b := decide (c = 10)) (ev_chain ev_c (ev_var rfl) (rv_leS le_lo) (fun _ => ev_c) (fun _ => rv_leS le_lo)) (fun _ => ev_is (ev_op (ev_var rfl) ev_c (rv_eq rfl)) (by
          congr 1
          rw [Bool.eq_iff_iff, decide_eq_true_eq, decide_eq_true_eq]
          constructor
          · intro h
            injection h with h
            have h8 : ([c] : List Nat) = [10] := congrArg (fun z : Str => z.cps.toList) h
            simpa using h8
          · rintro rfl
            rfl))
      · simp
      · simp [hasB, List.all_map]
        intro _
        omega
theorem scText : FnScope ["value"] ["value"] (defScope sIsText) := ⟨rfl, rfl, rfl, by decide +kernel, rfl, by decide +kernel, by decide +kernel⟩
theorem ok_text {f : Addr} {fd : FuncData} (F : Fun K "is_text" "is_text" sIsText f fd) (T : Gv mg) (cH : Cal P w K mg base CX0 1 "has_signs" ["value", "most"] (spHas (K := K))) : FnOk P w K mg base CX0 2 f fd ["value"] (spText (K := K)) := by
  refine F.ok scText (fun vs H Q E h => ?_) (fun cdv A outer s H vs Q E hr h => ?_)
  · obtain ⟨x, n, rfl, _⟩ := h
    rfl
  · obtain ⟨v, n, rfl, kd, hl, k⟩ := h
    obtain ⟨t1, m1⟩ := T.lt
    refine ⟨_, pss_one (ps_ret (pe_call cH.F hr (by rfl) cH.g cH.kp cH.b .nil pass0 (pa_cons (pv 0) (pa_cons (pe_glob (v := .int 200) (by rfl) m1 ⟨_, rfl⟩) pa_nil)))), ?_⟩
    refine s_ret (v := .bl (isTextV v)) (ev_call (ea_cons (ev_var rfl) (ea_cons ev_c ea_nil)) fun H1 e Q q E => ⟨v, n, 200, rfl, by decide, kd.mono e, hl, ?_⟩) k
    have z : hasV 200 v = isTextV v := by cases v <;> rfl
    rw [z]
    exact q
/-! ### is_folder -/
theorem scFolder : FnScope ["value"] ["value"] (defScope sIsFolder) := ⟨rfl, rfl, rfl, by decide +kernel, rfl, by decide +kernel, by decide +kernel⟩
/-! ### lies_within -/
def spLies : Sp := fun vs H Q _ => ∃ p f : Str, vs = [.str p, .str f] ∧ f.length ≤ 100000 ∧ RetV (.bl (within p f)) H Q
theorem scLies : FnScope ["path", "folder"] ["path", "folder"] (defScope sLies) := ⟨rfl, rfl, rfl, by decide +kernel, rfl, by decide +kernel, by decide +kernel⟩
theorem ok_lies {f : Addr} {fd : FuncData} (F : Fun K "lies_within" "lies_within" sLies f fd) : FnOk P w K mg base CX0 1 f fd ["path", "folder"] spLies := by
  refine F.ok scLies (fun vs H Q E h => ?_) (fun cdv A outer s H vs Q E hr h => ?_)
  · obtain ⟨x, n, rfl, _⟩ := h
    rfl
  · obtain ⟨p, fo, rfl, hl, k⟩ := h
    refine ⟨_, pss_one (ps_ret (pe_or (pe_cmpR op_eq (pv 1) pe_str (nomark _)) (pe_one (pe_m1 PySem.F.slot_str_startswith PySem.F.type_str_startswith mt_startswith (pv 0) (pe_op op_add_str (pv 1) pe_str))))), ?_⟩
    refine s_ret (v := .bl (within p fo)) ?_ k
    refine ev_is (ev_orV (a := decide (V.str fo = V.str (Str.ofString ""))) (b := Txt.startswith p (fo ++ Str.ofString "/")) (ev_op (ev_var rfl) ev_c (rv_eq rfl)) (fun _ =>
      fun H1 e1 Q q => ⟨_, rfl, ⟨p, rfl⟩, ev_op (r := fun x y H Q => ∃ i j, x = .str i ∧ y = .str j ∧ i.length + j.length ≤ sizeLine ∧ Q (.str (i ++ j)) H) (ev_var (v := .str fo) rfl) (ev_c (v := .str (Str.ofString "/"))) (z := .str (fo ++ Str.ofString "/"))
        (fun H2 e2 Q2 q2 => ⟨fo, _, rfl, rfl, Nat.le_trans (Nat.add_le_add_right hl 1) (by rw [sizeLine_eq]; decide), q2 H2 (Ex.refl _)⟩) H1 e1 _ fun H2 e2 => ⟨p, _, rfl, rfl, q H2 e2⟩⟩)) ?_
    simp [within]
/-! ### in_the_way -/
def way (p q : Str) : Bool := decide (p = q) || (within p q || within q p)
def spWay : Sp := fun vs H Q _ => ∃ p q : Str, vs = [.str p, .str q] ∧ p.length ≤ 100000 ∧ q.length ≤ 100000 ∧ RetV (.bl (way p q)) H Q
theorem scWay : FnScope ["one", "other"] ["one", "other"] (defScope sWay) := ⟨rfl, rfl, rfl, by decide +kernel, rfl, by decide +kernel, by decide +kernel⟩
theorem ok_way {f : Addr} {fd : FuncData} (F : Fun K "in_the_way" "in_the_way" sWay f fd) (cL : Cal P w K mg base CX0 1 "lies_within" ["path", "folder"] spLies) : FnOk P w K mg base CX0 2 f fd ["one", "other"] spWay := by
  refine F.ok scWay (fun vs H Q E h => ?_) (fun cdv A outer s H vs Q E hr h => ?_)
  · obtain ⟨x, n, rfl, _⟩ := h
    rfl
  · obtain ⟨p, q, rfl, hp, hq, k⟩ := h
    refine ⟨_, pss_one (ps_ret (pe_or (pe_cmpR op_eq (pv 0) (pv 1) (nomark _)) (pe_or (pe_call cL.F hr (by rfl) cL.g cL.kp cL.b .nil pass0 (pa_cons (pv 0) (pa_cons (pv 1) pa_nil)))
      (pe_one (pe_call cL.F hr (by rfl) cL.g cL.kp cL.b .nil pass0 (pa_cons (pv 1) (pa_cons (pv 0) pa_nil))))))), ?_⟩
    refine s_ret (v := .bl (way p q)) ?_ k
    refine ev_is (ev_orV (a := decide (V.str p = V.str q)) (b := within p q || within q p) (ev_op (ev_var rfl) (ev_var rfl) (rv_eq rfl)) (fun _ =>
      ev_orV (ev_call (ea_cons (ev_var rfl) (ea_cons (ev_var rfl) ea_nil)) fun H5 e5 Q' q' E' => ⟨p, q, rfl, hq, q'⟩) (fun _ => ev_call (ea_cons (ev_var rfl) (ea_cons (ev_var rfl) ea_nil)) fun H5 e5 Q' q' E' => ⟨q, p, rfl, hp, q'⟩))) ?_
    simp [way]
end
/-- a small value of any kind -/
inductive Sm (H : Hp) : V → Prop
  | non : Sm H .non
  | bl (b : Bool) : Sm H (.bl b)
  | int (i : Int) : Sm H (.int i)
  | str (x : Str) (h : x.length ≤ 1000) : Sm H (.str x)
  | l1 {a : Addr} (h : H a = some (.lst [.str (Str.ofString "a")])) : Sm H (.ref a)
  | t1 {a : Addr} (h : H a = some (.tup [.str (Str.ofString "a")])) : Sm H (.ref a)
  | d0 {a : Addr} (h : H a = some (.dK [])) : Sm H (.ref a)
section
variable {H H' : Hp} {K : PySem.W.Frag} {v : V}
theorem Sm.mono (e : Ex H H') (h : Sm H v) : Sm H' v := by
  cases h with
  | non => exact .non
  | bl b => exact .bl b
  | int i => exact .int i
  | str x h => exact .str x h
  | l1 h => exact .l1 (e _ _ h)
  | t1 h => exact .t1 (e _ _ h)
  | d0 h => exact .d0 (e _ _ h)
theorem Sm.kd (h : Sm H v) : ∃ n, Kd K H v n := by
  cases h with
  | non => exact ⟨_, kd_non⟩
  | bl b => exact ⟨_, kd_bl b⟩
  | int i => exact ⟨_, kd_int i⟩
  | str x h => exact ⟨_, kd_str x⟩
  | l1 h => exact ⟨_, kd_lst h⟩
  | t1 h => exact ⟨_, kd_tup h⟩
  | d0 h => exact ⟨_, kd_dK h⟩
theorem Sm.len {x : Str} (h : Sm H (.str x)) : x.length ≤ 1000 := by
  cases h with
  | str _ h => exact h
/-- v == "z", v != "z" for small values -/
theorem sh_a : SeqAt.shaped (.tuple [.str (Str.ofString "a")]) = true := by decide +kernel
theorem sh_l : SeqAt.shaped (.list [.str (Str.ofString "a")]) = true := by decide +kernel
def rEqSm (K : PySem.W.Frag) : R2 := fun x y H Q => rEq x y H Q ∨ (rEqD K x y H Q ∨ rDS false x y H Q)
def rNeSm (K : PySem.W.Frag) : R2 := fun x y H Q => rNe x y H Q ∨ (rNeD K x y H Q ∨ rDS true x y H Q)
theorem op_eqSm {X : Cx} (hu : X.A.units + 64 < cLine) : OpR X (compareOp .Eq) (rEqSm X.K) := op_or op_eq (op_or (op_eqD hu) (op_eq_ds (by omega)))
theorem op_neSm {X : Cx} (hu : X.A.units + 64 < cLine) : OpR X (compareOp .NotEq) (rNeSm X.K) := op_or op_ne (op_or (op_neD hu) (op_ne_ds (by omega)))
theorem rv_eqSm {z : Str} (h : Sm H v) (hz : SeqAt.shaped (.str z) = true) : RV (rEqSm K) v (.str z) H (.bl (decide (v = .str z))) := fun H1 e Q q => by
  have g := h.mono e
  have q1 := q H1 (Ex.refl _)
  cases g with
  | non => exact .inl ⟨rfl, q1⟩
  | bl b => exact .inl ⟨rfl, q1⟩
  | int i => exact .inl ⟨rfl, q1⟩
  | str x h => exact .inl ⟨rfl, q1⟩
  | l1 g1 => exact .inr (.inl ⟨_, _, .lst (SqL.of g1) (.cons (.str _) .nil), .str z, sh_l, hz, by simpa [PyData.eqv] using q1⟩)
  | t1 g1 => exact .inr (.inl ⟨_, _, .tup (SqT.of g1) (.cons (.str _) .nil), .str z, sh_a, hz, by simpa [PyData.eqv] using q1⟩)
  | d0 g1 => exact .inr (.inr ⟨_, _, _, rfl, rfl, g1, by simpa using q1⟩)
theorem rv_neSm {z : Str} (h : Sm H v) (hz : SeqAt.shaped (.str z) = true) : RV (rNeSm K) v (.str z) H (.bl (!decide (v = .str z))) := fun H1 e Q q => by
  have g := h.mono e
  have q1 := q H1 (Ex.refl _)
  cases g with
  | non => exact .inl ⟨rfl, q1⟩
  | bl b => exact .inl ⟨rfl, q1⟩
  | int i => exact .inl ⟨rfl, q1⟩
  | str x h => exact .inl ⟨rfl, q1⟩
  | l1 g1 => exact .inr (.inl ⟨_, _, .lst (SqL.of g1) (.cons (.str _) .nil), .str z, sh_l, hz, by simpa [PyData.eqv] using q1⟩)
  | t1 g1 => exact .inr (.inl ⟨_, _, .tup (SqT.of g1) (.cons (.str _) .nil), .str z, sh_a, hz, by simpa [PyData.eqv] using q1⟩)
  | d0 g1 => exact .inr (.inr ⟨_, _, _, rfl, rfl, g1, by simpa using q1⟩)
end
section
variable {P : Program} {w : World} {K : PySem.W.Frag} {mg : Str → Option Value} {base : Heap}
theorem spv_path {v : V} {H : Hp} (h : Sm H v) : SpV (spPath (K := K)) [v] H (.bl (isPathV v)) := fun H1 e Q q E => by
  obtain ⟨n, kd⟩ := (h.mono e).kd (K := K)
  exact ⟨v, n, rfl, kd, fun x hx => by subst hx; exact Nat.le_trans h.len (by decide), q⟩
theorem spv_text {v : V} {H : Hp} (h : Sm H v) : SpV (spText (K := K)) [v] H (.bl (isTextV v)) := fun H1 e Q q E => by
  obtain ⟨n, kd⟩ := (h.mono e).kd (K := K)
  exact ⟨v, n, rfl, kd, fun x hx => by subst hx; exact Nat.le_trans h.len (by decide), q⟩
/-! ### is_folder -/
def spFolder : Sp := fun vs H Q _ => ∃ v, vs = [v] ∧ Sm H v ∧ RetV (.bl (isFolderV v)) H Q
theorem ok_folder {f : Addr} {fd : FuncData} (F : Fun K "is_folder" "is_folder" sIsFolder f fd) (cP : Cal P w K mg base CX0 2 "is_path" ["value"] (spPath (K := K))) : FnOk P w K mg base CX0 3 f fd ["value"] spFolder := by
  refine F.ok scFolder (fun vs H Q E h => ?_) (fun cdv A outer s H vs Q E hr h => ?_)
  · obtain ⟨x, rfl, _⟩ := h
    rfl
  · obtain ⟨v, rfl, sm, k⟩ := h
    have hu : (A.deeper (envOfC "is_folder" (defScope sIsFolder) s.heap.objs.size f cdv)).units + 64 < cLine := by have := hr.un; omega
    refine ⟨_, pss_one (ps_ret (pe_or (pe_call cP.F hr (by rfl) cP.g cP.kp cP.b .nil pass0 (pa_cons (pv 0) pa_nil)) (pe_one (pe_cmpR (op_eqSm hu) (pv 0) pe_str (nomark _))))), ?_⟩
    refine s_ret (v := .bl (isFolderV v)) ?_ k
    refine ev_is (ev_orV (a := isPathV v) (b := decide (v = .str (Str.ofString ""))) (ev_call (ea_cons (ev_var rfl) ea_nil) (spv_path sm)) (fun _ => ev_op (ev_var rfl) ev_c (rv_eqSm sm (by decide +kernel)))) ?_
    cases v <;> simp [isPathV, isFolderV]
theorem ev_lenT {σ : L2.St} {H : Hp} {ta : TE} {p : Addr} {xs : List V} (ha : Ev ta σ H (.ref p)) (h : SqT K H p xs) : Ev (tCB (rLenS K) (tCons ta tNil)) σ H (.int (xs.length : Int)) := fun H1 e Q q =>
  ha H1 e _ fun H2 e2 => ⟨p, xs, rfl, Or.inr (ex_t (e.trans e2) h), q H2 e2⟩
end
end Bp
namespace Bp
open PySem PySem.Spec PyProof.Rows L2 Bk Bm Evl Be Cr
abbrev sIsWord : Stmt := top 60
abbrev sFits : Stmt := top 61
/-- a thing behind a rule's kind: no tuple, or a tuple of small values -/
inductive Th (K : PySem.W.Frag) (H : Hp) : V → Option (List V) → Prop
  | sm {v : V} {n : String} (h : Sm H v) (k : Kd K H v n) (hn : n ≠ "tuple") : Th K H v none
  | tu {a : Addr} {xs : List V} (h : H a = some (.tup xs)) (hx : ∀ x ∈ xs, Sm H x) (hl : xs.length ≤ 1000) : Th K H (.ref a) (some xs)
section
variable {K : PySem.W.Frag} {H H' : Hp} {v : V} {o : Option (List V)}
theorem Th.mono (e : Ex H H') (h : Th K H v o) : Th K H' v o := by
  cases h with
  | sm h k hn => exact .sm (h.mono e) (k.mono e) hn
  | tu h hx hl => exact .tu (e _ _ h) (fun x hh => (hx x hh).mono e) hl
theorem Th.kd (h : Th K H v o) : ∃ n, Kd K H v n ∧ ∀ x, v = .str x → x.length ≤ 1000 := by
  cases h with
  | sm h k hn => exact ⟨_, k, fun x z => by subst z; exact h.len⟩
  | tu h hx hl => exact ⟨_, kd_tup h, fun x z => by cases z⟩
/-- every small value is such a thing -/
theorem th_of (h : Sm H v) : ∃ o, Th K H v o ∧ (isPathV v = false → ∀ xs, o = some xs → xs = [.str (Str.ofString "a")]) := by
  cases h with
  | non => exact ⟨_, .sm .non kd_non (by decide), fun _ _ z => by cases z⟩
  | bl b => exact ⟨_, .sm (.bl b) (kd_bl b) (by decide), fun _ _ z => by cases z⟩
  | int i => exact ⟨_, .sm (.int i) (kd_int i) (by decide), fun _ _ z => by cases z⟩
  | str x h => exact ⟨_, .sm (.str x h) (kd_str x) (by decide), fun _ _ z => by cases z⟩
  | l1 h => exact ⟨_, .sm (.l1 h) (kd_lst h) (by decide), fun _ _ z => by cases z⟩
  | t1 h => exact ⟨_, .tu h (fun x hx => by rw [List.mem_singleton.mp hx]; exact .str _ (by decide)) (by decide), fun _ _ z => by cases z; rfl⟩
  | d0 h => exact ⟨_, .sm (.d0 h) (kd_dK h) (by decide), fun _ _ z => by cases z⟩
end
def wordB (x : Str) : Bool := textB x && ((decide (1 ≤ x.length) && decide (x.length ≤ 8)) && !decide (10 ∈ x.cps.toList))
def isWordV : V → Bool
  | .str x => wordB x
  | _ => false
def fitsV (f : Str) (v : V) (o : Option (List V)) : Bool :=
  if f = Str.ofString "path" then isPathV v else if f = Str.ofString "word" then isWordV v else if f = Str.ofString "folder" then isFolderV v
  else match o with
    | some xs => decide (xs.length ≤ 4) && xs.all isPathV
    | none => false
section
variable {P : Program} {w : World} {K : PySem.W.Frag} {mg : Str → Option Value} {base : Heap}
theorem scWord : FnScope ["value"] ["value"] (defScope sIsWord) := ⟨rfl, rfl, rfl, by decide +kernel, rfl, by decide +kernel, by decide +kernel⟩
def spWord : Sp := fun vs H Q _ => ∃ v o, vs = [v] ∧ Th K H v o ∧ RetV (.bl (isWordV v)) H Q
theorem spv_textT {v : V} {o : Option (List V)} {H : Hp} (h : Th K H v o) : SpV (spText (K := K)) [v] H (.bl (isTextV v)) := fun H1 e Q q E => by
  obtain ⟨n, kd, hl⟩ := (h.mono e).kd (K := K)
  exact ⟨v, n, rfl, kd, fun x hx => Nat.le_trans (hl x hx) (by decide), q⟩
theorem spv_pathT {v : V} {o : Option (List V)} {H : Hp} (h : Th K H v o) : SpV (spPath (K := K)) [v] H (.bl (isPathV v)) := fun H1 e Q q E => by
  obtain ⟨n, kd, hl⟩ := (h.mono e).kd (K := K)
  exact ⟨v, n, rfl, kd, fun x hx => Nat.le_trans (hl x hx) (by decide), q⟩
theorem ok_word {f : Addr} {fd : FuncData} (F : Fun K "is_word" "is_word" sIsWord f fd) (T : Gv mg) (cT : Cal P w K mg base CX0 2 "is_text" ["value"] (spText (K := K))) : FnOk P w K mg base CX0 3 f fd ["value"] (spWord (K := K)) := by
  refine F.ok scWord (fun vs H Q E h => ?_) (fun cdv A outer s H vs Q E hr h => ?_)
  · obtain ⟨x, n, rfl, _⟩ := h
    rfl
  · obtain ⟨v, o, rfl, th, k⟩ := h
    obtain ⟨t1, m1⟩ := T.lw
    refine ⟨_, pss_one (ps_ret (pe_and (pe_call cT.F hr (by rfl) cT.g cT.kp cT.b .nil pass0 (pa_cons (pv 0) pa_nil))
      (pe_and (pe_chain op_le op_le pe_int (pe_callB call_len_str (by rfl) T.len PySem.boot_len (pa_cons (pv 0) pa_nil)) (pe_glob (v := .int 8) (by rfl) m1 ⟨_, rfl⟩))
      (pe_one (pe_cmpR op_notIn_sign pe_str (pv 0) (by rfl)))))), ?_⟩
    refine s_ret (v := .bl (isWordV v)) ?_ k
    have fin : isTextV v = true → ∃ x, v = .str x ∧ x.length ≤ 1000 := by
      intro hv
      obtain ⟨n, _, hl⟩ := th.kd
      cases v with
      | str x => exact ⟨x, rfl, hl x rfl⟩
      | _ => cases hv
    refine ev_is (ev_and (a := isTextV v) (b := match v with | .str x => ((decide ((1:Int) ≤ x.length) && decide ((x.length : Int) ≤ 8)) && !decide (10 ∈ x.cps.toList)) | _ => false) (ev_call (ea_cons (ev_var rfl) ea_nil) (spv_textT th)) fun hb => ?_) ?_
    · obtain ⟨x, rfl, hl⟩ := fin hb
      refine ev_and (ev_chain ev_c (ev_lenS (ev_var rfl) (by omega)) rv_I0 (fun _ => ev_c) (fun _ => rv_I0)) fun _ => ?_
      exact ev_op (ev_c (v := .str ⟨#[10]⟩)) (ev_var rfl) fun H1 e Q q => ⟨10, x, rfl, rfl, q H1 (Ex.refl _)⟩
    · cases v with
      | str x =>
        have d1 : decide ((1 : Int) ≤ (x.length : Int)) = decide (1 ≤ x.length) := decide_eq_decide.mpr (by omega)
        have d2 : decide ((x.length : Int) ≤ 8) = decide (x.length ≤ 8) := decide_eq_decide.mpr (by omega)
        show V.bl (textB x && _) = V.bl (wordB x)
        dsimp only
        rw [d1, d2]
        rfl
      | _ => rfl
/-! ### fits -/
theorem scFits : FnScope ["form", "value", "thing"] ["form", "value"] (defScope sFits) := ⟨rfl, rfl, rfl, by decide +kernel, rfl, by decide +kernel, by decide +kernel⟩
def spFits : Sp := fun vs H Q _ => ∃ f v o, vs = [.str f, v] ∧ Th K H v o ∧ (f = Str.ofString "folder" → Sm H v) ∧ RetV (.bl (fitsV f v o)) H Q
theorem strEq {a b : Str} : decide (V.str a = V.str b) = decide (a = b) := decide_eq_decide.mpr ⟨fun h => by injection h, fun h => by rw [h]⟩
theorem ok_fits {f : Addr} {fd : FuncData} (F : Fun K "fits" "fits" sFits f fd) (T : Gv mg) (cP : Cal P w K mg base CX0 2 "is_path" ["value"] (spPath (K := K))) (cW : Cal P w K mg base CX0 3 "is_word" ["value"] (spWord (K := K)))
    (cF : Cal P w K mg base CX0 3 "is_folder" ["value"] spFolder) : FnOk P w K mg base CX0 4 f fd ["form", "value"] (spFits (K := K)) := by
  refine F.ok scFits (fun vs H Q E h => ?_) (fun cdv A outer s H vs Q E hr h => ?_)
  · obtain ⟨x, v, o, rfl, _⟩ := h
    rfl
  · obtain ⟨fo, v, o, rfl, th, hfo, k⟩ := h
    obtain ⟨t1, m1⟩ := T.mj
    have hr2 : Room 2 _ := hr.mono (by decide)
    refine ⟨_, pss_cons (ps_if (pt_cmpR op_eq (pv 0) pe_str (nomark _)) (pss_one (ps_ret (pe_call cP.F hr2 (by rfl) cP.g cP.kp cP.b .nil pass0 (pa_cons (pv 1) pa_nil)))) pss_nil)
      (pss_cons (ps_if (pt_cmpR op_eq (pv 0) pe_str (nomark _)) (pss_one (ps_ret (pe_call cW.F hr (by rfl) cW.g cW.kp cW.b .nil pass0 (pa_cons (pv 1) pa_nil)))) pss_nil)
      (pss_cons (ps_if (pt_cmpR op_eq (pv 0) pe_str (nomark _)) (pss_one (ps_ret (pe_call cF.F hr (by rfl) cF.g cF.kp cF.b .nil pass0 (pa_cons (pv 1) pa_nil)))) pss_nil)
      (pss_one (ps_ret (pe_and (pe_callB call_isi (by rfl) T.isi boot_isinstance (pa_cons (pv 1) (pa_cons (pe_bltn (v := .ty "tuple") (by rfl) T.tup (by decide +kernel) rfl) pa_nil)))
        (pe_and (pe_cmpR op_le (pe_callB call_len_seq (by rfl) T.len PySem.boot_len (pa_cons (pv 1) pa_nil)) (pe_glob (v := .int 4) (by rfl) m1 ⟨_, rfl⟩) (nomark _))
        (pe_one (pe_callB (cr_all rfl) (by rfl) T.all boot_all (pa_cons (pe_lc (own := [("thing", 2)]) (g := gName 2) (tt := tYes) rfl scFits.nd (pi_tup (pv 1)) (blkOk_by (N := ["form", "value", "thing"]) (sc := defScope sFits) (by decide +kernel))
          (fun _ _ _ _ _ => pg_name (i := 2) scFits.nd rfl (Or.inl rfl)) (fun _ _ _ _ _ => pts_nil)
          (fun _ _ _ _ _ => pe_call cP.F hr2 rfl cP.g cP.kp cP.b .nil pass0 (pa_cons (pv 2) pa_nil))) pa_nil))))))))), ?_⟩
    refine q_when (b := decide (fo = Str.ofString "path")) (et_is (et_test (ev_op (ev_var rfl) ev_c (rv_eq rfl))) strEq) (fun hb H1 e1 => ?_) (fun hb H1 e1 => ?_)
    · refine s_ret (v := .bl (fitsV fo v o)) (ev_is (ev_call (ea_cons (ev_var rfl) ea_nil) (spv_pathT (th.mono e1))) ?_) fun H2 e2 => k H2 (e1.trans e2)
      unfold fitsV
      rw [if_pos (by simpa using hb)]
    have n1 : ¬ fo = Str.ofString "path" := by simpa using hb
    clear hb
    refine q_when (b := decide (fo = Str.ofString "word")) (et_is (et_test (ev_op (ev_var rfl) ev_c (rv_eq rfl))) strEq) (fun hb H2 e2 => ?_) (fun hb H2 e2 => ?_)
    · refine s_ret (v := .bl (fitsV fo v o)) (ev_is (ev_call (z := .bl (isWordV v)) (ea_cons (ev_var rfl) ea_nil) fun H3 e3 Q' q' E' => ⟨v, o, rfl, th.mono ((e1.trans e2).trans e3), q'⟩) ?_) fun H3 e3 => k H3 ((e1.trans e2).trans e3)
      unfold fitsV
      rw [if_neg n1, if_pos (by simpa using hb)]
    have n2 : ¬ fo = Str.ofString "word" := by simpa using hb
    clear hb
    refine q_when (b := decide (fo = Str.ofString "folder")) (et_is (et_test (ev_op (ev_var rfl) ev_c (rv_eq rfl))) strEq) (fun hb H3 e3 => ?_) (fun hb H3 e3 => ?_)
    · have sm := hfo (by simpa using hb)
      refine s_ret (v := .bl (fitsV fo v o)) (ev_is (ev_call (z := .bl (isFolderV v)) (ea_cons (ev_var rfl) ea_nil) fun H4 e4 Q' q' E' => ⟨v, rfl, sm.mono (((e1.trans e2).trans e3).trans e4), q'⟩) ?_) fun H4 e4 => k H4 (((e1.trans e2).trans e3).trans e4)
      unfold fitsV
      rw [if_neg n1, if_neg n2, if_pos (by simpa using hb)]
    have n3 : ¬ fo = Str.ofString "folder" := by simpa using hb
    clear hb
    have eG := (e1.trans e2).trans e3
    refine s_ret (v := .bl (fitsV fo v o)) ?_ fun H4 e4 => k H4 (eG.trans e4)
    unfold fitsV
    rw [if_neg n1, if_neg n2, if_neg n3]
    cases th with
    | sm sm kd hn =>
      have e : decide (_ = "tuple") = false := decide_eq_false hn
      exact ev_is (ev_and (b := false) (ev_isi (ev_var rfl) ev_c (kd.mono eG) (.inr rfl)) (fun h => by rw [e] at h; cases h)) (by rw [e]; rfl)
    | @tu a xs h hx hl =>
      refine ev_is (ev_and (a := true) (b := decide ((xs.length : Int) ≤ 4) && (xs.map isPathV).all id) (ev_is (ev_isi (ev_var rfl) ev_c (kd_tup (eG _ _ h)) (.inr rfl)) rfl) fun _ => ?_) ?_
      · refine ev_and (ev_op (ev_lenT (ev_var rfl) (st_of (eG _ _ h))) ev_c rv_I0) fun _ => ev_all (ev_isL (el_lcT (fun y => .bl (isPathV y)) (ev_var rfl) (st_of (eG _ _ h)) (by omega) fun y H4 e4 hy => ?_) ?_)
        · exact ev_call (ea_cons (ev_var rfl) ea_nil) (spv_path ((hx y hy).mono (eG.trans e4)))
        · simp
      · have d1 : decide ((xs.length : Int) ≤ 4) = decide (xs.length ≤ 4) := decide_eq_decide.mpr (by omega)
        rw [d1]
        simp [List.all_map]
end
end Bp
namespace Bp
open PySem PySem.Spec PyProof.Rows L2 Bk Bm Evl Be Cr
abbrev sIsRule : Stmt := top 62
def forms : List (Str × List Str) := [(Str.ofString "join", [Str.ofString "paths"]), (Str.ofString "size", [Str.ofString "path"]), (Str.ofString "sort", [Str.ofString "path"]), (Str.ofString "pick", [Str.ofString "path", Str.ofString "word"]),
  (Str.ofString "names", [Str.ofString "folder"]), (Str.ofString "use", [Str.ofString "path"]), (Str.ofString "choose", [Str.ofString "path", Str.ofString "path", Str.ofString "path"]), (Str.ofString "need", [Str.ofString "path", Str.ofString "word"])]
def formOf (z : Str) : Option (List Str) := (forms.find? fun p => decide (p.1 = z)).map (·.2)
/-- the kinds that are asked for -/
def kinds9 : List Str := Str.ofString "Size" :: forms.map (·.1)
/-- the module's dict of forms -/
structure Fms (K : PySem.W.Frag) (w : World) (mg : Str → Option Value) (D : Addr) (es : Array DictEntry) (n : Nat) : Prop where
  g : mg "FORMS" = some (.ref D)
  d : KDict K w D es n
  at_ : ∀ z ∈ kinds9, match formOf z with
    | some fs => ∃ t, PySem.W.nsIn K D z = some (some (.ref t)) ∧ ∀ H, SqT K H t (fs.map V.str)
    | none => PySem.W.nsIn K D z = some none
/-- what is_rule says of a thing -/
def ruleB (x0 x1 : V) (rest : List V) (os : List (Option (List V))) : Bool := isPathV x0 && match x1 with
  | .str z => (match formOf z with
    | some fs => decide (rest.length = fs.length) && (fs.zip (rest.zip os)).all fun p => fitsV p.1 p.2.1 p.2.2
    | none => false)
  | _ => false
inductive Ru (K : PySem.W.Frag) (H : Hp) : V → Bool → Prop
  | no {v : V} {n : String} (k : Kd K H v n) (h : n ≠ "tuple") : Ru K H v false
  | short {a : Addr} {xs : List V} (h : H a = some (.tup xs)) (hl : xs.length < 2) : Ru K H (.ref a) false
  | long {a : Addr} {x0 x1 : V} {rest : List V} {os : List (Option (List V))} (h : H a = some (.tup (x0 :: x1 :: rest))) (h0 : Sm H x0) (h1 : Sm H x1) (hk : ∀ z, x1 = .str z → z ∈ kinds9)
      (hr : Paired (Th K H) rest os) (hl : rest.length ≤ 100) (hf : x1 = .str (Str.ofString "names") → ∀ x ∈ rest, Sm H x) : Ru K H (.ref a) (ruleB x0 x1 rest os)
theorem pr_mono {α β : Type} {F G : α → β → Prop} {l : List α} {m : List β} (h : Paired F l m) (f : ∀ a b, F a b → G a b) : Paired G l m := by
  induction h with
  | nil => exact .nil
  | cons r _ ih => exact .cons (f _ _ r) ih
theorem pr_len {α β : Type} {F : α → β → Prop} {l : List α} {m : List β} (h : Paired F l m) : l.length = m.length := by
  induction h with
  | nil => rfl
  | cons r _ ih => simp [ih]
theorem pr_get {α β : Type} {F : α → β → Prop} {l : List α} {m : List β} (h : Paired F l m) : ∀ {i : Nat} {x : α}, l[i]? = some x → ∃ y, m[i]? = some y ∧ F x y := by
  induction h with
  | nil => intro i x e; simp at e
  | cons r _ ih =>
    intro i x e
    cases i with
    | zero =>
      have e' := Option.some.inj e
      subst e'
      exact ⟨_, rfl, r⟩
    | succ i => exact ih (i := i) e
theorem pr_app {α β : Type} {F : α → β → Prop} {l l' : List α} {m m' : List β} (h : Paired F l m) (h' : Paired F l' m') : Paired F (l ++ l') (m ++ m') := by
  induction h with
  | nil => exact h'
  | cons r _ ih => exact .cons r ih
theorem pr_take {α β : Type} {F : α → β → Prop} {l : List α} {m : List β} (h : Paired F l m) : ∀ n, Paired F (l.take n) (m.take n) := by
  induction h with
  | nil => intro n; simp; exact .nil
  | cons r _ ih =>
    intro n
    cases n with
    | zero => exact .nil
    | succ n => exact .cons r (ih n)
theorem pr_drop {α β : Type} {F : α → β → Prop} {l : List α} {m : List β} (h : Paired F l m) : ∀ n, Paired F (l.drop n) (m.drop n) := by
  induction h with
  | nil => intro n; simp; exact .nil
  | cons r h ih =>
    intro n
    cases n with
    | zero => exact .cons r h
    | succ n => exact ih n
theorem pr_mem {α β : Type} {F : α → β → Prop} {l : List α} {m : List β} (h : Paired F l m) {x : α} (hx : x ∈ l) : ∃ y ∈ m, F x y := by
  induction h with
  | nil => cases hx
  | cons r _ ih =>
    rcases List.mem_cons.mp hx with rfl | hx
    · exact ⟨_, List.mem_cons_self, r⟩
    · obtain ⟨y, hy, q⟩ := ih hx
      exact ⟨y, List.mem_cons_of_mem _ hy, q⟩
theorem Ru.mono {K : PySem.W.Frag} {H H' : Hp} {v : V} {b : Bool} (e : Ex H H') (h : Ru K H v b) : Ru K H' v b := by
  cases h with
  | no k h => exact .no (k.mono e) h
  | short h hl => exact .short (e _ _ h) hl
  | long h h0 h1 hk hr hl hf => exact .long (e _ _ h) (h0.mono e) (h1.mono e) hk (pr_mono hr fun _ _ z => z.mono e) hl fun z x hx => (hf z x hx).mono e
section
variable {σ : L2.St} {H : Hp} {K : PySem.W.Frag}
/-- xs[i:] of a tuple -/
theorem slice_from {te ti : TE} {a : Addr} {xs : List V} {i : Nat} (h : Ev te σ H (.ref a)) (hi : Ev ti σ H (.int (i : Int))) (hx : SqT K H a xs) (hl : i ≤ xs.length) :
    ∀ H1, Ex H H1 → ∀ Q : VK, (∀ p H2, Ex H1 H2 → SqT K H2 p (xs.drop i) → Q (.ref p) H2) → tSl (rSlA K) te (tPart ti) tNoPart σ H1 Q := fun H1 e Q q =>
  h H1 e _ fun H2 e2 => hi H2 (e.trans e2) _ fun H3 e3 => ⟨(i : Int), rfl, a, xs, rfl, ex_t ((e.trans e2).trans e3) hx, by
    have c1 : HT.sIx xs.length 0 (some (i : Int)) = i := by rw [HT.sIx_nat]; omega
    have c2 : HT.sIx xs.length xs.length none = xs.length := HT.sIx_none _ _
    have c3 : cutV xs (some (i : Int)) none = xs.drop i := by
      unfold cutV
      rw [c1, c2]
      exact List.take_of_length_le (by rw [List.length_drop]; omega)
    rw [c1, c2]
    refine ⟨fun z => ?_, fun z p hp => ?_⟩
    · have z2 : xs.drop i = xs := by rw [z.1]; rfl
      refine q a H3 (e2.trans e3) ?_
      rw [z2]
      exact ex_t ((e.trans e2).trans e3) hx
    · refine q p _ ((e2.trans e3).trans (Ex.new hp)) ?_
      rw [c3]
      exact st_of upd_same⟩
/-- [.. for x, y in zip(a tuple, a tuple)] -/
theorem el_lcZ {te : TE} {ta : TA} {a b : Addr} {xs ys bs : List V} {v0 v1 v2 : Option V} (h : EvA ta [v0, v1, v2, none, none] H [.ref a, .ref b]) (hx : SqT K H a xs) (hy : SqT K H b ys) (hl : xs.length = ys.length) (hz : xs.length ≤ 40000) (hb : bs.length = xs.length)
    (he : ∀ (i : Nat) (x y z : V) (H1 : Hp), Ex H H1 → xs[i]? = some x → ys[i]? = some y → bs[i]? = some z → Ev te [v0, v1, v2, some x, some y] H1 z) :
    EvL (tLc (RZ.iZipA K ta) (gTup K 2 (gCons (gName 3) (gCons (gName 4) gNil))) tYes te [3, 4]) [v0, v1, v2, none, none] H bs := fun H0 e Q q => h H0 e _ fun H1 e1 =>
  ⟨a, b, xs, ys, rfl, .inr ⟨ex_t (e.trans e1) hx, ex_t (e.trans e1) hy, fun D hD =>
    lc_it (walk_zipT (K := K) (a := a) (b := b) (xs := xs) (ys := ys) (n := xs.length) (by omega)) (fun i G => Ex H1 G ∧ G D = some (.lst (bs.take i))) ⟨Ex.new hD, upd_same⟩
      (fun i G _ p => ⟨ex_t ((e.trans e1).trans p.1) hx, ex_t ((e.trans e1).trans p.1) hy⟩) (by
      rintro i v G G' hi ⟨s1, hd⟩ ⟨T, x, y, rfl, hT, rfl, h1, h2⟩
      have e2 := Ex.new (o := .tup [x, y]) hT
      have hib : i < bs.length := by omega
      have h3 : bs[i]? = some bs[i] := List.getElem?_eq_getElem hib
      refine ⟨T, [x, y], rfl, SqT.of upd_same, rfl, x, [y], rfl, y, [], rfl, rfl, ?_⟩
      refine ⟨rfl, ?_⟩
      unfold tYes
      dsimp only
      rw [if_pos rfl]
      have nT : T ≠ D := (ne_of_none hd hT).symm
      refine he i x y bs[i] _ ((e.trans e1).trans (s1.trans e2)) h1 h2 h3 _ (Ex.refl _) _ fun G2 e3 => ⟨_, e3 D _ (e2 D _ hd), sz_lt ?_, ((s1.trans e2).trans e3).mut hD, ?_⟩
      · have h3 := List.length_take_le' i bs
        omega
      · rw [upd_same, List.take_succ, h3]
        rfl) (by
      rintro G ⟨s1, hd⟩
      refine q D G (fresh_back e1 hD) (e1.trans s1) ?_
      rw [hd, List.take_of_length_le (by omega)])⟩⟩
end
section
variable {P : Program} {w : World} {K : PySem.W.Frag} {mg : Str → Option Value} {base : Heap}
theorem scRule : FnScope ["value", "kind", "things", "form", "thing"] ["value"] (defScope sIsRule) := ⟨rfl, rfl, rfl, by decide +kernel, rfl, by decide +kernel, by decide +kernel⟩
def spRule : Sp := fun vs H Q _ => ∃ v b, vs = [v] ∧ Ru K H v b ∧ RetV (.bl b) H Q
theorem form_kind : ∀ z ∈ kinds9, ∀ fs, formOf z = some fs → fs.length ≤ 3 ∧ (Str.ofString "folder" ∈ fs → z = Str.ofString "names") := by decide +kernel
theorem ok_rule {f : Addr} {fd : FuncData} {D : Addr} {es : Array DictEntry} {n : Nat} (F : Fun K "is_rule" "is_rule" sIsRule f fd) (T : Gv mg) (Fm : Fms K w mg D es n) (cP : Cal P w K mg base CX0 2 "is_path" ["value"] (spPath (K := K)))
    (cF : Cal P w K mg base CX0 4 "fits" ["form", "value"] (spFits (K := K))) : FnOk P w K mg base CX0 5 f fd ["value"] (spRule (K := K)) := by
  refine F.ok scRule (fun vs H Q E h => ?_) (fun cdv A outer s H vs Q E hr h => ?_)
  · obtain ⟨x, b, rfl, _⟩ := h
    rfl
  · obtain ⟨v, b, rfl, ru, k⟩ := h
    have hr2 : Room 2 _ := hr.mono (by decide)
    refine ⟨_, pss_cons (ps_if (pw_or (pt_not (pt_val (pe_callB call_isi (by rfl) T.isi boot_isinstance (pa_cons (pv 0) (pa_cons (pe_bltn (v := .ty "tuple") (by rfl) T.tup (by decide +kernel) rfl) pa_nil)))))
        (pw_or (pt_cmpR op_lt (pe_callB call_len_seq (by rfl) T.len PySem.boot_len (pa_cons (pv 0) pa_nil)) pe_int (nomark _))
        (pw_or1 (pt_not (pt_val (pe_call cP.F hr2 (by rfl) cP.g cP.kp cP.b .nil pass0 (pa_cons (pe_ix ix_tup (pv 0) pe_int (fun _ _ => rfl)) pa_nil))))))).pt (pss_one (ps_ret pe_bl)) pss_nil)
      (pss_cons (ps_par (i := 1) (j := 2) rfl scRule.nd rfl rfl (by decide) rfl rfl (pa_cons (pe_ix ix_tup (pv 0) pe_int (fun _ _ => rfl)) (pa_cons (pe_slice sl_tupA (pv 0) (po_some pe_int) po_none) pa_nil)) (by rfl))
      (pss_cons (ps_if (pw_or (pt_not (pt_val (pe_callB call_isi (by rfl) T.isi boot_isinstance (pa_cons (pv 1) (pa_cons (pe_bltn (v := .ty "str") (by rfl) T.str (by decide +kernel) rfl) pa_nil)))))
        (pw_or (pt_cmpR (op_notIn_kd Fm.d) (pv 1) (pe_glob (v := .ref D) (by rfl) Fm.g rfl) (by rfl))
        (pw_or1 (pt_cmpR op_ne (pe_callB call_len_seq (by rfl) T.len PySem.boot_len (pa_cons (pv 2) pa_nil)) (pe_callB call_len_seq (by rfl) T.len PySem.boot_len (pa_cons (pe_ix ix_kdict (pe_glob (v := .ref D) (by rfl) Fm.g rfl) (pv 1) (fun _ _ => rfl)) pa_nil)) (nomark _))))).pt (pss_one (ps_ret pe_bl)) pss_nil)
      (pss_one (ps_ret (pe_callB (cr_all rfl) (by rfl) T.all boot_all (pa_cons (pe_lc (own := [("form", 3), ("thing", 4)]) (g := gTup K 2 (gCons (gName 3) (gCons (gName 4) gNil))) (tt := tYes) rfl scRule.nd
        (RZ.pi_zipA (by rfl) T.zip (pa_cons (pe_ix ix_kdict (pe_glob (v := .ref D) (by rfl) Fm.g rfl) (pv 1) (fun _ _ => rfl)) (pa_cons (pv 2) pa_nil))) (blkOk_by (N := ["value", "kind", "things", "form", "thing"]) (sc := defScope sIsRule) (by decide +kernel))
        (fun _ _ _ _ _ => pg_tup rfl (pgs_cons (pg_name (i := 3) scRule.nd rfl (Or.inl rfl)) (pgs_cons (pg_name (i := 4) scRule.nd rfl (Or.inl rfl)) pgs_nil))) (fun _ _ _ _ _ => pts_nil)
        (fun _ _ _ _ _ => pe_call cF.F hr rfl cF.g cF.kp cF.b .nil pass0 (pa_cons (pv 3) (pa_cons (pv 4) pa_nil)))) pa_nil)))))), ?_⟩
    cases ru with
    | no kd hn =>
      refine q_when (b := true) (et_is (et_or (b := true) (et_not (et_B (ev_isi (ev_var rfl) ev_c kd (.inr rfl)))) fun hb => ?_) ?_) (fun _ H1 e1 => ?_) (fun hb => by cases hb)
      · simp [hn] at hb
      · simp [hn]
      · exact s_ret (v := .bl false) ev_c fun H2 e2 => k H2 (e1.trans e2)
    | @short a xs h hl =>
      refine q_when (b := true) (et_is (et_or (b := true) (et_not (et_B (ev_isi (ev_var rfl) ev_c (kd_tup h) (.inr rfl)))) fun hb => ?_) (by simp)) (fun _ H1 e1 => ?_) (fun hb => by cases hb)
      · refine et_is (et_or (a := true) (b := true) (et_is (et_test (ev_op (ev_lenT (ev_var rfl) (st_of h)) ev_c rv_I0)) (by simp; omega)) fun z => by cases z) rfl
      · exact s_ret (v := .bl false) ev_c fun H2 e2 => k H2 (e1.trans e2)
    | @long a x0 x1 rest os h h0 h1 hk hr' hl hf =>
      refine q_when (b := !isPathV x0) (et_is (et_or (b := !isPathV x0) (et_not (et_B (ev_isi (ev_var rfl) ev_c (kd_tup h) (.inr rfl)))) fun hb => ?_) (by simp)) (fun hb H1 e1 => ?_) (fun hb H1 e1 => ?_)
      · refine et_is (et_or (a := false) (b := !isPathV x0) (et_is (et_test (ev_op (ev_lenT (ev_var rfl) (st_of h)) ev_c rv_I0)) (by simp; omega)) fun _ => ?_) (by simp)
        exact et_not (et_B (ev_call (ea_cons (ev_op (ev_var rfl) ev_c (rv_ixT (st_of h) (atI_nat (j := 0) rfl))) ea_nil) (spv_path h0)))
      · refine s_ret (v := .bl (ruleB x0 x1 rest os)) (ev_is ev_c ?_) fun H2 e2 => k H2 (e1.trans e2)
        have : isPathV x0 = false := by simpa using hb
        unfold ruleB
        rw [this]
        rfl
      have p0 : isPathV x0 = true := by simpa using hb
      clear hb
      refine ev_op (z := x1) (ev_var (i := 0) rfl) ev_c (rv_ixT (st_of (e1 _ _ h)) (atI_nat (j := 1) rfl)) H1 (Ex.refl _) _ fun H2 e2 => ?_
      refine slice_from (i := 2) (ev_var (i := 0) rfl) ev_c (st_of ((e1.trans e2) _ _ h)) (by simp) H2 (Ex.refl _) _ fun p H3 e3 hp => ?_
      have hp' : SqT K H3 p rest := hp
      refine ⟨_, _, rfl, ?_⟩
      have eG := (e1.trans e2).trans e3
      have hσ : (((L2.start ["value", "kind", "things", "form", "thing"] [V.ref a]).set 1 (some x1)).set 2 (some (.ref p)) : L2.St) = [some (.ref a), some x1, some (.ref p), none, none] := rfl
      rw [hσ]
      dsimp only
      obtain ⟨n1, kd1⟩ := (h1.mono eG).kd (K := K)
      have test2 : ∀ {b : Bool} {t2 : TT}, (n1 = "str" → EvT t2 ([some (.ref a), some x1, some (.ref p), none, none] : L2.St) H3 b) → EvT (tOr (tNot (tB (tCB (rIsi K) (tCons (tVar 1) (tCons (tC (.ty "str")) tNil))))) t2) ([some (.ref a), some x1, some (.ref p), none, none] : L2.St) H3 (!decide (n1 = "str") || b) :=
        fun h2 => et_or (et_not (et_B (ev_isi (ev_var rfl) ev_c kd1 (.inl rfl)))) fun hb => h2 (by simpa using hb)
      by_cases hs : n1 = "str"
      · subst hs
        obtain ⟨z, rfl⟩ := kd_isStr kd1
        have hz := hk z rfl
        have hat := Fm.at_ z hz
        cases hfo : formOf z with
        | none =>
          rw [hfo] at hat
          refine q_when (b := true) (et_is (test2 (b := true) fun _ => et_is (et_or (a := true) (b := true) (et_test (ev_op (z := .bl true) (ev_var rfl) ev_c fun H4 e4 Q' q' => ⟨z, none, rfl, rfl, hat, q' H4 (Ex.refl _)⟩)) fun zz => by cases zz) rfl) (by simp)) (fun _ H4 e4 => ?_) (fun hb => by cases hb)
          refine s_ret (v := .bl (ruleB x0 (.str z) rest os)) (ev_is ev_c ?_) fun H5 e5 => k H5 ((eG.trans e4).trans e5)
          unfold ruleB
          simp only [hfo]
          simp
        | some fs =>
          rw [hfo] at hat
          obtain ⟨t, ht, hT⟩ := hat
          have item : ∀ {H4 : Hp}, Ev (tOp (rIxD K w) (tC (.ref D)) (tVar 1)) ([some (.ref a), some (.str z), some (.ref p), none, none] : L2.St) H4 (.ref t) := fun {H4} => ev_op ev_c (ev_var rfl) fun H5 e5 Q' q' => ⟨D, z, .ref t, rfl, rfl, ⟨es, n, _, Fm.d.at_, Fm.d.lit, ht, rfl⟩, q' H5 (Ex.refl _)⟩
          refine q_when (b := !decide (rest.length = fs.length)) (et_is (test2 (b := !decide (rest.length = fs.length)) fun _ => et_is (et_or (a := false) (b := !decide (rest.length = fs.length)) (et_test (ev_op (z := .bl false) (ev_var rfl) ev_c fun H4 e4 Q' q' => ⟨z, some (.ref t), rfl, rfl, ht, q' H4 (Ex.refl _)⟩)) fun _ => ?_) (by simp)) (by simp)) (fun hb H4 e4 => ?_) (fun hb H4 e4 => ?_)
          · refine et_is (et_test (ev_op (ev_lenT (ev_var rfl) hp') (ev_lenT item (hT _)) (rv_ne rfl))) ?_
            rw [List.length_map]
            congr 1
            exact decide_eq_decide.mpr ⟨fun h => by injection h with h; omega, fun h => by rw [h]⟩
          · refine s_ret (v := .bl (ruleB x0 (.str z) rest os)) (ev_is ev_c ?_) fun H5 e5 => k H5 ((eG.trans e4).trans e5)
            have hb' : decide (rest.length = fs.length) = false := by simpa using hb
            unfold ruleB
            simp only [hfo]
            rw [hb']
            simp
          · have hb' : rest.length = fs.length := by simpa using hb
            have hlen := pr_len hr'
            obtain ⟨f3, f4⟩ := form_kind z hz fs hfo
            refine s_ret (v := .bl (ruleB x0 (.str z) rest os)) ?_ fun H5 e5 => k H5 ((eG.trans e4).trans e5)
            refine ev_is (ev_all (bs := (fs.zip (rest.zip os)).map fun p => fitsV p.1 p.2.1 p.2.2) (el_lcZ (K := K) (xs := fs.map V.str) (ys := rest) (ea_cons item (ea_cons (ev_var rfl) ea_nil)) (hT _) (ex_t e4 hp') (by rw [List.length_map]; omega) (by rw [List.length_map]; omega) ?_ ?_)) ?_
            · simp only [List.length_map, List.length_zip]
              omega
            · intro i x y zz H5 e5 hx hy hzz
              obtain ⟨o, ho, th⟩ := pr_get hr' hy
              rw [List.getElem?_map] at hx
              cases eg : fs[i]? with
              | none => rw [eg] at hx; cases hx
              | some g =>
                rw [eg] at hx
                have ex : V.str g = x := Option.some.inj hx
                subst ex
                have ezz : zz = .bl (fitsV g y o) := by
                  have z2 : (rest.zip os)[i]? = some (y, o) := List.getElem?_zip_eq_some.mpr ⟨hy, ho⟩
                  have z3 : (fs.zip (rest.zip os))[i]? = some (g, (y, o)) := List.getElem?_zip_eq_some.mpr ⟨eg, z2⟩
                  rw [List.getElem?_map, List.getElem?_map, z3] at hzz
                  exact (Option.some.inj hzz).symm
                subst ezz
                refine ev_call (ea_cons (ev_var rfl) (ea_cons (ev_var rfl) ea_nil)) fun H6 e6 Q' q' E' => ⟨g, y, o, rfl, th.mono (((eG.trans e4).trans e5).trans e6), fun hg => ?_, q'⟩
                subst hg
                have := f4 (List.mem_of_getElem? eg)
                subst this
                exact (hf rfl y (List.mem_of_getElem? hy)).mono (((eG.trans e4).trans e5).trans e6)
            · unfold ruleB
              simp only [hfo, p0, hb', decide_true, Bool.true_and]
              simp [List.all_map]
      · refine q_when (b := true) (et_is (test2 (b := true) fun z => absurd z hs) (by simp)) (fun _ H4 e4 => ?_) (fun hb => by cases hb)
        refine s_ret (v := .bl (ruleB x0 x1 rest os)) (ev_is ev_c ?_) fun H5 e5 => k H5 ((eG.trans e4).trans e5)
        cases x1 with
        | str z => exact absurd (kd_strV kd1) hs
        | _ => simp [ruleB]
end
end Bp
namespace Bp
open PySem PySem.Spec PyProof.Rows L2 Bk Bm Evl Be Cr
abbrev vTail : List Value := [.type "ValueError", .type "Exception", .type "BaseException", .type "object"]
/-- an error class without a field, at C -/
structure Xc (K : PySem.W.Frag) (mg : Str → Option Value) (x : Str) (C : Addr) : Prop where
  g : mg x = some (.ref C)
  q : PySem.W.excIn K C vTail "ValueError.__new__" = true
  k : PySem.W.keepIn K (.ref C) = true
  b : PySem.W.subIn K (.ref C) (.type "BaseException") = some true
  t : PySem.W.typeIn K (.ref C) = some (.type "type")
section
variable {X : Cx} {C : Addr} {x : Str} {p pos : Pos}
/-- X() -/
theorem pmk_own0 (c : Xc X.K X.mg x C) (hg : Gl X x) (hdb : (x == ("__debug__" : Str)) = false := by decide) : PMk X (.Call (.Name x p) [] [] pos) (fun _ H Q => Q (.ref C) none H) := by
  intro pins s σ H Q I h
  refine wpAny_Call_Name_kw (ld_glob I hg c.g ?_ hdb)
  refine PySem.W.callWith_K0 I.kIn c.k ?_
  show wpAny _ _ (call (.ref C) []) _ _ _
  obtain ⟨bm, N, nm, qn, bs, hdct, sn, sub, ab, col, dd, k0, k1, k2, k3, k5, mN, hC, hN, hni, T⟩ := exc_obj I.kIn c.q
  refine wpAny_call_exc_subT PySem.F.excBase_ValueError T hC hN hni (fun h' e hm => ?_) (by rw [sizeLine_eq]; decide)
  exact mk_of I hm (raises_own c.b c.t) h (I.hok.gone hm.new)
end
section
variable {P : Program} {w : World} {K : PySem.W.Frag} {mg : Str → Option Value} {base : Heap}
/-! ### BadTree: its __init__ -/
abbrev sBtI : Stmt := inClass (top 10) 0
theorem scBtI : FnScope ["self", "index"] ["self", "index"] (defScope sBtI) := ⟨rfl, rfl, rfl, by decide +kernel, rfl, by decide +kernel, by decide +kernel⟩
/-- an error class with a field index, at C, its __init__ at fI -/
structure Xi (K : PySem.W.Frag) (mg : Str → Option Value) (x : Str) (C fI : Addr) : Prop where
  g : mg x = some (.ref C)
  o : OexC K C
  f : XfC K C
  n : PySem.W.findIn K (.ref C) "index" = some none
  i : PySem.W.findIn K (.ref C) "__init__" = some (some (.ref fI))
  t : PySem.W.typeIn K (.ref fI) = some (.type "function")
def spXi (K : PySem.W.Frag) (C : Addr) : Sp := fun vs H Q _ => ∃ a v, vs = [.ref a, v] ∧ H a = some (exo a C none) ∧ OexC K C ∧ PySem.W.findIn K (.ref C) "index" = some none ∧
  ∀ dx, H dx = none → dx ≠ a → Q .non (upd (upd H dx (exd dx [(("index" : Str), v)])) a (exo a C (some dx)))
theorem ok_btI {f C : Addr} {fd : FuncData} {q : Str} (F : Fun K "__init__" q sBtI f fd) : FnOk P w K mg base CX0 1 f fd ["self", "index"] (spXi K C) := by
  refine F.ok scBtI (fun vs H Q E h => ?_) (fun cdv A outer s H vs Q E hr h => ?_)
  · obtain ⟨x, v, rfl, _⟩ := h
    rfl
  · obtain ⟨a, v, rfl, ha, o, n, k⟩ := h
    refine ⟨_, pss_one (ps_ost (pv 0) (pv 1)), ?_⟩
    exact ⟨_, rfl, _, rfl, a, C, rfl, o, n, .inl ⟨ha, fun dx hd hne => k dx hd hne⟩⟩
/-- BadTree(e) -/
theorem pmk_xi {X : Cx} {C fI : Addr} {fd : FuncData} {x : Str} {e : Expr} {te : TE} {p pos : Pos} {k : Nat} (c : Xi X.K X.mg x C fI) (F : FnOk X.prog X.w X.K X.mg X.base CX0 1 fI fd ["self", "index"] (spXi X.K C)) (b : Binds X.K fd ["self", "index"] [])
    (hr : Room k X.A) (hk : 2 ≤ k) (hg : Gl X x) (he : PE X e te) (hdb : (x == ("__debug__" : Str)) = false := by decide)
    (hs : starEach (e :: []) X.env = (false, eval e X.env) :: starEach [] X.env := by rfl) (hpl : (backTo pos (starEach [] X.env)).any (·.1) = false := by rfl) :
    PMk X (.Call (.Name x p) [e] [] pos) (tMkO C (spXi X.K C) [] (tCons te tNil)) :=
  pmk_oex c.o c.i c.t F (hr.mono hk) b .nil pass0 hg c.g (pa_cons he pa_nil hs) hdb hs hpl
theorem xi_make {C fI : Addr} {x : Str} {te : TE} {σ : L2.St} {H : Hp} {v : V} {Q : XK} (c : Xi K mg x C fI) (he : Ev te σ H v) (k : ∀ d H', Ex H H' → H' d = some (.xd [(("index" : Str), v)]) → H d = none → Q (.ref C) (some d) H') : tMkO C (spXi K C) [] (tCons te tNil) σ H Q :=
  he H (Ex.refl _) _ fun H1 e1 => ⟨by show 1 ≤ 1000; decide, fun a ha => ⟨a, v, rfl, upd_same, c.o, c.n, fun dx hd hne => by
    have hdn : H1 dx = none := by rw [upd_ne hne] at hd; exact hd
    refine ⟨rfl, dx, [(("index" : Str), v)], upd_same, ?_, hdn, ?_⟩
    · rw [upd_ne hne, upd_same]
    · refine k dx _ (e1.trans fun b o hb => ?_) upd_same (fresh_back e1 hdn)
      have nb : b ≠ a := ne_of_none hb ha
      rw [upd_ne (ne_of_none hb hdn), del_ne nb, upd_ne nb, upd_ne (ne_of_none hb hdn), upd_ne nb]
      exact hb⟩⟩
end
theorem slice_to {σ : L2.St} {H : Hp} {K : PySem.W.Frag} {te ti : TE} {a : Addr} {xs : List V} {i : Nat} (h : Ev te σ H (.ref a)) (hi : Ev ti σ H (.int (i : Int))) (hx : SqT K H a xs) (hl : i ≤ xs.length) :
    ∀ H1, Ex H H1 → ∀ Q : VK, (∀ p H2, Ex H1 H2 → SqT K H2 p (xs.take i) → Q (.ref p) H2) → tSl (rSlA K) te tNoPart (tPart ti) σ H1 Q := fun H1 e Q q =>
  h H1 e _ fun H2 e2 => hi H2 (e.trans e2) _ fun H3 e3 => ⟨(i : Int), rfl, a, xs, rfl, ex_t ((e.trans e2).trans e3) hx, by
    have c1 : HT.sIx xs.length 0 none = 0 := HT.sIx_none _ _
    have c2 : HT.sIx xs.length xs.length (some (i : Int)) = i := by rw [HT.sIx_nat]; omega
    have c3 : cutV xs none (some (i : Int)) = xs.take i := by
      unfold cutV
      rw [c1, c2]
      simp
    rw [c1, c2]
    refine ⟨fun z => ?_, fun z p hp => ?_⟩
    · have z2 : xs.take i = xs := by rw [z.2]; exact List.take_length
      refine q a H3 (e2.trans e3) ?_
      rw [z2]
      exact ex_t ((e.trans e2).trans e3) hx
    · refine q p _ ((e2.trans e3).trans (Ex.new hp)) ?_
      rw [c3]
      exact st_of upd_same⟩
abbrev sCkRules : Stmt := top 63
/-- what an item of a tuple is: a rule that makes p, or none -/
def Itr (K : PySem.W.Frag) (H : Hp) (v : V) : Option Str → Prop
  | some p => Ru K H v true ∧ (∃ a ts, v = .ref a ∧ H a = some (.tup (.str p :: ts))) ∧ p.length ≤ 1000
  | none => Ru K H v false
theorem Itr.mono {K : PySem.W.Frag} {H H' : Hp} {v : V} {o : Option Str} (e : Ex H H') (h : Itr K H v o) : Itr K H' v o := by
  cases o with
  | some p =>
    obtain ⟨h1, ⟨a, ts, h2, h3⟩, h4⟩ := h
    exact ⟨h1.mono e, ⟨a, ts, h2, e _ _ h3⟩, h4⟩
  | none => exact Ru.mono e h
theorem Itr.ru {K : PySem.W.Frag} {H : Hp} {v : V} {o : Option Str} (h : Itr K H v o) : Ru K H v o.isSome := by
  cases o with
  | some p => exact h.1
  | none => exact h
/-- the first place that is wrong -/
def fb : List Str → List (Option Str) → Option Nat
  | _, [] => none
  | acc, none :: _ => some acc.length
  | acc, some p :: r => if acc.any (way p) = true then some acc.length else fb (acc ++ [p]) r
inductive Rl (K : PySem.W.Frag) (H : Hp) : V → Option V → Prop
  | no {v : V} {n : String} (k : Kd K H v n) (h : n ≠ "tuple") : Rl K H v (some .non)
  | big {a : Addr} {xs : List V} (h : H a = some (.tup xs)) (hl : 8 < xs.length) : Rl K H (.ref a) (some .non)
  | tup {a : Addr} {xs : List V} {os : List (Option Str)} (h : H a = some (.tup xs)) (hl : xs.length ≤ 8) (hp : Paired (Itr K H) xs os) : Rl K H (.ref a) ((fb [] os).map fun i => V.int ((i : Nat) : Int))
section
variable {P : Program} {w : World} {K : PySem.W.Frag} {mg : Str → Option Value} {base : Heap}
abbrev nCk : List Str := ["value", "index", "thing", "rule"]
theorem scCkRules : FnScope nCk ["value"] (defScope sCkRules) := ⟨rfl, rfl, rfl, by decide +kernel, rfl, by decide +kernel, by decide +kernel⟩
theorem Rl.mono {H H' : Hp} {v : V} {o : Option V} (e : Ex H H') (h : Rl K H v o) : Rl K H' v o := by
  cases h with
  | no k h => exact .no (k.mono e) h
  | big h hl => exact .big (e _ _ h) hl
  | tup h hl hp => exact .tup (e _ _ h) hl (pr_mono hp fun _ _ r => r.mono e)
/-- how BadTree comes -/
def RaiseI (C : Addr) (v : V) (H : Hp) (E : XK) : Prop := ∀ d H', Ex H H' → H' d = some (.xd [(("index" : Str), v)]) → H d = none → E (.ref C) (some d) H'
theorem RaiseI.go {C : Addr} {v : V} {H H1 : Hp} {E : XK} (h : RaiseI C v H E) (e : Ex H H1) : RaiseI C v H1 E := fun d H' e1 hd hn => h d H' (e.trans e1) hd (fresh_back e hn)
def spCkRules (C : Addr) : Sp := fun vs H Q E => ∃ v o, vs = [v] ∧ Rl K H v o ∧ (o = none → RetV .non H Q) ∧ (∀ u, o = some u → RaiseI C u H E)
/-- any([in_the_way(thing[0], rule[0]) for rule in value[:index]]) -/
theorem et_ways {H G : Hp} {a b : Addr} {xs ts : List V} {ps : List Str} {p : Str} {i : Nat} {x3 : Option V} (eG : Ex H G) (h : H a = some (.tup xs)) (hix : i ≤ xs.length) (hn : xs.length ≤ 8) (hb : G b = some (.tup (.str p :: ts))) (hp1 : p.length ≤ 1000)
    (hpf : Paired (fun v p => (∃ a ts, v = .ref a ∧ H a = some (.tup (.str p :: ts))) ∧ p.length ≤ 1000) (xs.take i) ps) :
    EvT (tB (tCB (rAny K) (tCons (tLc (iTup K (tSl (rSlA K) (tVar 0) tNoPart (tPart (tVar 1)))) (gName 3) tYes (tCall spWay [] E0 (tCons (tOp (rIxT K) (tVar 2) (tC (.int 0))) (tCons (tOp (rIxT K) (tVar 3) (tC (.int 0))) tNil))) [3]) tNil)))
      [some (.ref a), some (.int (i : Int)), some (.ref b), x3] G (ps.any (way p)) := fun H3 e3 Q q => by
  refine slice_to (i := i) (ev_var (i := 0) rfl) (ev_var (i := 1) rfl) (st_of ((eG.trans e3) _ _ h)) hix H3 (Ex.refl _) _ fun l H4 e4 hl4 => ?_
  have eH4 : Ex H H4 := (eG.trans e3).trans e4
  have big : Ev (tCB (rAny K) (tCons (tLc (iTup K (tC (.ref l))) (gName 3) tYes (tCall spWay [] E0 (tCons (tOp (rIxT K) (tVar 2) (tC (.int 0))) (tCons (tOp (rIxT K) (tVar 3) (tC (.int 0))) tNil))) [3]) tNil))
      [some (.ref a), some (.int (i : Int)), some (.ref b), x3] H4 (.bl ((ps.map (way p)).any id)) := by
    refine ev_any (ev_isL (el_lcT (j := 3) (fun v => match v with | .ref c => (match H c with | some (.tup (.str z :: _)) => .bl (way p z) | _ => .non) | _ => .non) ev_c hl4 ?_ fun x H5 e5 hx => ?_) ?_)
    · have := List.length_take_le' i xs
      omega
    · obtain ⟨z, hz, ⟨c, us, rfl, hc⟩, hzl⟩ := pr_mem hpf hx
      have hcc := (eH4.trans e5) _ _ hc
      have hbb := ((e3.trans e4).trans e5) _ _ hb
      simp only [hc]
      refine ev_call (ea_cons (ev_op (ev_var rfl) ev_c (rv_ixT (st_of hbb) (atI_nat (j := 0) rfl))) (ea_cons (ev_op (ev_var rfl) ev_c (rv_ixT (st_of hcc) (atI_nat (j := 0) rfl))) ea_nil)) fun H6 e6 Q' q' E' => ⟨p, z, rfl, by omega, by omega, q'⟩
    · have hmap : ∀ {ys : List V} {ps : List Str}, Paired (fun v p => (∃ a ts, v = .ref a ∧ H a = some (.tup (.str p :: ts))) ∧ p.length ≤ 1000) ys ps →
          ys.map (fun v => match v with | .ref c => (match H c with | some (.tup (.str z :: _)) => V.bl (way p z) | _ => .non) | _ => .non) = (ps.map (way p)).map V.bl := by
        intro ys ps h
        induction h with
        | nil => rfl
        | cons r _ ih =>
          obtain ⟨⟨c, us, rfl, hc⟩, _⟩ := r
          simp only [List.map_cons, ih, hc]
      exact hmap hpf
  have eqn : (ps.map (way p)).any id = ps.any (way p) := by simp [List.any_map]
  rw [eqn] at big
  exact big H4 (Ex.refl _) _ fun H5 e5 => ⟨_, rfl, q H5 (e4.trans e5)⟩
theorem ok_ckRules {f C fI : Addr} {fd fdI : FuncData} (F : Fun K "check_rules" "check_rules" sCkRules f fd) (T : Gv mg) (c : Xi K mg "BadRules" C fI) (FI : FnOk P w K mg base CX0 1 fI fdI ["self", "index"] (spXi K C)) (bI : Binds K fdI ["self", "index"] [])
    (cR : Cal P w K mg base CX0 5 "is_rule" ["value"] (spRule (K := K))) (cM : Cal P w K mg base CX0 2 "in_the_way" ["one", "other"] spWay) : FnOk P w K mg base (L2.CX P w) 6 f fd ["value"] (spCkRules (K := K) C) := by
  refine F.okX scCkRules (fun vs H Q E h => ?_) (fun cdv A outer s H vs Q E hr h => ?_)
  · obtain ⟨x, o, rfl, _⟩ := h
    rfl
  · obtain ⟨v, o, rfl, tr, k1, k2⟩ := h
    obtain ⟨t1, m1⟩ := T.mr
    have hr2 : Room 2 _ := hr.mono (by decide)
    refine ⟨_, pss_cons (ps_if (pw_or (pt_not (pt_val (pe_callB call_isi (by rfl) T.isi boot_isinstance (pa_cons (pv 0) (pa_cons (pe_bltn (v := .ty "tuple") (by rfl) T.tup (by decide +kernel) rfl) pa_nil)))))
        (pw_or1 (pt_cmpR op_gt (pe_callB call_len_seq (by rfl) T.len PySem.boot_len (pa_cons (pv 0) pa_nil)) (pe_glob (v := .int 8) (by rfl) m1 ⟨_, rfl⟩) (nomark _)))).pt
        (pss_one (ps_raise rfl (takes_of rfl rfl rfl rfl) (pmk_xi c FI bI hr (by decide) (by rfl) pe_non))) pss_nil)
      (pss_one (ps_for (passes_of rfl) rfl (pi_enumT (by rfl) T.enu (pa_cons (pv 0) pa_nil)) (pg_tup rfl (pgs_cons (pg_name (i := 1) scCkRules.nd rfl (Or.inl rfl)) (pgs_cons (pg_name (i := 2) scCkRules.nd rfl (Or.inr rfl)) pgs_nil)))
        (pss_one (ps_if (pw_or (pt_not (pt_val (pe_call cR.F hr (by rfl) cR.g cR.kp cR.b .nil pass0 (pa_cons (pv 2) pa_nil))))
          (pw_or1 (pt_val (pe_callB (cr_any rfl) (by rfl) T.any boot_any (pa_cons (pe_lc (own := [("rule", 3)]) (g := gName 3) (tt := tYes) rfl scCkRules.nd (pi_tup (pe_slice sl_tupA (pv 0) po_none (po_some (pv 1)))) (blkOk_by (N := nCk) (sc := defScope sCkRules) (by decide +kernel))
            (fun _ _ _ _ _ => pg_name (i := 3) scCkRules.nd rfl (Or.inl rfl)) (fun _ _ _ _ _ => pts_nil)
            (fun _ _ _ _ _ => pe_call cM.F hr2 (by rfl) cM.g cM.kp cM.b .nil pass0 (pa_cons (pe_ix (r := rIxT K) ix_tup (pv 2) pe_int (fun _ _ => rfl)) (pa_cons (pe_ix (r := rIxT K) ix_tup (pv 3) pe_int (fun _ _ => rfl)) pa_nil)))) pa_nil))))).pt
          (pss_one (ps_raise rfl (takes_of rfl rfl rfl rfl) (pmk_xi c FI bI hr (by decide) (by rfl) (pv 1)))) pss_nil)))), ?_⟩
    cases tr with
    | no kd hn =>
      refine q_when (b := true) (et_is (et_or (b := true) (et_not (et_B (ev_isi (ev_var rfl) ev_c kd (.inr rfl)))) fun hb => ?_) ?_) (fun _ H1 e1 => ?_) (fun hb => by cases hb)
      · simp [hn] at hb
      · simp [hn]
      · exact xi_make c ev_c (RaiseI.go (k2 _ rfl) e1)
    | @big a xs h hl =>
      refine q_when (b := true) (et_is (et_or (b := true) (et_not (et_B (ev_isi (ev_var rfl) ev_c (kd_tup h) (.inr rfl)))) fun hb => ?_) (by simp)) (fun _ H1 e1 => ?_) (fun hb => by cases hb)
      · exact et_is (et_test (ev_op (ev_lenT (ev_var rfl) (st_of h)) ev_c rv_I0)) (by simp; omega)
      · exact xi_make c ev_c (RaiseI.go (k2 _ rfl) e1)
    | @tup a xs os h hl hp =>
      refine q_when (b := false) (et_is (et_or (b := false) (et_not (et_B (ev_isi (ev_var rfl) ev_c (kd_tup h) (.inr rfl)))) fun hb => ?_) (by simp)) (fun hb => by cases hb) (fun _ H1 e1 => ?_)
      · exact et_is (et_test (ev_op (ev_lenT (ev_var rfl) (st_of h)) ev_c rv_I0)) (by simp; omega)
      · refine ⟨_, rfl, a, xs, rfl, st_of (e1 _ _ h), for_enumT (K := K) (a := a) (xs := xs) (fun i τ G => ∃ (u v : Option V) (fs : List Str), τ = [some (.ref a), u, v, none] ∧ Ex H G ∧ fs.length = i ∧ os.take i = fs.map some ∧ fb [] os = fb fs (os.drop i))
          ⟨none, none, [], rfl, e1, rfl, rfl, rfl⟩ (fun i τ G _ q => by obtain ⟨_, _, _, _, q, _⟩ := q; exact st_of (q _ _ h)) ?_ ?_⟩
        · rintro i x τ G T0 hi ⟨u, v, fs, rfl, eG, hfl, htk, hfb⟩ hT
          obtain ⟨o, ho, it⟩ := pr_get hp hi
          have hdr : os.drop i = o :: os.drop (i + 1) := by
            obtain ⟨hh, e⟩ := List.getElem?_eq_some_iff.mp ho
            rw [List.drop_eq_getElem_cons hh, e]
          rw [hdr] at hfb
          have e2 : Ex H (upd G T0 (.tup [.int (i : Nat), x])) := eG.trans (Ex.new hT)
          have hix : i ≤ xs.length := Nat.le_of_lt (List.getElem?_eq_some_iff.mp hi).1
          have hpf : Paired (fun v p => (∃ a ts, v = .ref a ∧ H a = some (.tup (.str p :: ts))) ∧ p.length ≤ 1000) (xs.take i) fs := by
            have h1 := pr_take hp i
            rw [htk] at h1
            have gen : ∀ {ys : List V} {gs : List Str}, Paired (Itr K H) ys (gs.map some) → Paired (fun v p => (∃ a ts, v = .ref a ∧ H a = some (.tup (.str p :: ts))) ∧ p.length ≤ 1000) ys gs := by
              intro ys gs
              induction gs generalizing ys with
              | nil => intro h; cases h; exact .nil
              | cons g r ih =>
                intro h
                cases h with
                | cons r1 r2 => exact .cons r1.2 (ih r2)
            exact gen h1
          refine ⟨T0, _, rfl, SqT.of upd_same, rfl, _, _, rfl, _, _, rfl, rfl, ?_⟩
          show tIfS _ _ tNext _ ([some (.ref a), some (.int (i : Int)), some x, none] : L2.St) _
          have call1 : EvT (tNot (tB (tCall (spRule (K := K)) [] E0 (tCons (tVar 2) tNil)))) ([some (.ref a), some (.int (i : Int)), some x, none] : L2.St) (upd G T0 (.tup [.int (i : Nat), x])) (!(o.isSome)) :=
            et_not (et_B (ev_call (ea_cons (ev_var rfl) ea_nil) fun H3 e3 Q' q' E' => ⟨x, _, rfl, (it.mono (e2.trans e3)).ru, q'⟩))
          refine s_when (b := !(o.isSome) || (match o with | some p => fs.any (way p) | none => false)) (et_or call1 fun hb => ?_) (fun hb H3 e3 => ?_) (fun hb H3 e3 => ?_)
          · cases o with
            | none => simp at hb
            | some p =>
              obtain ⟨_, ⟨b, ts, rfl, hbb⟩, hpl⟩ := it
              exact et_ways e2 h hix hl (e2 _ _ hbb) hpl hpf
          · have hbad : fb [] os = some i := by
              rw [hfb]
              cases o with
              | none => show some fs.length = some i; rw [hfl]
              | some p =>
                have hn : fs.any (way p) = true := by simpa using hb
                show (if fs.any (way p) = true then some fs.length else _) = some i
                rw [if_pos hn, hfl]
            exact xi_make c (ev_var rfl) (RaiseI.go (k2 _ (by rw [hbad]; rfl)) (e2.trans e3))
          · cases o with
            | none => simp at hb
            | some p =>
              have hn : fs.any (way p) = false := by simpa using hb
              refine ⟨_, _, fs ++ [p], rfl, e2.trans e3, by simp [hfl], ?_, ?_⟩
              · rw [List.take_succ, htk, ho]
                simp
              · rw [hfb]
                show (if fs.any (way p) = true then some fs.length else _) = _
                rw [if_neg (by rw [hn]; decide)]
        · rintro τ G ⟨u, v, fs, rfl, eG, hfl, htk, hfb⟩
          have hlen := pr_len hp
          have hn : fb [] os = none := by
            rw [hfb, hlen, List.drop_length]
            rfl
          exact k1 (by rw [hn]; rfl) G eG
end
end Bp
namespace Bp
open PySem PySem.Spec PyProof.Rows L2 Bk Bm Evl Be Cr
abbrev sInit : Stmt := inClass (top 55) 0
abbrev sGet : Stmt := inClass (top 55) 1
abbrev sLen : Stmt := inClass (top 55) 2
abbrev sEq : Stmt := inClass (top 55) 3

abbrev sCkBook : Stmt := top 64
abbrev kR : Str := "_rules"
/-- the class Book, at C -/
structure Bks (K : PySem.W.Frag) (mg : Str → Option Value) (C fI pR fG fL fE : Addr) : Prop where
  g : mg "Book" = some (.ref C)
  cls : Cls K C
  mkr : Mk K C fI
  na : NoAttr K C kR
  prop : PropOf K C "rules" pR fG
  len : PySem.W.findIn K (.ref C) "__len__" = some (some (.ref fL))
  lenF : PySem.W.isFn K (.ref fL) = true
  eq : PySem.W.findIn K (.ref C) "__eq__" = some (some (.ref fE))
  eqF : PySem.W.isFn K (.ref fE) = true
  nf : PySem.W.notFirst K C (.type "tuple") = true
  ha : PySem.W.findIn K (.ref C) "__class__" = some (some (.builtin "object.__class__"))
  hn : PySem.W.specialIn K (.builtin "object.__class__") "__get__" = some (some (.builtin "getset_descriptor.__get__"))
  htk : PySem.W.takesIn K (.builtin "object.__class__") = some true
  hm : PySem.W.mroIn K C (.type "object") = some true
  kt : PySem.W.kitOne K (.type "tuple") (.ref C) = some false
/-- a book of the rules v stands at a -/
def BkAt (H : Hp) (C a : Addr) (v : V) : Prop := ∃ dx, H a = some (.ins C dx [(kR, v)])
theorem BkAt.mono {H H' : Hp} {C a : Addr} {v : V} (e : Ex H H') (h : BkAt H C a v) : BkAt H' C a v := by
  obtain ⟨dx, h⟩ := h
  exact ⟨dx, e _ _ h⟩
section
variable {P : Program} {w : World} {K : PySem.W.Frag} {mg : Str → Option Value} {base : Heap} {C fI pR fG fL fE : Addr}
/-! ### __init__ -/
def spInit (C Cx : Addr) : Sp := fun vs H Q E => ∃ x dx v o, vs = [.ref x, v] ∧ H x = some (.ins C dx []) ∧ Rl K H v o ∧ (o = none → ∀ H1, Ex H H1 → Q .non (upd H1 x (.ins C dx [(kR, v)]))) ∧ (∀ u, o = some u → RaiseI Cx u H E)
theorem scInit : FnScope ["self", "rules"] ["self", "rules"] (defScope sInit) := ⟨rfl, rfl, rfl, by decide +kernel, rfl, by decide +kernel, by decide +kernel⟩
/-- what is let out of a body as it comes -/
theorem lets {X : Cx} {E : XK} (tk : Takes X (fun cls d _ H => E cls d H)) : Passes (L2.CX X.prog X.w) X E := passes_call tk fun _ _ _ _ h => h
theorem ok_init {f Cx : Addr} {fd : FuncData} {q : Str} (F : Fun K "__init__" q sInit f fd) (B : Bks K mg C fI pR fG fL fE) (cK : Cal P w K mg base (L2.CX P w) 6 "check_rules" ["value"] (spCkRules (K := K) Cx)) :
    FnOk P w K mg base (L2.CX P w) 7 f fd ["self", "rules"] (spInit (K := K) C Cx) := by
  refine F.okX scInit (fun vs H Q E h => ?_) (fun cdv A outer s H vs Q E hr h => ?_)
  · obtain ⟨x, dx, v, o, rfl, _⟩ := h
    rfl
  · obtain ⟨x, dx, v, o, rfl, hx, rl, k1, k2⟩ := h
    refine ⟨_, pss_cons (ps_expr (pe_call cK.F hr (by rfl) cK.g cK.kp cK.b .nil (lets (takes_of rfl rfl rfl rfl)) (pa_cons (pv 1) pa_nil)))
      (pss_one (ps_fld (pv 0) (pv 1) (by rfl))), ?_⟩
    refine ⟨_, rfl, v, o, rfl, rl, fun ho H1 e1 => ?_, fun u hu => k2 u hu⟩
    exact ⟨_, rfl, _, rfl, x, C, dx, [], rfl, e1 _ _ hx, B.cls, B.na, by decide, k1 ho H1 e1⟩
/-! ### the property, len -/
def spGet (C : Addr) : Sp := fun vs H Q _ => ∃ a v, vs = [.ref a] ∧ BkAt H C a v ∧ RetV v H Q
theorem scGet : FnScope ["self"] ["self"] (defScope sGet) := ⟨rfl, rfl, rfl, by decide +kernel, rfl, by decide +kernel, by decide +kernel⟩
theorem ev_fld {σ : L2.St} {H : Hp} {te : TE} {a : Addr} {v : V} (B : Bks K mg C fI pR fG fL fE) (h : Ev te σ H (.ref a)) (b : BkAt H C a v) : Ev (tFld K te kR) σ H v := fun H1 e Q q => h H1 e _ fun H2 e2 => by
  obtain ⟨dx, hb⟩ := b.mono (e.trans e2)
  exact ⟨a, C, dx, _, v, rfl, hb, B.cls, B.na, rfl, q H2 e2⟩
theorem ok_get {f : Addr} {fd : FuncData} {q : Str} (F : Fun K "rules" q sGet f fd) (B : Bks K mg C fI pR fG fL fE) : FnOk P w K mg base CX0 1 f fd ["self"] (spGet C) := by
  refine F.ok scGet (fun vs H Q E h => ?_) (fun cdv A outer s H vs Q E hr h => ?_)
  · obtain ⟨a, v, rfl, _⟩ := h
    rfl
  · obtain ⟨a, v, rfl, b, k⟩ := h
    refine ⟨_, pss_one (ps_ret (pe_fld (pv 0) (by rfl))), ?_⟩
    exact s_ret (ev_fld B (ev_var rfl) b) k
def spLen (C : Addr) : Sp := fun vs H Q _ => ∃ a t xs, vs = [.ref a] ∧ BkAt H C a (.ref t) ∧ SqT K H t xs ∧ RetV (.int (xs.length : Int)) H Q
theorem scLen : FnScope ["self"] ["self"] (defScope sLen) := ⟨rfl, rfl, rfl, by decide +kernel, rfl, by decide +kernel, by decide +kernel⟩
theorem ok_len {f : Addr} {fd : FuncData} {q : Str} (F : Fun K "__len__" q sLen f fd) (T : Gv mg) (B : Bks K mg C fI pR fG fL fE) : FnOk P w K mg base CX0 1 f fd ["self"] (spLen (K := K) C) := by
  refine F.ok scLen (fun vs H Q E h => ?_) (fun cdv A outer s H vs Q E hr h => ?_)
  · obtain ⟨a, t, xs, rfl, _⟩ := h
    rfl
  · obtain ⟨a, t, xs, rfl, b, hx, k⟩ := h
    refine ⟨_, pss_one (ps_ret (pe_callB call_len_seq (by rfl) T.len PySem.boot_len (pa_cons (pe_fld (pv 0) (by rfl)) pa_nil))), ?_⟩
    exact s_ret (ev_lenT (ev_fld B (ev_var rfl) b) hx) k
/-! ### == -/
def spEqB (C : Addr) : Sp := fun vs H Q _ => ∃ a b v, vs = [.ref a, .ref b] ∧ BkAt H C a v ∧
  ((∃ xs, H b = some (.tup xs) ∧ RetV (.bl false) H Q) ∨ ∃ u d e, BkAt H C b u ∧ (∀ G, Ex H G → Dp K G v d ∧ Dp K G u e) ∧ SeqAt.shaped d = true ∧ SeqAt.shaped e = true ∧ RetV (.bl (PyData.eqv d e)) H Q)
theorem scEq : FnScope ["self", "other"] ["self", "other"] (defScope sEq) := ⟨rfl, rfl, rfl, by decide +kernel, rfl, by decide +kernel, by decide +kernel⟩
theorem ty_bk {H : Hp} {a : Addr} {v : V} (B : Bks K mg C fI pR fG fL fE) (b : BkAt H C a v) : TyX K H (.ref a) (.ref C) := by
  obtain ⟨dx, h⟩ := b
  exact .base (.ins h B.cls B.ha B.hn B.htk B.hm)
theorem kt_self : PySem.W.kitOne K (.ref C) (.ref C) = some true := by
  unfold PySem.W.kitOne
  rw [if_pos (by simp)]
theorem ev_isB {σ : L2.St} {H : Hp} {te tx : TE} {a : Addr} {v : V} (B : Bks K mg C fI pR fG fL fE) (h : Ev te σ H (.ref a)) (hc : Ev tx σ H (.ref C)) (b : BkAt H C a v) : Ev (tCB (rIsi K) (tCons te (tCons tx tNil))) σ H (.bl true) := fun H1 e Q q =>
  h H1 e _ fun H2 e2 => hc H2 (e.trans e2) _ fun H3 e3 => ⟨.ref a, .ref C, .ref C, .ref C, true, rfl, .own C, ty_bk B (b.mono ((e.trans e2).trans e3)), kt_self, q H3 (e2.trans e3)⟩
theorem ok_eqB {f : Addr} {fd : FuncData} {q : Str} (F : Fun K "__eq__" q sEq f fd) (T : Gv mg) (B : Bks K mg C fI pR fG fL fE) : FnOk P w K mg base CX0 1 f fd ["self", "other"] (spEqB (K := K) C) := by
  refine F.ok scEq (fun vs H Q E h => ?_) (fun cdv A outer s H vs Q E hr h => ?_)
  · obtain ⟨a, b, v, rfl, _⟩ := h
    rfl
  · obtain ⟨a, b, v, rfl, ba, h⟩ := h
    have hu : (A.deeper (envOfC q (defScope sEq) s.heap.objs.size f cdv)).units + 64 < cLine := by have := hr.un; omega
    refine ⟨_, pss_one (ps_ret (pe_and (pe_callB call_isi (by rfl) T.isi boot_isinstance (pa_cons (pv 1) (pa_cons (pe_glob (v := .ref C) (by rfl) B.g rfl) pa_nil)))
      (pe_one (pe_cmpR (op_eqD hu) (pe_fld (pv 0) (by rfl)) (pe_fld (pv 1) (by rfl)) (nomark _))))), ?_⟩
    rcases h with ⟨xs, hb, k⟩ | ⟨u, d, e, bb, dp, s1, s2, k⟩
    · refine s_ret (v := .bl false) (ev_is (ev_and (a := false) (b := false) (fun H1 e1 Q q => ⟨_, rfl, .ref b, .ref C, .type "tuple", .ref C, false, rfl, .own C, .base (.tup (e1 _ _ hb)), B.kt, q H1 (Ex.refl _)⟩) (fun z => by cases z)) rfl) k
    · refine s_ret (v := .bl (PyData.eqv d e)) (ev_is (ev_and (a := true) (b := PyData.eqv d e) (ev_isB B (ev_var rfl) ev_c bb) fun _ => ev_op (ev_fld B (ev_var rfl) ba) (ev_fld B (ev_var rfl) bb) fun H1 e1 Q q => ?_) rfl) k
      obtain ⟨d1, d2⟩ := dp H1 e1
      exact ⟨d, e, d1, d2, s1, s2, q H1 (Ex.refl _)⟩
/-! ### check_book, made_paths -/
def spCkB (C : Addr) : Sp := fun vs H Q _ => ∃ a v, vs = [.ref a] ∧ BkAt H C a v ∧ RetV .non H Q
theorem scCkBook : FnScope ["value"] ["value"] (defScope sCkBook) := ⟨rfl, rfl, rfl, by decide +kernel, rfl, by decide +kernel, by decide +kernel⟩
theorem ok_ckBook {f : Addr} {fd : FuncData} (F : Fun K "check_book" "check_book" sCkBook f fd) (T : Gv mg) (B : Bks K mg C fI pR fG fL fE) : FnOk P w K mg base CX0 1 f fd ["value"] (spCkB C) := by
  refine F.ok scCkBook (fun vs H Q E h => ?_) (fun cdv A outer s H vs Q E hr h => ?_)
  · obtain ⟨a, v, rfl, _⟩ := h
    rfl
  · obtain ⟨a, v, rfl, b, k⟩ := h
    refine ⟨_, pss_one (ps_if (pt_not (pt_val (pe_callB call_isi (by rfl) T.isi boot_isinstance (pa_cons (pv 0) (pa_cons (pe_glob (v := .ref C) (by rfl) B.g rfl) pa_nil))))) pss_never pss_nil), ?_⟩
    refine s_if (b := false) (et_is (et_not (et_B (ev_isB B (ev_var rfl) ev_c b))) rfl) (fun z => by cases z) (fun _ H1 e1 => ?_)
    exact k H1 e1
/-- the made paths of a tuple of rules -/
def Heads (H : Hp) (xs : List V) (ps : List Str) : Prop := Paired (fun v p => ∃ a ts, v = .ref a ∧ H a = some (.tup (.str p :: ts))) xs ps
theorem Heads.mono {H H' : Hp} {xs : List V} {ps : List Str} (e : Ex H H') (h : Heads H xs ps) : Heads H' xs ps := pr_mono h fun _ _ ⟨a, ts, z, h⟩ => ⟨a, ts, z, e _ _ h⟩
def headV (H : Hp) : V → V
  | .ref c => match H c with
    | some (.tup (.str z :: _)) => .str z
    | _ => .non
  | _ => .non
theorem heads_map {H : Hp} {xs : List V} {ps : List Str} (h : Heads H xs ps) : xs.map (headV H) = ps.map V.str := by
  induction h with
  | nil => rfl
  | cons r _ ih =>
    obtain ⟨a, ts, rfl, h⟩ := r
    simp only [List.map_cons, ih, headV, h]
end
end Bp
namespace Bl
open PySem PySem.Spec PyProof.Rows L2 Bk Bm Evl Be Cr Bp
abbrev sTaken : Stmt := top 149
/-- the script, at a: never written -/
def Sc (K : PySem.W.Frag) (H : Hp) (a : Addr) (ns : List Int) : Prop := (∃ o, H a = some (.frz o (.lst (ns.map V.int)))) ∨
  ∃ (o : Obj) (its : Array Value) (n : Nat), K.lookup a = some o ∧ o.cls = .type "list" ∧ o.dict = none ∧ o.data = .seq its n ∧ its.size ≤ sizeLine ∧ Vals (ns.map V.int) its.toList
theorem Sc.sq {K : PySem.W.Frag} {H : Hp} {a : Addr} {ns : List Int} (h : Sc K H a ns) : SqL K H a (ns.map V.int) := by
  rcases h with h | h
  · exact .inl (.inr h)
  · exact .inr h
/-- all but r stands -/
def Kp (r : Addr) (H G : Hp) : Prop := ∀ b o, b ≠ r → H b = some o → G b = some o
theorem Kp.of_ex {r : Addr} {H G : Hp} (e : Ex H G) : Kp r H G := fun b o _ h => e b o h
theorem Kp.refl (r : Addr) (H : Hp) : Kp r H H := fun _ _ _ h => h
theorem Kp.trans {r : Addr} {H G F : Hp} (a : Kp r H G) (b : Kp r G F) : Kp r H F := fun x o n h => b x o n (a x o n h)
theorem Kp.up {r : Addr} {H G : Hp} {o : HO} (a : Kp r H G) : Kp r H (upd G r o) := fun x u n h => by
  rw [upd_ne n]
  exact a x u n h
theorem Sc.keep {K : PySem.W.Frag} {H G : Hp} {r a : Addr} {ns : List Int} {xs : List V} (h : Sc K H a ns) (hr : H r = some (.lst xs)) (k : Kp r H G) : Sc K G a ns := by
  rcases h with ⟨o, h⟩ | h
  · exact .inl ⟨o, k a _ (ne_of h hr (by intro z; cases z)) h⟩
  · exact .inr h
def rowL (a : Addr) (i s z : Int) : List V := [.ref a, .int i, .int s, .int z]
/-- the row of draws stands at r -/
def Row (K : PySem.W.Frag) (H : Hp) (r : Addr) : Prop := ∃ a i s z ns, H r = some (.lst (rowL a i s z)) ∧ Sc K H a ns ∧ 0 ≤ i
structure Dr (K : PySem.W.Frag) (r : Addr) (H G : Hp) : Prop where
  kp : Kp r H G
  row : Row K G r
theorem Row.ex {K : PySem.W.Frag} {H G : Hp} {r : Addr} (h : Row K H r) (e : Ex H G) : Row K G r := by
  obtain ⟨a, i, s, z, ns, hr, sc, hi⟩ := h
  exact ⟨a, i, s, z, ns, e _ _ hr, sc.keep hr (.of_ex e), hi⟩
theorem Dr.refl {K : PySem.W.Frag} {H : Hp} {r : Addr} (h : Row K H r) : Dr K r H H := ⟨.refl r H, h⟩
theorem Dr.trans {K : PySem.W.Frag} {H G F : Hp} {r : Addr} (a : Dr K r H G) (b : Dr K r G F) : Dr K r H F := ⟨a.kp.trans b.kp, b.row⟩
theorem Dr.ex {K : PySem.W.Frag} {H G F : Hp} {r : Addr} (a : Dr K r H G) (e : Ex G F) : Dr K r H F := ⟨a.kp.trans (.of_ex e), a.row.ex e⟩
theorem Dr.pre {K : PySem.W.Frag} {H G F : Hp} {r : Addr} (e : Ex H G) (a : Dr K r G F) : Dr K r H F := ⟨(Kp.of_ex e).trans a.kp, a.row⟩
section
variable {P : Program} {w : World} {K : PySem.W.Frag} {mg : Str → Option Value} {base : Heap}
abbrev nTaken : List Str := ["_law_row", "_law_many", "_law_found", "_law_cell"]
theorem scTaken : FnScope nTaken ["_law_row", "_law_many"] (defScope sTaken) := ⟨rfl, rfl, rfl, by decide +kernel, rfl, by decide +kernel, by decide +kernel⟩
def spTaken : Sp := fun vs H Q _ => ∃ r m, vs = [.ref r, .int m] ∧ Row K H r ∧ 0 < m ∧ m < 1073741824 ∧ ∀ n G, 0 ≤ n → n < m → Dr K r H G → Q (.int n) G
theorem ev_int {σ : L2.St} {H : Hp} {te : TE} {i : Int} (h : Ev te σ H (.int i)) : Ev (tCB (fun xs H Q => (∃ i, xs = [V.int i] ∧ Q (.int i) H) ∨ ∃ k, xs = [.bl k] ∧ Q (.int (if k then 1 else 0)) H) (tCons te tNil)) σ H (.int i) := fun H1 e Q q =>
  h H1 e _ fun H2 e2 => .inl ⟨i, rfl, q H2 e2⟩
theorem rv_mod {H : Hp} {i j : Int} (h : 0 < j) : RV (rI (fun _ j => 0 < j) fun i j => .int (i % j)) (.int i) (.int j) H (.int (i % j)) := rv_I h
theorem ok_taken {f : Addr} {fd : FuncData} (F : Fun K "_law_taken" "_law_taken" sTaken f fd) (T : Gv mg) : FnOk P w K mg base CX0 1 f fd ["_law_row", "_law_many"] (spTaken (K := K)) := by
  refine F.ok scTaken (fun vs H Q E h => ?_) (fun cdv A outer s H vs Q E hr h => ?_)
  · obtain ⟨r, m, rfl, _⟩ := h
    rfl
  · obtain ⟨r, m, rfl, ⟨a, i, z2, z3, ns, hrow, sc, hi⟩, hm0, hm1, k⟩ := h
    refine ⟨_, pss_cons (ps_if (pt_cmpR op_gt (pe_ix ix_list (pv 0) pe_int (fun _ _ => rfl)) pe_int (nomark _))
        (pss_cons (ps_set (i := 2) scTaken.nd rfl (Or.inl rfl) (pe_op op_mod (pe_callTy call_int1 (by rfl) T.int (by decide +kernel) (pa_cons (pe_ix ix_list (pv 0) pe_int (fun _ _ => rfl)) pa_nil)) (pv 1)))
        (pss_cons (ps_asg (pe_op op_fdiv (pe_ix ix_list (pv 0) pe_int (fun _ _ => rfl)) (pv 1)) (pg_sub (pv 0) pe_int set_list))
        (pss_one (ps_ret (pv 2))))) pss_nil)
      (pss_cons (ps_asg (pe_op op_add (pe_ix ix_list (pv 0) pe_int (fun _ _ => rfl)) pe_int) (pg_sub (pv 0) pe_int set_list))
      (pss_cons (ps_if (pt_cmpR op_gt (pe_ix ix_list (pv 0) pe_int (fun _ _ => rfl)) (pe_callB call_len_seq (by rfl) T.len PySem.boot_len (pa_cons (pe_ix ix_list (pv 0) pe_int (fun _ _ => rfl)) pa_nil)) (nomark _))
        (pss_cons (ps_asg (pe_op op_mod (pe_callTy call_int1 (by rfl) T.int (by decide +kernel) (pa_cons (pe_op op_add (pe_op op_mul (pe_ix ix_list (pv 0) pe_int (fun _ _ => rfl)) pe_int) pe_int) pa_nil)) pe_int) (pg_sub (pv 0) pe_int set_list))
        (pss_one (ps_ret (pe_op op_mod (pe_callTy call_int1 (by rfl) T.int (by decide +kernel) (pa_cons (pe_op op_fdiv (pe_ix ix_list (pv 0) pe_int (fun _ _ => rfl)) pe_int) pa_nil)) (pv 1))))) pss_nil)
      (pss_cons (ps_set (i := 3) scTaken.nd rfl (Or.inl rfl) (pe_ix ix_list (pe_ix ix_list (pv 0) pe_int (fun _ _ => rfl)) (pe_op op_sub (pe_ix ix_list (pv 0) pe_int (fun _ _ => rfl)) pe_int) (fun _ _ => rfl)))
      (pss_cons (ps_asg (pe_op op_mod (pe_callTy call_int1 (by rfl) T.int (by decide +kernel) (pa_cons (pe_op op_add (pe_op op_add (pe_op op_mul (pe_ix ix_list (pv 0) pe_int (fun _ _ => rfl)) pe_int) (pv 3)) pe_int) pa_nil)) pe_int) (pg_sub (pv 0) pe_int set_list))
      (pss_cons (ps_if (pt_cmpR op_ge (pv 3) (pe_op op_pow pe_int pe_int) (nomark _)) (pss_one (ps_asg (pe_op op_fdiv (pv 3) (pv 1)) (pg_sub (pv 0) pe_int set_list))) pss_nil)
      (pss_one (ps_ret (pe_op op_mod (pe_callTy call_int1 (by rfl) T.int (by decide +kernel) (pa_cons (pv 3) pa_nil)) (pv 1))))))))), ?_⟩
    have ixr : ∀ {σ : L2.St} {G : Hp} {j : Int} {a' : Addr} {i' s' t' : Int} {v : V}, σ[0]? = some (some (.ref r)) → G r = some (.lst (rowL a' i' s' t')) → atI (rowL a' i' s' t') j = some v → Ev (tOp (rIxL K) (tVar 0) (tC (.int j))) σ G v :=
      fun h1 h2 h3 => ev_op (ev_var h1) ev_c (rv_ixL (sq_of h2) h3)
    refine q_when (b := decide (0 < z3)) (et_test (ev_op (ixr rfl hrow rfl) ev_c rv_I0)) (fun hb H1 e1 => ?_) (fun hb H1 e1 => ?_)
    · -- the rest of a great cell
      refine q_asg (ev_op (ev_int (ixr rfl (e1 _ _ hrow) rfl)) (ev_var rfl) (rv_mod hm0)) fun H2 e2 => ?_
      refine q_setL (j := 3) ((e1.trans e2) _ _ hrow) (ev_op (ixr rfl ((e1.trans e2) _ _ hrow) rfl) (ev_var rfl) (rv_I ⟨hm0, hm1⟩)) (ev_var rfl) ev_c (by show 3 < 4; decide) fun H3 e3 => ?_
      refine s_ret (v := .int (z3 % m)) (ev_var rfl) fun H4 e4 => ?_
      have kp : Kp r H (upd H3 r (.lst ((rowL a i z2 z3).set 3 (.int (z3 / m))))) := (Kp.of_ex ((e1.trans e2).trans e3)).up
      exact k _ H4 (Int.emod_nonneg _ (by omega)) (Int.emod_lt_of_pos _ hm0) (Dr.ex ⟨kp, a, i, z2, z3 / m, ns, upd_same, sc.keep hrow kp, hi⟩ e4)
    · refine q_setL (j := 1) (e1 _ _ hrow) (ev_op (ixr rfl (e1 _ _ hrow) rfl) ev_c rv_I0) (ev_var rfl) ev_c (by show 1 < 4; decide) fun H2 e2 => ?_
      have kp2 : Kp r H (upd H2 r (.lst (rowL a (i + 1) z2 z3))) := (Kp.of_ex (e1.trans e2)).up
      have row2 : (upd H2 r (.lst (rowL a (i + 1) z2 z3))) r = some (.lst (rowL a (i + 1) z2 z3)) := upd_same
      show tSeq (tIfS _ _ tNext) _ _ _ (upd H2 r (.lst (rowL a (i + 1) z2 z3)))
      generalize upd H2 r (.lst (rowL a (i + 1) z2 z3)) = G2 at kp2 row2
      have sc2 := sc.keep hrow kp2
      refine q_when (b := decide ((ns.length : Int) < i + 1)) (et_test (ev_op (ixr rfl row2 rfl) (ev_is (ev_len (ixr rfl row2 rfl) sc2.sq) (by rw [List.length_map])) rv_I0)) (fun hb H3 e3 => ?_) (fun hb H3 e3 => ?_)
      · -- behind the script
        refine q_setL (j := 2) (e3 _ _ row2) (ev_op (ev_int (ev_op (ev_op (ixr rfl (e3 _ _ row2) rfl) ev_c (rv_I (.inr ⟨by decide, by decide⟩))) ev_c rv_I0)) ev_c (rv_mod (by decide))) (ev_var rfl) ev_c (by show 2 < 4; decide) fun H4 e4 => ?_
        show tRet _ _ _ (upd H4 r (.lst (rowL a (i + 1) ((z2 * 48271 + 11) % 2147483647) z3)))
        refine s_ret (v := .int ((z2 * 48271 + 11) % 2147483647 / 7 % m)) (ev_op (ev_int (ev_op (ixr rfl upd_same rfl) ev_c (rv_I ⟨by decide, by decide⟩))) (ev_var rfl) (rv_mod hm0)) fun H5 e5 => ?_
        have kp : Kp r H (upd H4 r (.lst (rowL a (i + 1) ((z2 * 48271 + 11) % 2147483647) z3))) := (kp2.trans (.of_ex (e3.trans e4))).up
        exact k _ H5 (Int.emod_nonneg _ (by omega)) (Int.emod_lt_of_pos _ hm0) (Dr.ex ⟨kp, a, _, _, _, ns, upd_same, sc.keep hrow kp, by omega⟩ e5)
      · have hlt : i + 1 ≤ (ns.length : Int) := by simpa using hb
        have hin : i.toNat < ns.length := by omega
        have hat : atI (ns.map V.int) (i + 1 - 1) = some (V.int ns[i.toNat]) := by
          have e : i + 1 - 1 = (i.toNat : Int) := by omega
          rw [e]
          exact atI_nat (by rw [List.getElem?_map, List.getElem?_eq_getElem hin]; rfl)
        generalize ns[i.toNat] = c at hat
        refine q_asg (ev_op (ixr rfl (e3 _ _ row2) rfl) (ev_op (ixr rfl (e3 _ _ row2) rfl) ev_c rv_I0) (rv_ixL (sc2.keep row2 (.of_ex e3)).sq hat)) fun H4 e4 => ?_
        refine q_setL (j := 2) ((e3.trans e4) _ _ row2) (ev_op (ev_int (ev_op (ev_op (ev_op (ixr rfl ((e3.trans e4) _ _ row2) rfl) ev_c (rv_I (.inr ⟨by decide, by decide⟩))) (ev_var rfl) rv_I0) ev_c rv_I0)) ev_c (rv_mod (by decide))) (ev_var rfl) ev_c (by show 2 < 4; decide) fun H5 e5 => ?_
        have kp5 : Kp r H (upd H5 r (.lst (rowL a (i + 1) ((z2 * 48271 + c + 11) % 2147483647) z3))) := (kp2.trans (.of_ex ((e3.trans e4).trans e5))).up
        have row5 : (upd H5 r (.lst (rowL a (i + 1) ((z2 * 48271 + c + 11) % 2147483647) z3))) r = some (.lst (rowL a (i + 1) ((z2 * 48271 + c + 11) % 2147483647) z3)) := upd_same
        show tSeq (tIfS _ _ tNext) _ _ _ (upd H5 r (.lst (rowL a (i + 1) ((z2 * 48271 + c + 11) % 2147483647) z3)))
        generalize (z2 * 48271 + c + 11) % 2147483647 = z2' at kp5 row5 ⊢
        generalize upd H5 r (.lst (rowL a (i + 1) z2' z3)) = G5 at kp5 row5 ⊢
        have fin : ∀ G6, Kp r H G6 → (∃ t, G6 r = some (.lst (rowL a (i + 1) z2' t))) → tRet (tOp (rI (fun _ j => 0 < j) fun i j => .int (i % j)) (tCB (fun xs H Q => (∃ i, xs = [V.int i] ∧ Q (.int i) H) ∨ ∃ k, xs = [.bl k] ∧ Q (.int (if k then 1 else 0)) H) (tCons (tVar 3) tNil)) (tVar 1))
            { nx := fun _ H' => Q .non H', rt := Q } [some (.ref r), some (.int m), none, some (.int c)] G6 := fun G6 k6 ⟨t, r6⟩ =>
          s_ret (v := .int (c % m)) (ev_op (ev_int (ev_var rfl)) (ev_var rfl) (rv_mod hm0)) fun H7 e7 => k _ H7 (Int.emod_nonneg _ (by omega)) (Int.emod_lt_of_pos _ hm0) (Dr.ex ⟨k6, a, _, _, t, ns, r6, sc.keep hrow k6, by omega⟩ e7)
        refine q_when (b := decide ((10 : Int) ^ 18 ≤ c)) (et_test (ev_op (ev_var rfl) (ev_op ev_c ev_c (rv_I ⟨by decide, by decide, by decide⟩)) rv_I0)) (fun hb6 H6 e6 => ?_) (fun hb6 H6 e6 => fin H6 (kp5.trans (.of_ex e6)) ⟨_, e6 _ _ row5⟩)
        refine s_setL (j := 3) (e6 _ _ row5) (ev_op (ev_var rfl) (ev_var rfl) (rv_I ⟨hm0, hm1⟩)) (ev_var rfl) ev_c (by show 3 < 4; decide) fun H7 e7 => ?_
        exact fin _ ((kp5.trans (.of_ex (e6.trans e7))).up) ⟨c / m, upd_same⟩
end
end Bl
namespace Bl
open PySem PySem.Spec PyProof.Rows L2 Bk Bm Evl Be Cr Bp TL
section
variable {K : PySem.W.Frag} {H G : Hp} {r D : Addr}
theorem Row.updL {ys zs : List V} (h : Row K G r) (hD : G D = some (.lst ys)) (hne : D ≠ r) : Row K (upd G D (.lst zs)) r := by
  obtain ⟨a, i, s, z, ns, hr, sc, hi⟩ := h
  refine ⟨a, i, s, z, ns, by rw [upd_ne hne.symm]; exact hr, ?_, hi⟩
  rcases sc with ⟨o, h⟩ | h
  · exact .inl ⟨o, by rw [upd_ne (ne_of h hD (by intro z; cases z))]; exact h⟩
  · exact .inr h
theorem Kp.updL {o : HO} (h : Kp r H G) (hD : H D = none) : Kp r H (upd G D o) := fun b u n e => by
  rw [upd_ne (ne_of_none e hD)]
  exact h b u n e
theorem Dr.updL {ys zs : List V} (d : Dr K r H G) (hD : H D = none) (hg : G D = some (.lst ys)) (hne : D ≠ r) : Dr K r H (upd G D (.lst zs)) := ⟨d.kp.updL hD, d.row.updL hg hne⟩
theorem Row.at (h : Row K H r) : ∃ xs, H r = some (.lst xs) := by
  obtain ⟨a, i, s, z, ns, hr, _⟩ := h
  exact ⟨_, hr⟩
theorem Row.ne_new (h : Row K H r) {p : Addr} (hp : H p = none) : p ≠ r := by
  obtain ⟨xs, e⟩ := h.at
  exact (ne_of_none e hp).symm
theorem Dr.free {p : Addr} (d : Dr K r H G) (h : Row K H r) (hp : G p = none) : H p = none := by
  cases e : H p with
  | none => rfl
  | some o =>
    have n : p ≠ r := d.row.ne_new hp
    rw [d.kp p o n e] at hp
    cases hp
end
section
variable {P : Program} {w : World} {K : PySem.W.Frag} {mg : Str → Option Value} {base : Heap}
def spOne : Sp := fun vs H Q _ => ∃ r t xs, vs = [.ref r, .ref t] ∧ Row K H r ∧ t ≠ r ∧ H t = some (.lst xs) ∧ 0 < xs.length ∧ xs.length < 1000000 ∧ ∀ v G, v ∈ xs → Dr K r H G → Q v G
/-- a draw below m -/
theorem draw {σ : L2.St} {H : Hp} {ta tm : TE} {r : Addr} {m : Int} {Q : VK} (hr : Ev ta σ H (.ref r)) (hm : Ev tm σ H (.int m)) (row : Row K H r) (h0 : 0 < m) (h1 : m < 1000000) (k : ∀ n G, 0 ≤ n → n < m → Dr K r H G → Q (.int n) G) :
    tCall (spTaken (K := K)) [] E0 (tCons ta (tCons tm tNil)) σ H Q :=
  hr H (Ex.refl _) _ fun H1 e1 => hm H1 e1 _ fun H2 e2 => ⟨r, m, rfl, row.ex (e1.trans e2), h0, by omega, fun n G hn hm d => k n G hn hm (Dr.pre (e1.trans e2) d)⟩
/-- written values -/
def tCs : List V → TA
  | [] => tNil
  | v :: r => tCons (tC v) (tCs r)
theorem ea_cs {σ : L2.St} {H : Hp} : ∀ vs : List V, EvA (tCs vs) σ H vs
  | [] => ea_nil
  | _ :: r => ea_cons ev_c (ea_cs r)
theorem el_cat {σ : L2.St} {H : Hp} {ta tb : TE} {l : Addr} {xs zs : List V} (ha : Ev ta σ H (.ref l)) (hl : H l = some (.lst xs)) (hb : EvL tb σ H zs) (hz : xs.length + zs.length ≤ 100000) : EvL (tOp rCat ta tb) σ H (xs ++ zs) := fun H1 e Q q =>
  ha H1 e _ fun H2 e2 => hb H2 (e.trans e2) _ fun b H3 hb3 e3 h3 => ⟨l, b, xs, zs, rfl, rfl, ((e.trans e2).trans e3) _ _ hl, h3, sz_of hz, fun p hp => q p _ (fresh_back (e2.trans e3) hp) ((e2.trans e3).trans (Ex.new hp)) upd_same⟩
end
end Bl
namespace Bl
open PySem PySem.Spec PyProof.Rows L2 Bk Bm Evl Be Cr Bp TL
section
variable {X : Cx}
/-- x * n of a text -/
def rMulS : R2 := fun x y H Q => ∃ z n, x = .str z ∧ y = .int n ∧ MulOk z n ∧ Q (.str (Txt.mul z n)) H
theorem op_mulS : OpR X (binaryOp .Mult) rMulS := by
  intro pins s σ H x y v u Q I rx ry h
  obtain ⟨z, n, rfl, rfl, hok, q⟩ := h
  obtain ⟨t, rfl⟩ := rx
  obtain ⟨t', rfl⟩ := ry
  exact SB.mul hok fun t2 k => ⟨.str (Txt.mul z n), H, I.tok k, ⟨_, rfl⟩, q⟩
end
theorem Sm.kp {r : Addr} {H G : Hp} {v : V} {xs : List V} (h : Sm H v) (hr : H r = some (.lst xs)) (hx : xs.length ≠ 1) (k : Kp r H G) : Sm G v := by
  cases h with
  | non => exact .non
  | bl b => exact .bl b
  | int i => exact .int i
  | str x h => exact .str x h
  | l1 h => exact .l1 (k _ _ (ne_of h hr (by intro z; cases z; exact hx rfl)) h)
  | t1 h => exact .t1 (k _ _ (ne_of h hr (by intro z; cases z)) h)
  | d0 h => exact .d0 (k _ _ (ne_of h hr (by intro z; cases z)) h)
theorem Sm.dr {K : PySem.W.Frag} {r : Addr} {H G : Hp} {v : V} (h : Sm H v) (row : Row K H r) (d : Dr K r H G) : Sm G v := by
  obtain ⟨a, i, s, z, ns, hr, _⟩ := row
  exact Sm.kp h hr (by show 4 ≠ 1; decide) d.kp
section
variable {P : Program} {w : World} {K : PySem.W.Frag} {mg : Str → Option Value} {base : Heap}
def oddS : List Str := ["", "/", "a/", "/a", "A", "a b", "a//b", "a/b/c/d", "abcdefg", "a-b"].map Str.ofString
def oddL (t l : Addr) : List V := [.non, .int 0, .bl true] ++ oddS.map V.str ++ [.ref t, .ref l]
theorem odd_strs : ∀ x ∈ Str.ofString "a\n" :: oddS, x.length ≤ 1000 ∧ pathB x = false := by decide +kernel
def spOdd (ok : V → Bool) : Sp := fun vs H Q _ => ∃ r, vs = [.ref r] ∧ Row K H r ∧ ∀ v G, Dr K r H G → Sm G v → ok v = false → Q v G
end
end Bl
namespace Bl
open PySem PySem.Spec PyProof.Rows L2 Bk Bm Evl Be Cr Bp TL
def five : List Str := ["m", "n", "o", "p/q", "r"].map Str.ofString
def first5 : List Str := ["a", "b", "c", "d/x", "d/y"].map Str.ofString
def ten : List Str := first5 ++ five
def folds : List Str := ["", "d", "e", "e/f", "a"].map Str.ofString
def wrds : List Str := ["b", "use", "y", "a b", "1", "use a", "use d/x"].map Str.ofString
def knds : List Str := ["join", "join", "size", "sort", "pick", "names", "use", "use", "choose", "choose", "need"].map Str.ofString
def okS (x : Str) : Prop := x.length ≤ 1000 ∧ PyData.strOk x = true ∧ x ≠ Str.ofString "z"
instance (x : Str) : Decidable (okS x) := by unfold okS; infer_instance
theorem ten_ok : ∀ y ∈ ten, okS y ∧ pathB y = true := by decide +kernel
theorem folds_ok : ∀ y ∈ folds, okS y ∧ isFolderV (.str y) = true := by decide +kernel
theorem wrds_ok : ∀ y ∈ wrds, okS y ∧ wordB y = true := by decide +kernel
theorem knds_ok : ∀ k ∈ knds, okS k ∧ k ∈ kinds9 := by decide +kernel
theorem five_ten : ∀ y ∈ five, y ∈ ten := by decide +kernel
/-- a thing of a drawn rule -/
inductive Tg (H : Hp) : V → Option (List V) × PyData → Prop
  | s (x : Str) (h : okS x) : Tg H (.str x) (none, .str x)
  | t {b : Addr} {ys : List Str} (h : H b = some (.tup (ys.map V.str))) (hy : ∀ y ∈ ys, okS y) (hl : ys.length ≤ 100) : Tg H (.ref b) (some (ys.map V.str), .tuple (ys.map PyData.str))
/-- a drawn rule that makes m -/
def Good (H : Hp) (v : V) (md : Str × PyData) : Prop := ∃ a k ts ods, v = .ref a ∧ H a = some (.tup (.str md.1 :: .str k :: ts)) ∧ Paired (Tg H) ts ods ∧ ods.length ≤ 3 ∧ k ∈ knds ∧ (k = Str.ofString "names" → ∀ x ∈ ts, ∃ y, x = .str y ∧ okS y) ∧
  md.1 ∈ five ∧ ruleB (.str md.1) (.str k) ts (ods.map (·.1)) = true ∧ md.2 = .tuple (.str md.1 :: .str k :: ods.map (·.2))
section
variable {H G : Hp} {v : V} {K : PySem.W.Frag} {r : Addr}
theorem Tg.imp {o : Option (List V) × PyData} (f : ∀ b ys, H b = some (.tup ys) → G b = some (.tup ys)) (h : Tg H v o) : Tg G v o := by
  cases h with
  | s x h => exact .s x h
  | t h hy hl => exact .t (f _ _ h) hy hl
theorem Good.imp {md : Str × PyData} (f : ∀ b ys, H b = some (.tup ys) → G b = some (.tup ys)) (h : Good H v md) : Good G v md := by
  obtain ⟨a, k, ts, ods, h0, h1, h2, h3⟩ := h
  exact ⟨a, k, ts, ods, h0, f _ _ h1, pr_mono h2 fun _ _ z => z.imp f, h3⟩
theorem Good.mono {md : Str × PyData} (e : Ex H G) (h : Good H v md) : Good G v md := h.imp fun b ys z => e _ _ z
theorem Good.dr {md : Str × PyData} (h : Good H v md) (row : Row K H r) (d : Dr K r H G) : Good G v md := h.imp fun b ys z => by
  obtain ⟨rl, hr⟩ := row.at
  exact d.kp _ _ (ne_of z hr (by intro z; cases z)) z
theorem Good.updL {md : Str × PyData} {D : Addr} {xs zs : List V} (h : Good H v md) (hr : H D = some (.lst xs)) : Good (upd H D (.lst zs)) v md := h.imp fun b ys z => by
  rw [upd_ne (ne_of z hr (by intro z; cases z))]
  exact z
theorem Tg.th {o : Option (List V) × PyData} (h : Tg H v o) : Th K H v o.1 := by
  cases h with
  | s x h => exact .sm (.str x h.1) (kd_str x) (by decide)
  | @t b ys h hy hl =>
    refine .tu h (fun x hx => ?_) (by rw [List.length_map]; omega)
    obtain ⟨y, hy', rfl⟩ := List.mem_map.mp hx
    exact .str y (hy y hy').1
theorem Good.itr {md : Str × PyData} (h : Good H v md) : Itr K H v (some md.1) := by
  obtain ⟨a, k, ts, ods, rfl, h1, h2, h3, h4, h5, h6, h7, h8⟩ := h
  have hm := (ten_ok _ (five_ten _ h6)).1.1
  have r := Ru.long (K := K) (os := ods.map (·.1)) h1 (Sm.str md.1 hm) (Sm.str k (knds_ok k h4).1.1) (fun z hz => by cases hz; exact (knds_ok k h4).2) ?_ (by have := pr_len h2; omega) (fun z x hx => ?_)
  · rw [h7] at r
    exact ⟨r, ⟨a, _, rfl, h1⟩, hm⟩
  · clear h3 h7 h8 h5 h1
    induction h2 with
    | nil => exact .nil
    | cons r _ ih => exact .cons r.th ih
  · injection z with z
    obtain ⟨y, rfl, hy⟩ := h5 z x hx
    exact .str y hy.1
theorem ruleB_of {m k : Str} {fs : List Str} {ts : List V} {os : List (Option (List V))} (h0 : pathB m = true) (hf : formOf k = some fs) (hl : ts.length = fs.length) (ha : ((fs.zip (ts.zip os)).all fun p => fitsV p.1 p.2.1 p.2.2) = true) :
    ruleB (.str m) (.str k) ts os = true := by
  unfold ruleB
  simp only [hf, ha, hl, decide_true]
  show (pathB m && _) = true
  rw [h0]
  rfl
theorem fit_path {v : V} {o : Option (List V)} : fitsV (Str.ofString "path") v o = isPathV v := by
  unfold fitsV
  rw [if_pos rfl]
theorem fit_word {v : V} {o : Option (List V)} : fitsV (Str.ofString "word") v o = isWordV v := by
  unfold fitsV
  rw [if_neg (by decide +kernel), if_pos rfl]
theorem fit_fold {v : V} {o : Option (List V)} : fitsV (Str.ofString "folder") v o = isFolderV v := by
  unfold fitsV
  rw [if_neg (by decide +kernel), if_neg (by decide +kernel), if_pos rfl]
theorem fit_paths {v : V} {xs : List V} : fitsV (Str.ofString "paths") v (some xs) = (decide (xs.length ≤ 4) && xs.all isPathV) := by
  unfold fitsV
  rw [if_neg (by decide +kernel), if_neg (by decide +kernel), if_neg (by decide +kernel)]
theorem fit_pathsN {v : V} : fitsV (Str.ofString "paths") v none = false := by
  unfold fitsV
  rw [if_neg (by decide +kernel), if_neg (by decide +kernel), if_neg (by decide +kernel)]
theorem f_join : formOf (Str.ofString "join") = some [Str.ofString "paths"] := by decide +kernel
theorem f_choose : formOf (Str.ofString "choose") = some [Str.ofString "path", Str.ofString "path", Str.ofString "path"] := by decide +kernel
theorem f_names : formOf (Str.ofString "names") = some [Str.ofString "folder"] := by decide +kernel
theorem k_pn : ∀ k ∈ knds, inV (.str k) [.str (Str.ofString "pick"), .str (Str.ofString "need")] = true → formOf k = some [Str.ofString "path", Str.ofString "word"] ∧ k ≠ Str.ofString "names" := by decide +kernel
theorem k_one : ∀ k ∈ knds, k ≠ Str.ofString "join" → k ≠ Str.ofString "choose" → inV (.str k) [.str (Str.ofString "pick"), .str (Str.ofString "need")] = false → k ≠ Str.ofString "names" → formOf k = some [Str.ofString "path"] := by decide +kernel
/-- the rules, each with its own things -/
theorem good_1 {a : Addr} {m k y : Str} (h : H a = some (.tup [.str m, .str k, .str y])) (hm : m ∈ five) (hk : k ∈ knds) (hy : okS y) (hf : (formOf k = some [Str.ofString "path"] ∧ pathB y = true) ∨ (k = Str.ofString "names" ∧ isFolderV (.str y) = true)) :
    Good H (.ref a) (m, .tuple [.str m, .str k, .str y]) := by
  refine ⟨a, k, [.str y], [(none, .str y)], rfl, h, .cons (.s y hy) .nil, by show 1 ≤ 3; decide, hk, fun _ x hx => ⟨y, List.mem_singleton.mp hx, hy⟩, hm, ?_, rfl⟩
  rcases hf with ⟨hf, hp⟩ | ⟨rfl, hp⟩
  · exact ruleB_of (ten_ok _ (five_ten _ hm)).2 hf rfl (by show (fitsV _ (.str y) none && true) = true; rw [fit_path]; show (pathB y && true) = true; rw [hp]; rfl)
  · exact ruleB_of (ten_ok _ (five_ten _ hm)).2 f_names rfl (by show (fitsV _ (.str y) none && true) = true; rw [fit_fold, hp]; rfl)
theorem good_2 {a : Addr} {m k y z : Str} (h : H a = some (.tup [.str m, .str k, .str y, .str z])) (hm : m ∈ five) (hk : k ∈ knds) (hy : okS y) (hz : okS z) (hf : formOf k = some [Str.ofString "path", Str.ofString "word"]) (hp : pathB y = true) (hw : wordB z = true) :
    Good H (.ref a) (m, .tuple [.str m, .str k, .str y, .str z]) := by
  refine ⟨a, k, [.str y, .str z], [(none, .str y), (none, .str z)], rfl, h, .cons (.s y hy) (.cons (.s z hz) .nil), by show 2 ≤ 3; decide, hk, fun _ x hx => ?_, hm, ?_, rfl⟩
  · rcases List.mem_cons.mp hx with rfl | hx
    · exact ⟨y, rfl, hy⟩
    · exact ⟨z, List.mem_singleton.mp hx, hz⟩
  · refine ruleB_of (ten_ok _ (five_ten _ hm)).2 hf rfl ?_
    show (fitsV _ (.str y) none && (fitsV _ (.str z) none && true)) = true
    rw [fit_path, fit_word]
    show (pathB y && (wordB z && true)) = true
    rw [hp, hw]
    rfl
theorem good_3 {a : Addr} {m x y z : Str} (h : H a = some (.tup [.str m, .str (Str.ofString "choose"), .str x, .str y, .str z])) (hm : m ∈ five) (hx : x ∈ ten) (hy : y ∈ ten) (hz : z ∈ ten) :
    Good H (.ref a) (m, .tuple [.str m, .str (Str.ofString "choose"), .str x, .str y, .str z]) := by
  refine ⟨a, _, [.str x, .str y, .str z], [(none, .str x), (none, .str y), (none, .str z)], rfl, h, .cons (.s x (ten_ok x hx).1) (.cons (.s y (ten_ok y hy).1) (.cons (.s z (ten_ok z hz).1) .nil)), by show 3 ≤ 3; decide, by decide +kernel, fun c => absurd c (by decide +kernel), hm, ?_, rfl⟩
  refine ruleB_of (ten_ok _ (five_ten _ hm)).2 f_choose rfl ?_
  show (fitsV _ (.str x) none && (fitsV _ (.str y) none && (fitsV _ (.str z) none && true))) = true
  rw [fit_path, fit_path, fit_path]
  show (pathB x && (pathB y && (pathB z && true))) = true
  rw [(ten_ok x hx).2, (ten_ok y hy).2, (ten_ok z hz).2]
  rfl
theorem good_j {a b : Addr} {m : Str} {ys : List Str} (h : H a = some (.tup [.str m, .str (Str.ofString "join"), .ref b])) (hb : H b = some (.tup (ys.map V.str))) (hm : m ∈ five) (hy : ∀ y ∈ ys, y ∈ ten) (hl : ys.length ≤ 4) :
    Good H (.ref a) (m, .tuple [.str m, .str (Str.ofString "join"), .tuple (ys.map PyData.str)]) := by
  refine ⟨a, _, [.ref b], [(some (ys.map V.str), .tuple (ys.map PyData.str))], rfl, h, .cons (.t hb (fun y h => (ten_ok y (hy y h)).1) (by omega)) .nil, by show 1 ≤ 3; decide, by decide +kernel, fun c => absurd c (by decide +kernel), hm, ?_, rfl⟩
  refine ruleB_of (ten_ok _ (five_ten _ hm)).2 f_join rfl ?_
  show (fitsV _ (.ref b) (some (ys.map V.str)) && true) = true
  rw [fit_paths, List.length_map, decide_eq_true hl, Bool.true_and, Bool.and_true, List.all_map, List.all_eq_true]
  exact fun y h => (ten_ok y (hy y h)).2
end
end Bl
namespace Bl
open PySem PySem.Spec PyProof.Rows L2 Bk Bm Evl Be Cr Bp TL
section
variable {P : Program} {w : World} {K : PySem.W.Frag} {mg : Str → Option Value} {base : Heap}
abbrev nRl : List Str := ["_law_row", "_law_made", "_law_all_made", "_law_some", "_law_kind", "_law_many", "_law_k", "_law_more"]
def spRuleL : Sp := fun vs H Q _ => ∃ r t m, vs = [.ref r, .str m, .ref t] ∧ Row K H r ∧ t ≠ r ∧ H t = some (.lst (five.map V.str)) ∧ m ∈ five ∧ ∀ a d G, Dr K r H G → Good G (.ref a) (m, d) → Q (.ref a) G
theorem cut_mem {xs : List V} {lo hi : Option Int} {x : V} (h : x ∈ cutV xs lo hi) : x ∈ xs := by
  unfold cutV at h
  first
    | exact List.mem_of_mem_drop (List.mem_of_mem_take h)
    | exact List.mem_of_mem_take (List.mem_of_mem_drop h)
theorem cut_len {xs : List V} {lo hi : Option Int} : (cutV xs lo hi).length ≤ xs.length := by
  unfold cutV
  simp
  omega
/-- one of a list of texts -/
theorem one_str {xs : List Str} {v : V} (h : v ∈ xs.map V.str) : ∃ y ∈ xs, v = .str y := by
  obtain ⟨y, hy, rfl⟩ := List.mem_map.mp h
  exact ⟨y, hy, rfl⟩
/-- a draw from a list that stands -/
theorem drawL {σ : L2.St} {H : Hp} {ta tb : TE} {r t : Addr} {xs : List V} {Q : VK} (hr : Ev ta σ H (.ref r)) (ht : Ev tb σ H (.ref t)) (row : Row K H r) (hne : t ≠ r) (hx : H t = some (.lst xs)) (h0 : 0 < xs.length) (h1 : xs.length < 1000000)
    (k : ∀ v G, v ∈ xs → Dr K r H G → Q v G) : tCall (spOne (K := K)) [] E0 (tCons ta (tCons tb tNil)) σ H Q :=
  hr H (Ex.refl _) _ fun H1 e1 => ht H1 e1 _ fun H2 e2 => ⟨r, t, xs, rfl, row.ex (e1.trans e2), hne, (e1.trans e2) _ _ hx, h0, h1, fun v G hv d => k v G hv (Dr.pre (e1.trans e2) d)⟩
/-- a draw from a written list of texts -/
theorem drawS {σ : L2.St} {H : Hp} {ta : TE} {r : Addr} {xs : List Str} {Q : VK} (hr : Ev ta σ H (.ref r)) (row : Row K H r) (h0 : 0 < xs.length) (h1 : xs.length < 100000)
    (k : ∀ y G, y ∈ xs → Dr K r H G → Q (.str y) G) : tCall (spOne (K := K)) [] E0 (tCons ta (tCons (tLst (tCs (xs.map V.str))) tNil)) σ H Q :=
  hr H (Ex.refl _) _ fun H1 e1 => el_lst (ea_cs _) (by rw [List.length_map]; omega) H1 e1 _ fun p H2 hp e2 h2 => ⟨r, p, xs.map V.str, rfl, row.ex (e1.trans e2), (row.ex e1).ne_new hp, h2, by rw [List.length_map]; exact h0, by rw [List.length_map]; omega, fun v G hv d => by
    obtain ⟨y, hy, rfl⟩ := one_str hv
    exact k y G hy (Dr.pre (e1.trans e2) d)⟩
theorem q_raw {i : Nat} {te : TE} {tz : TS} {De : Ends} {σ : L2.St} {H : Hp} (h : te σ H (fun v H1 => tz De (σ.set i (some v)) H1)) : tSeq (tAsg te (gName i)) tz De σ H := h
theorem s_raw {i : Nat} {te : TE} {De : Ends} {σ : L2.St} {H : Hp} (h : te σ H (fun v H1 => De.nx (σ.set i (some v)) H1)) : tAsg te (gName i) De σ H := h
theorem op_raw {r : R2} {ta tb : TE} {σ : L2.St} {H : Hp} {Q : VK} (h : ta σ H (fun x H1 => tb σ H1 fun y H2 => r x y H2 Q)) : tOp r ta tb σ H Q := h
theorem tup_raw {ta : TA} {σ : L2.St} {H : Hp} {Q : VK} (h : ta σ H fun vs H1 => vs.length ≤ sizeLine ∧ ∀ p, H1 p = none → Q (.ref p) (upd H1 p (.tup vs))) : tTup ta σ H Q := h
end
end Bl
namespace Bl
open PySem PySem.Spec PyProof.Rows L2 Bk Bm Evl Be Cr Bp TL
def eight : List Str := ["m", "n", "o", "p/q", "r", "s", "t/u", "v/abc123/def456"].map Str.ofString
theorem cut_to {xs : List V} {j : Nat} (h : j ≤ xs.length) : cutV xs none (some (j : Int)) = xs.take j := by
  have c1 : HT.sIx xs.length 0 none = 0 := HT.sIx_none _ _
  have c2 : HT.sIx xs.length xs.length (some (j : Int)) = j := by rw [HT.sIx_nat]; omega
  unfold cutV
  rw [c1, c2]
  simp
theorem ins_perm {α : Type} (gs : List α) (j : Nat) (g : α) : (gs.take j ++ [g] ++ gs.drop j).Perm (g :: gs) := by
  have h : (gs.take j ++ [g] ++ gs.drop j) = gs.take j ++ g :: gs.drop j := by simp
  rw [h]
  have p := List.perm_middle (a := g) (l₁ := gs.take j) (l₂ := gs.drop j)
  rw [List.take_append_drop] at p
  exact p
theorem five_nodup : five.Nodup := by decide +kernel
theorem five_new {i : Nat} {q : Str} (h : five[i]? = some q) : q ∉ five.take i := by
  intro hm
  obtain ⟨j, e⟩ := List.getElem?_of_mem hm
  have hj2 : j < i := by
    have h1 := (List.getElem?_eq_some_iff.mp e).1
    have := List.length_take_le i five
    omega
  rw [List.getElem?_take_of_lt hj2] at e
  have := nd_ix five_nodup h e
  omega
section
variable {P : Program} {w : World} {K : PySem.W.Frag} {mg : Str → Option Value} {base : Heap}
abbrev nRs : List Str := ["_law_row", "_law_most", "_law_all_made", "_law_found", "_law_made"]
/-- a drawn tuple of rules -/
def RsAt (H : Hp) (xs : List V) (gs : List (Str × PyData)) : Prop := Paired (Good H) xs gs ∧ (gs.map (·.1)).Nodup ∧ gs.length ≤ 5
def spRulesL : Sp := fun vs H Q _ => ∃ r, vs = [.ref r, .int 4] ∧ Row K H r ∧ ∀ p xs gs G, Dr K r H G → H p = none → G p = some (.tup xs) → RsAt G xs gs → 1 ≤ gs.length → Q (.ref p) G
/-- between the turns -/
def RInv (K : PySem.W.Frag) (r A D l : Addr) (H0 : Hp) (L : List V) (i : Nat) (σ : L2.St) (G : Hp) : Prop :=
  ∃ (vs : List V) (gs : List (Str × PyData)) (u : Option V), σ = [some (.ref r), some (.int 4), some (.ref A), some (.ref D), u] ∧ G D = some (.lst vs) ∧ G l = some (.lst L) ∧ G A = some (.lst (five.map V.str)) ∧
    Paired (Good G) vs gs ∧ (gs.map (·.1)).Nodup ∧ (∀ g ∈ gs, g.1 ∈ five.take i) ∧ gs.length = i ∧ Dr K r H0 G
end
end Bl
namespace Bl
open PySem PySem.Spec PyProof.Rows L2 Bk Bm Evl Be Cr Bp TL
section
variable {K : PySem.W.Frag} {H G : Hp} {r : Addr} {v : V}
theorem Kd.kp {n : String} {xs0 ys0 : List V} (h : Kd K H v n) (hr : H r = some (.lst xs0)) (hr' : G r = some (.lst ys0)) (kp : Kp r H G) : Kd K G v n := by
  obtain ⟨t, k⟩ := h
  refine ⟨?_, k⟩
  cases t with
  | base t =>
    refine .base ?_
    cases t with
    | non => exact .non
    | bl b => exact .bl b
    | int i => exact .int i
    | str x => exact .str x
    | flt x => exact .flt x
    | @lst a xs h =>
      by_cases c : a = r
      · subst c; exact .lst hr'
      · exact .lst (kp _ _ c h)
    | frz h => exact .frz (kp _ _ (ne_of h hr (by intro z; cases z)) h)
    | tup h => exact .tup (kp _ _ (ne_of h hr (by intro z; cases z)) h)
    | dK h => exact .dK (kp _ _ (ne_of h hr (by intro z; cases z)) h)
    | dT h => exact .dT (kp _ _ (ne_of h hr (by intro z; cases z)) h)
  | byt b => exact .byt b
  | set h => exact .set (kp _ _ (ne_of h hr (by intro z; cases z)) h)
  | kList h c => exact .kList h c
  | kTuple h c => exact .kTuple h c
  | kDict h c => exact .kDict h c
  | fTuple h => exact .fTuple (kp _ _ (ne_of h hr (by intro z; cases z)) h)
  | fDict h => exact .fDict (kp _ _ (ne_of h hr (by intro z; cases z)) h)
theorem Sc.ex {a : Addr} {ns : List Int} (h : Sc K H a ns) (e : Ex H G) : Sc K G a ns := by
  rcases h with ⟨o, h⟩ | h
  · exact .inl ⟨o, e _ _ h⟩
  · exact .inr h
theorem Th.kp {o : Option (List V)} {xs0 ys0 : List V} (h : Th K H v o) (hr : H r = some (.lst xs0)) (hx0 : xs0.length ≠ 1) (hr' : G r = some (.lst ys0)) (kp : Kp r H G) : Th K G v o := by
  cases h with
  | sm h k hn => exact .sm (Sm.kp h hr hx0 kp) (Kd.kp k hr hr' kp) hn
  | tu h hx hl => exact .tu (kp _ _ (ne_of h hr (by intro z; cases z)) h) (fun x hh => Sm.kp (hx x hh) hr hx0 kp) hl
theorem Ru.kp {b : Bool} {xs0 ys0 : List V} (h : Ru K H v b) (hr : H r = some (.lst xs0)) (hx0 : xs0.length ≠ 1) (hr' : G r = some (.lst ys0)) (kp : Kp r H G) : Ru K G v b := by
  cases h with
  | no k h => exact .no (Kd.kp k hr hr' kp) h
  | short h hl => exact .short (kp _ _ (ne_of h hr (by intro z; cases z)) h) hl
  | long h h0 h1 hk hp hl hf => exact .long (kp _ _ (ne_of h hr (by intro z; cases z)) h) (Sm.kp h0 hr hx0 kp) (Sm.kp h1 hr hx0 kp) hk (pr_mono hp fun _ _ z => Th.kp z hr hx0 hr' kp) hl fun z x hx => Sm.kp (hf z x hx) hr hx0 kp
theorem Itr.kp {o : Option Str} {xs0 ys0 : List V} (h : Itr K H v o) (hr : H r = some (.lst xs0)) (hx0 : xs0.length ≠ 1) (hr' : G r = some (.lst ys0)) (kp : Kp r H G) : Itr K G v o := by
  cases o with
  | some p =>
    obtain ⟨h1, ⟨a, ts, h2, h3⟩, h4⟩ := h
    exact ⟨Ru.kp h1 hr hx0 hr' kp, ⟨a, ts, h2, kp _ _ (ne_of h3 hr (by intro z; cases z)) h3⟩, h4⟩
  | none => exact Ru.kp h hr hx0 hr' kp
theorem Itr.dr {o : Option Str} (h : Itr K H v o) (row : Row K H r) (d : Dr K r H G) : Itr K G v o := by
  obtain ⟨a, i, s, z, ns, hr, _⟩ := row
  obtain ⟨rl', hr'⟩ := d.row.at
  exact Itr.kp h hr (by show 4 ≠ 1; decide) hr' d.kp
/-! sorted made paths are one list -/
def ix (z : Str) : Nat := five.findIdx fun y => decide (y = z)
theorem ix_lt : ∀ x ∈ five, ∀ y ∈ five, ltCps x.cps.toList y.cps.toList = decide (ix x < ix y) := by decide +kernel
theorem ix_inj : ∀ x ∈ five, ∀ y ∈ five, ix x = ix y → x = y := by decide +kernel
theorem ris_pw : ∀ (l : List Str) (p : Str), (∀ z ∈ p :: l, z ∈ five) → risingS p l = true → (p :: l).Pairwise fun a b => ix a ≤ ix b
  | [], p, _, _ => List.pairwise_singleton _ _
  | x :: r, p, hm, h => by
    have h' : (!ltCps x.cps.toList p.cps.toList) = true ∧ risingS x r = true := by
      have h0 : (!ltCps x.cps.toList p.cps.toList && risingS x r) = true := h
      simpa using h0
    have ih := ris_pw r x (fun z hz => hm z (List.mem_cons_of_mem _ hz)) h'.2
    have hx := hm x (List.mem_cons_of_mem _ List.mem_cons_self)
    have hp := hm p List.mem_cons_self
    have le : ix p ≤ ix x := by
      have h1 := h'.1
      rw [ix_lt x hx p hp] at h1
      have h2 : ¬ ix x < ix p := by simpa using h1
      omega
    refine List.pairwise_cons.mpr ⟨fun z hz => ?_, ih⟩
    rcases List.mem_cons.mp hz with rfl | hz
    · exact le
    · exact Nat.le_trans le ((List.pairwise_cons.mp ih).1 z hz)
theorem srt_pw {l : List Str} (hm : ∀ z ∈ l, z ∈ five) (h : sortedS l = true) : l.Pairwise fun a b => ix a ≤ ix b := by
  cases l with
  | nil => exact List.Pairwise.nil
  | cons x r => exact ris_pw r x hm h
theorem uniq : ∀ l m : List Str, l.Pairwise (fun a b => ix a ≤ ix b) → m.Pairwise (fun a b => ix a ≤ ix b) → l.Perm m → (∀ z ∈ l, z ∈ five) → l = m
  | [], m, _, _, p, _ => (List.nil_perm.mp p).symm
  | x :: r, [], _, _, p, _ => absurd p.length_eq (by simp)
  | x :: r, y :: t, hl, hm, p, h5 => by
    have hx : x ∈ y :: t := p.mem_iff.mp List.mem_cons_self
    have hy : y ∈ x :: r := p.mem_iff.mpr List.mem_cons_self
    have le1 : ix x ≤ ix y := by
      rcases List.mem_cons.mp hy with h | h
      · rw [h]; exact Nat.le_refl _
      · exact (List.pairwise_cons.mp hl).1 y h
    have le2 : ix y ≤ ix x := by
      rcases List.mem_cons.mp hx with h | h
      · rw [h]; exact Nat.le_refl _
      · exact (List.pairwise_cons.mp hm).1 x h
    have e : x = y := ix_inj x (h5 x List.mem_cons_self) y (h5 y hy) (by omega)
    subst e
    rw [uniq r t (List.pairwise_cons.mp hl).2 (List.pairwise_cons.mp hm).2 p.cons_inv fun z hz => h5 z (List.mem_cons_of_mem _ hz)]
/-! drawn rules as data -/
theorem Good.dp {md : Str × PyData} (h : Good H v md) : Dp K H v md.2 := by
  obtain ⟨a, k, ts, ods, rfl, h1, h2, h3, h4, h5, h6, h7, h8⟩ := h
  rw [h8]
  refine .tup (SqT.of h1) (.cons (.str _) (.cons (.str _) ?_))
  clear h1 h3 h5 h7 h8
  induction h2 with
  | nil => exact .nil
  | cons r _ ih =>
    refine .cons ?_ ih
    cases r with
    | s x h => exact .str x
    | @t b ys h hy hl =>
      refine .tup (SqT.of h) ?_
      clear h hy hl
      induction ys with
      | nil => exact .nil
      | cons y r ih => exact .cons (.str y) ih
theorem lay_strs : ∀ {ys : List Str}, (∀ y ∈ ys, okS y) → PyData.canLayAll0 (ys.map PyData.str) = true ∧ PyData.depthAll (ys.map PyData.str) ≤ 1
  | [], _ => ⟨rfl, by simp [PyData.depthAll]⟩
  | y :: r, h => by
    obtain ⟨i1, i2⟩ := lay_strs (ys := r) fun z hz => h z (List.mem_cons_of_mem _ hz)
    refine ⟨?_, ?_⟩
    · show (PyData.strOk y && PyData.canLayAll0 (r.map PyData.str)) = true
      rw [(h y List.mem_cons_self).2.1, i1]
      rfl
    · simp only [List.map_cons, PyData.depthAll, PyData.depth] at i2 ⊢
      omega
theorem Good.lay {md : Str × PyData} (h : Good H v md) : md.2.canLay0 = true ∧ md.2.depth ≤ 4 := by
  obtain ⟨a, k, ts, ods, rfl, h1, h2, h3, h4, h5, h6, h7, h8⟩ := h
  rw [h8]
  have rest : PyData.canLayAll0 (ods.map (·.2)) = true ∧ PyData.depthAll (ods.map (·.2)) ≤ 3 := by
    clear h1 h3 h5 h7 h8
    induction h2 with
    | nil => exact ⟨rfl, by simp [PyData.depthAll]⟩
    | cons r _ ih =>
      cases r with
      | s x h =>
        refine ⟨?_, ?_⟩
        · show (PyData.strOk x && PyData.canLayAll0 _) = true
          rw [h.2.1, ih.1]
          rfl
        · have := ih.2
          simp only [List.map_cons, PyData.depthAll, PyData.depth]
          omega
      | @t b ys h hy hl =>
        obtain ⟨l1, l2⟩ := lay_strs hy
        refine ⟨?_, ?_⟩
        · show (PyData.canLayAll0 (ys.map PyData.str) && PyData.canLayAll0 _) = true
          rw [l1, ih.1]
          rfl
        · have := ih.2
          simp only [List.map_cons, PyData.depthAll, PyData.depth]
          omega
  have m1 := (ten_ok _ (five_ten _ h6)).1.2.1
  have k1 := (knds_ok k h4).1.2.1
  refine ⟨?_, ?_⟩
  · show (PyData.strOk md.1 && (PyData.strOk k && PyData.canLayAll0 (ods.map (·.2)))) = true
    rw [m1, k1, rest.1]
    rfl
  · have := rest.2
    simp only [PyData.depthAll, PyData.depth]
    omega
theorem dp_rs {xs : List V} {gs : List (Str × PyData)} (h : Paired (Good H) xs gs) : DpAll K H xs (gs.map (·.2)) := by
  induction h with
  | nil => exact .nil
  | cons r _ ih => exact .cons r.dp ih
theorem lay_rs {xs : List V} {gs : List (Str × PyData)} (h : Paired (Good H) xs gs) : PyData.canLayAll0 (gs.map (·.2)) = true ∧ PyData.depthAll (gs.map (·.2)) ≤ 5 := by
  induction h with
  | nil => exact ⟨rfl, by simp [PyData.depthAll]⟩
  | @cons x g l m r _ ih =>
    obtain ⟨l1, l2⟩ := r.lay
    refine ⟨?_, ?_⟩
    · show (PyData.canLay0 g.2 && PyData.canLayAll0 (m.map (·.2))) = true
      rw [l1, ih.1]
      rfl
    · have := ih.2
      simp only [List.map_cons, PyData.depthAll]
      omega
def dRs (gs : List (Str × PyData)) : PyData := .tuple (gs.map (·.2))
theorem sh_rs {xs : List V} {gs : List (Str × PyData)} (h : Paired (Good H) xs gs) : SeqAt.shaped (dRs gs) = true := by
  obtain ⟨l1, l2⟩ := lay_rs h
  show (PyData.canLayAll0 (gs.map (·.2)) && decide (PyData.depth (.tuple (gs.map (·.2))) ≤ 64)) = true
  rw [l1, decide_eq_true (by simp only [PyData.depth]; omega)]
  rfl
theorem eq_self {d : PyData} (h : SeqAt.shaped d = true) : PyData.eqv d d = true := by
  have h0 : (PyData.canLay0 d && decide (PyData.depth d ≤ 64)) = true := h
  simp only [Bool.and_eq_true] at h0
  exact SeqAt.eqv_refl_plain d (PyData.plain_of_canLay0 d h0.1)
theorem eq_len : ∀ (xs ys : List PyData), xs.length ≠ ys.length → PyData.eqvAll xs ys = false
  | [], [], h => absurd rfl h
  | [], _ :: _, _ => rfl
  | _ :: _, [], _ => rfl
  | x :: xs, y :: ys, h => by
    rw [PyData.eqvAll, eq_len xs ys (by simpa using h), Bool.and_false]
end
end Bl
namespace Bl
open PySem PySem.Spec PyProof.Rows L2 Bk Bm Evl Be Cr Bp TL
/-! where a tuple of rules is wrong -/
theorem way_five : ∀ p ∈ five, ∀ q ∈ five, p ≠ q → way p q = false := by decide +kernel
theorem fb_good : ∀ (ps acc : List Str) (rest : List (Option Str)), (acc ++ ps).Nodup → (∀ z ∈ acc ++ ps, z ∈ five) → fb acc (ps.map some ++ rest) = fb (acc ++ ps) rest
  | [], acc, rest, _, _ => by simp
  | p :: r, acc, rest, nd, h5 => by
    have hn : acc.any (way p) = false := by
      rw [List.any_eq_false]
      intro q hq
      have hp5 := h5 p (List.mem_append_right _ List.mem_cons_self)
      have hq5 := h5 q (List.mem_append_left _ hq)
      have hne : p ≠ q := fun e => by
        subst e
        exact (List.nodup_append.mp nd).2.2 p hq p List.mem_cons_self rfl
      rw [way_five p hp5 q hq5 hne]
      decide
    show (if acc.any (way p) = true then some acc.length else fb (acc ++ [p]) (r.map some ++ rest)) = _
    rw [if_neg (by rw [hn]; decide)]
    have e : acc ++ p :: r = acc ++ [p] ++ r := by simp
    rw [e] at nd h5 ⊢
    exact fb_good r (acc ++ [p]) rest nd h5
section
variable {K : PySem.W.Frag} {H G : Hp} {r : Addr} {v : V}
theorem rs_five {xs : List V} {gs : List (Str × PyData)} (h : Paired (Good H) xs gs) : ∀ z ∈ gs.map (·.1), z ∈ five := by
  induction h with
  | nil => intro z hz; cases hz
  | cons r _ ih =>
    intro z hz
    rcases List.mem_cons.mp hz with rfl | hz
    · obtain ⟨a, k, ts, ods, _, _, _, _, _, _, h6, _⟩ := r
      exact h6
    · exact ih z hz
theorem itr_rs {xs : List V} {gs : List (Str × PyData)} (h : Paired (Good H) xs gs) : Paired (Itr K H) xs (gs.map fun g => some g.1) := by
  induction h with
  | nil => exact .nil
  | cons r _ ih => exact .cons r.itr ih
theorem heads_rs {xs : List V} {gs : List (Str × PyData)} (h : Paired (Good H) xs gs) : Heads H xs (gs.map (·.1)) := by
  induction h with
  | nil => exact .nil
  | cons r _ ih =>
    obtain ⟨a, k, ts, ods, h0, h1, _⟩ := r
    exact .cons ⟨a, _, h0, h1⟩ ih
theorem RsAt.mono {xs : List V} {gs : List (Str × PyData)} (e : Ex H G) (h : RsAt H xs gs) : RsAt G xs gs := ⟨pr_mono h.1 fun _ _ z => z.mono e, h.2⟩
theorem RsAt.dr {xs : List V} {gs : List (Str × PyData)} (h : RsAt H xs gs) (row : Row K H r) (d : Dr K r H G) : RsAt G xs gs := ⟨pr_mono h.1 fun _ _ z => z.dr row d, h.2⟩
/-- drawn rules are good ones -/
theorem rl_good {a : Addr} {xs : List V} {gs : List (Str × PyData)} (ha : H a = some (.tup xs)) (h : RsAt H xs gs) : Rl K H (.ref a) none := by
  obtain ⟨h1, h2, h3⟩ := h
  have hl := pr_len h1
  have t := Rl.tup (K := K) ha (by omega) (itr_rs h1)
  have e : (gs.map fun g => some g.1) = (gs.map (·.1)).map some ++ [] := by simp
  rw [e, fb_good (gs.map (·.1)) [] [] (by simpa using h2) (by simpa using rs_five h1)] at t
  exact t
/-- what breaks a tuple of rules behind those that make ps -/
def Bd (K : PySem.W.Frag) (ps : List Str) (H : Hp) (v : V) : Prop := Itr K H v none ∨ ∃ p, Itr K H v (some p) ∧ ps.any (way p) = true
theorem Bd.mono {ps : List Str} (e : Ex H G) (h : Bd K ps H v) : Bd K ps G v := by
  rcases h with h | ⟨p, h, z⟩
  · exact .inl (h.mono e)
  · exact .inr ⟨p, h.mono e, z⟩
theorem Bd.dr {ps : List Str} (h : Bd K ps H v) (row : Row K H r) (d : Dr K r H G) : Bd K ps G v := by
  rcases h with h | ⟨p, h, z⟩
  · exact .inl (Itr.dr h row d)
  · exact .inr ⟨p, Itr.dr h row d, z⟩
theorem Bd.kp {ps : List Str} {xs0 ys0 : List V} (h : Bd K ps H v) (hr : H r = some (.lst xs0)) (hx0 : xs0.length ≠ 1) (hr' : G r = some (.lst ys0)) (kp : Kp r H G) : Bd K ps G v := by
  rcases h with h | ⟨p, h, z⟩
  · exact .inl (Itr.kp h hr hx0 hr' kp)
  · exact .inr ⟨p, Itr.kp h hr hx0 hr' kp, z⟩
theorem rl_bad {a : Addr} {xs : List V} {gs : List (Str × PyData)} {i : Nat} (h : RsAt H xs gs) (hi : i ≤ gs.length) (hb : Bd K ((gs.map (·.1)).take i) H v) (ha : H a = some (.tup (xs.take i ++ [v] ++ xs.drop i))) : Rl K H (.ref a) (some (.int (i : Int))) := by
  obtain ⟨h1, h2, h3⟩ := h
  have hl := pr_len h1
  obtain ⟨o, ho, hx⟩ : ∃ o, Itr K H v o ∧ ∀ rest, fb ((gs.map (·.1)).take i) (o :: rest) = some i := by
    have hlen : ((gs.map (·.1)).take i).length = i := by rw [List.length_take, List.length_map]; omega
    rcases hb with hb | ⟨p, hb, z⟩
    · exact ⟨none, hb, fun rest => by show some _ = some i; rw [hlen]⟩
    · refine ⟨some p, hb, fun rest => ?_⟩
      show (if ((gs.map (·.1)).take i).any (way p) = true then some _ else _) = some i
      rw [if_pos z, hlen]
  have it := itr_rs (K := K) h1
  have t := Rl.tup (K := K) (os := (gs.map fun g => some g.1).take i ++ [o] ++ (gs.map fun g => some g.1).drop i) ha (by
    simp only [List.length_append, List.length_take, List.length_drop, List.length_singleton]
    omega) (pr_app (pr_app (pr_take it i) (.cons ho .nil)) (pr_drop it i))
  have e : (gs.map fun g => some g.1).take i = ((gs.map (·.1)).take i).map some := by rw [← List.map_take, ← List.map_take, List.map_map]; rfl
  have nd : ((gs.map (·.1)).take i).Nodup := h2.sublist (List.take_sublist _ _)
  have h5 : ∀ z ∈ (gs.map (·.1)).take i, z ∈ five := fun z hz => rs_five h1 z (List.mem_of_mem_take hz)
  have e2 : fb [] ((gs.map fun g => some g.1).take i ++ [o] ++ (gs.map fun g => some g.1).drop i) = some i := by
    rw [e, List.append_assoc, fb_good _ [] _ (by simpa using nd) (by simpa using h5)]
    exact hx _
  rw [e2] at t
  exact t
end
section
variable {X : Cx} {CX : CXT} {k : Nat} {f C : Addr} {fd : FuncData} {ps : List Str} {sp : Sp} {E : L2.St → XK} {x : Str} {p pos : Pos} {e : Expr} {es : List Expr} {t : TA}
/-- C(e, ..) within a try -/
def tMakeS (C : Addr) (sp : Sp) (E : L2.St → XK) (t : TA) : TE := fun τ G Q => t τ G fun vs G1 => ∀ y dy, G1 y = none → G1 dy = none → dy ≠ y → sp (.ref y :: vs) (upd (upd G1 dy (.own y)) y (.ins C dy [])) (fun v G2 => v = .non ∧ Q (.ref y) G2) (E τ)
theorem make_run {pins : List (Addr × Obj)} {τ : L2.St} {G : Hp} {s : Shared} {Q : VK} {us : List Value} {vs : List V} (mk : Mk X.K C f) (fo : FnOk X.prog X.w X.K X.mg X.base CX k f fd ps sp) (hr : Room (k + 1) X.A) (hb : Binds X.K fd ps [])
    (ha : PassesAt CX X τ (E τ)) (J : Inv X pins τ G s) (rv : Vals vs us)
    (h : ∀ y dy, G y = none → G dy = none → dy ≠ y → sp (.ref y :: vs) (upd (upd G dy (.own y)) y (.ins C dy [])) (fun v G2 => v = .non ∧ Q (.ref y) G2) (E τ)) : wpAny (model X.prog X.w) X.A (call (.ref C) us) (EP X pins τ Q) X.xe s := by
  have promised := h (s.heap.objs.size + 1) s.heap.objs.size (J.hok.fresh (Nat.le_succ _)) (J.hok.fresh (Nat.le_refl _)) (Nat.ne_of_lt (Nat.lt_succ_self _))
  have J2 := Inv.made (C := C) J
  have all : Vals (V.ref (s.heap.objs.size + 1) :: vs) (Value.ref (s.heap.objs.size + 1) :: us) := .cons rfl rv
  have count : (Value.ref (s.heap.objs.size + 1) :: us).length = ps.length := by
    have c1 := all.length
    rw [fo.len _ _ _ _ promised] at c1
    exact c1.symm
  have bound := hb _ (Value.ref (s.heap.objs.size + 1) :: us) J2.kIn (by rw [List.append_nil]; exact count)
  rw [List.append_nil] at bound
  refine wpAny_call (make_map (f := f) J.kIn mk.makes mk.init (beq_iff_eq.mp mk.fn) (codeAny_mono (fo.run _ X.stack _ _ ⟨Value.ref (s.heap.objs.size + 1) :: us, []⟩ (Value.ref (s.heap.objs.size + 1) :: us) _ _ (E τ) (hr.make C us []) (J2.env0.make C us []) bound all promised) fun out s' got => ?_))
  cases out with
  | error er => exact ha pins _ _ er s' J2 got
  | ok fl =>
    cases fl with
    | ret u =>
      obtain ⟨v, G3, J3, ru, rfl, q3⟩ := J2.after got
      exact ⟨ru, ⟨V.ref (s.heap.objs.size + 1), G3, J3, rfl, q3⟩⟩
    | next => exact got.elim
    | brk => exact got.elim
    | cont => exact got.elim
theorem pe_makeS (mk : Mk X.K C f) (fo : FnOk X.prog X.w X.K X.mg X.base CX k f fd ps sp) (hr : Room (k + 1) X.A) (hg : Gl X x) (hm : X.mg x = some (.ref C)) (hb : Binds X.K fd ps []) (ha : ∀ τ, PassesAt CX X τ (E τ)) (hs : PA X (e :: es) t)
    (hdb : (x == ("__debug__" : Str)) = false := by decide) (h1 : starEach (e :: es) X.env = (false, eval e X.env) :: starEach es X.env := by rfl) (h2 : (backTo pos (starEach es X.env)).any (·.1) = false := by rfl) :
    PE X (.Call (.Name x p) (e :: es) [] pos) (tMakeS C sp E t) := by
  refine ⟨fun pins s τ G Q J h => wpAny_Call_Name_kw (ld_glob J hg hm (PySem.W.callWith_K (h₀ := X.base) J.ok.mod.kin mk.kp (thn (hs.run pos pins s τ G _ J h) fun us s1 got => ?_) h1 h2) hdb)⟩
  obtain ⟨vs, G1, J1, rv, q⟩ := got
  exact ⟨J1.kIn, make_run mk fo hr hb (ha τ) J1 rv q⟩
end
section
variable {P : Program} {w : World} {K : PySem.W.Frag} {mg : Str → Option Value} {base : Heap} {C fI pR fG fL fE : Addr}
end
end Bl
namespace Bt
open PySem PySem.Spec PyProof.Rows L2 Bk Bm Evl Be Cr Bp Bl TL
abbrev sIsFile : Stmt := top 44
abbrev sFollow : Stmt := top 45
section
variable {H H' : Hp} {K : PySem.W.Frag} {v : V}
end
/-- what is_file says of a thing -/
inductive Fil (K : PySem.W.Frag) (H : Hp) : V → Bool → Prop
  | no {v : V} {n : String} (k : Kd K H v n) (h : n ≠ "tuple") : Fil K H v false
  | len {a : Addr} {xs : List V} (h : H a = some (.tup xs)) (hl : xs.length ≠ 2) (hz : xs.length ≤ 1000) : Fil K H (.ref a) false
  | two {a : Addr} {u w : V} (h : H a = some (.tup [u, w])) (hu : Sm H u) (hw : Sm H w) : Fil K H (.ref a) (isPathV u && isTextV w)
theorem Fil.mono {K : PySem.W.Frag} {H H' : Hp} {v : V} {b : Bool} (e : Ex H H') (h : Fil K H v b) : Fil K H' v b := by
  cases h with
  | no k h => exact .no (k.mono e) h
  | len h hl hz => exact .len (e _ _ h) hl hz
  | two h hu hw => exact .two (e _ _ h) (hu.mono e) (hw.mono e)
section
variable {P : Program} {w : World} {K : PySem.W.Frag} {mg : Str → Option Value} {base : Heap}
/-! ### is_folder -/
/-! ### is_file -/
theorem scFile : FnScope ["value"] ["value"] (defScope sIsFile) := ⟨rfl, rfl, rfl, by decide +kernel, rfl, by decide +kernel, by decide +kernel⟩
def spFile : Sp := fun vs H Q _ => ∃ v b, vs = [v] ∧ Fil K H v b ∧ RetV (.bl b) H Q
theorem kd_tupX {H : Hp} {a : Addr} {n : String} {xs : List V} (h : H a = some (.tup xs)) (k : Kd K H (.ref a) n) (hk : n ≠ "tuple") : K.lookup a ≠ none := by
  obtain ⟨t, _⟩ := k
  intro hn
  cases t with
  | base t =>
    cases t with
    | lst e => rw [h] at e; cases e
    | frz e => rw [h] at e; cases e
    | tup e => exact hk rfl
    | dK e => rw [h] at e; cases e
    | dT e => rw [h] at e; cases e
  | set e => rw [h] at e; cases e
  | kList e c => rw [hn] at e; cases e
  | kTuple e c => exact hk rfl
  | kDict e c => rw [hn] at e; cases e
  | fTuple e => exact hk rfl
  | fDict e => rw [h] at e; cases e
theorem ok_file {f : Addr} {fd : FuncData} (F : Fun K "is_file" "is_file" sIsFile f fd) (T : Gv mg) (cP : Cal P w K mg base CX0 2 "is_path" ["value"] (spPath (K := K))) (cT : Cal P w K mg base CX0 2 "is_text" ["value"] (spText (K := K))) :
    FnOk P w K mg base CX0 3 f fd ["value"] (spFile (K := K)) := by
  refine F.ok scFile (fun vs H Q E h => ?_) (fun cdv A outer s H vs Q E hr h => ?_)
  · obtain ⟨x, b, rfl, _⟩ := h
    rfl
  · obtain ⟨v, b, rfl, fi, k⟩ := h
    refine ⟨_, pss_one (ps_ret (pe_and (pe_callB call_isi (by rfl) T.isi boot_isinstance (pa_cons (pv 0) (pa_cons (pe_bltn (v := .ty "tuple") (by rfl) T.tup (by decide +kernel) rfl) pa_nil)))
      (pe_and (pe_cmpR op_eq (pe_callB call_len_seq (by rfl) T.len PySem.boot_len (pa_cons (pv 0) pa_nil)) pe_int (nomark _))
      (pe_and (pe_call cP.F hr (by rfl) cP.g cP.kp cP.b .nil pass0 (pa_cons (pe_ix ix_tup (pv 0) pe_int (fun _ _ => rfl)) pa_nil))
      (pe_one (pe_call cT.F (hr.mono (by decide)) (by rfl) cT.g cT.kp cT.b .nil pass0 (pa_cons (pe_ix ix_tup (pv 0) pe_int (fun _ _ => rfl)) pa_nil))))))), ?_⟩
    refine s_ret (v := .bl b) ?_ k
    cases fi with
    | no kd hn =>
      have e : decide (_ = "tuple") = false := decide_eq_false hn
      exact ev_is (ev_and (b := false) (ev_isi (ev_var rfl) ev_c kd (.inr rfl)) (fun h => by rw [e] at h; cases h)) (by rw [e]; rfl)
    | @len a xs h hl hz =>
      refine ev_is (ev_and (a := true) (b := false) (ev_is (ev_isi (ev_var rfl) ev_c (kd_tup h) (.inr rfl)) rfl) fun _ => ?_) rfl
      have e : decide (V.int (xs.length : Int) = V.int 2) = false := decide_eq_false (fun z => by injection z with z; omega)
      exact ev_is (ev_and (b := false) (ev_is (ev_op (ev_lenT (ev_var rfl) (st_of h)) ev_c (rv_eq rfl)) (by rw [e])) (fun h => by cases h)) rfl
    | @two a u wv h hu hw =>
      refine ev_is (ev_and (a := true) (b := isPathV u && isTextV wv) (ev_is (ev_isi (ev_var rfl) ev_c (kd_tup h) (.inr rfl)) rfl) fun _ => ?_) (by simp)
      refine ev_is (ev_and (a := true) (b := isPathV u && isTextV wv) (ev_is (ev_op (ev_lenT (ev_var rfl) (st_of h)) ev_c (rv_eq rfl)) rfl) fun _ => ?_) (by simp)
      refine ev_and (ev_call (ea_cons (ev_op (ev_var rfl) ev_c (rv_ixT (st_of h) rfl)) ea_nil) (spv_path hu)) fun _ => ?_
      exact ev_call (ea_cons (ev_op (ev_var rfl) ev_c (rv_ixT (st_of h) rfl)) ea_nil) (spv_text hw)
end
end Bt
namespace Bt
open PySem PySem.Spec PyProof.Rows L2 Bk Bm Evl Be Cr Bp Bl TL
abbrev Fl := Str × Str
/-- a pair (path, text) stands at v -/
def FileAt (H : Hp) (v : V) (f : Fl) : Prop := ∃ b, v = .ref b ∧ H b = some (.tup [.str f.1, .str f.2])
theorem FileAt.mono {H H' : Hp} {v : V} {f : Fl} (e : Ex H H') (h : FileAt H v f) : FileAt H' v f := by
  obtain ⟨b, hv, hb⟩ := h
  exact ⟨b, hv, e _ _ hb⟩
def okF (f : Fl) : Prop := f.1.length ≤ 1000 ∧ f.2.length ≤ 1000 ∧ PyData.strOk f.1 = true ∧ PyData.strOk f.2 = true
theorem paired_mono {α β : Type} {F G : α → β → Prop} {l : List α} {m : List β} (h : Paired F l m) (f : ∀ a b, F a b → G a b) : Paired G l m := by
  induction h with
  | nil => exact .nil
  | cons r _ ih => exact .cons (f _ _ r) ih
theorem paired_mem {α β : Type} {F : α → β → Prop} {l : List α} {m : List β} (h : Paired F l m) {x : α} (hx : x ∈ l) : ∃ y ∈ m, F x y := by
  induction h with
  | nil => cases hx
  | cons r _ ih =>
    rcases List.mem_cons.mp hx with rfl | hx
    · exact ⟨_, List.mem_cons_self, r⟩
    · obtain ⟨y, hy, q⟩ := ih hx
      exact ⟨y, List.mem_cons_of_mem _ hy, q⟩
theorem paired_take {α β : Type} {F : α → β → Prop} {l : List α} {m : List β} (h : Paired F l m) : ∀ n, Paired F (l.take n) (m.take n) := by
  induction h with
  | nil => intro n; simp; exact .nil
  | cons r _ ih =>
    intro n
    cases n with
    | zero => exact .nil
    | succ n => exact .cons r (ih n)
theorem paired_len {α β : Type} {F : α → β → Prop} {l : List α} {m : List β} (h : Paired F l m) : l.length = m.length := by
  induction h with
  | nil => rfl
  | cons r _ ih => simp [ih]
theorem paired_get {α β : Type} {F : α → β → Prop} {l : List α} {m : List β} (h : Paired F l m) : ∀ {i : Nat} {x : α}, l[i]? = some x → ∃ y, m[i]? = some y ∧ F x y := by
  induction h with
  | nil => intro i x e; simp at e
  | cons r _ ih =>
    intro i x e
    cases i with
    | zero =>
      have e' := Option.some.inj e
      subst e'
      exact ⟨_, rfl, r⟩
    | succ i => exact ih (i := i) e
theorem paired_append {α β : Type} {F : α → β → Prop} {l l' : List α} {m m' : List β} (h : Paired F l m) (h' : Paired F l' m') : Paired F (l ++ l') (m ++ m') := by
  induction h with
  | nil => exact h'
  | cons r _ ih => exact .cons r ih
def dF (f : Fl) : PyData := .tuple [.str f.1, .str f.2]
theorem dp_files {K : PySem.W.Frag} {H : Hp} {xs : List V} {fs : List Fl} (h : Paired (FileAt H) xs fs) : DpAll K H xs (fs.map dF) := by
  induction h with
  | nil => exact .nil
  | cons r _ ih =>
    obtain ⟨b, rfl, hb⟩ := r
    exact .cons (.tup (SqT.of hb) (.cons (.str _) (.cons (.str _) .nil))) ih
theorem can_files : ∀ {fs : List Fl}, (∀ f ∈ fs, okF f) → PyData.canLayAll0 (fs.map dF) = true
  | [], _ => rfl
  | f :: r, h => by
    have h1 := h f List.mem_cons_self
    have ih := can_files (fs := r) fun g hg => h g (List.mem_cons_of_mem _ hg)
    show (PyData.canLay0 (dF f) && PyData.canLayAll0 (r.map dF)) = true
    rw [ih, Bool.and_true]
    show ((PyData.strOk f.1) && ((PyData.strOk f.2) && true)) = true
    rw [h1.2.2.1, h1.2.2.2]
    rfl
theorem depth_files : ∀ {fs : List Fl}, PyData.depthAll (fs.map dF) ≤ 3
  | [] => by simp [PyData.depthAll]
  | f :: r => by
    have ih := depth_files (fs := r)
    simp only [List.map_cons, PyData.depthAll, dF, PyData.depth] at ih ⊢
    omega
theorem shaped_files {fs : List Fl} (h : ∀ f ∈ fs, okF f) : SeqAt.shaped (.tuple (fs.map dF)) = true := by
  have h1 := can_files h
  have h2 := depth_files (fs := fs)
  have h3 : PyData.depth (.tuple (fs.map dF)) ≤ 64 := by
    simp only [PyData.depth]
    omega
  show (PyData.canLayAll0 (fs.map dF) && decide (PyData.depth (.tuple (fs.map dF)) ≤ 64)) = true
  rw [h1, decide_eq_true h3]
  rfl
/-- may the path stand behind these files -/
def follow (p : Str) (fs : List Fl) : Bool := match fs.getLast? with
  | none => true
  | some l => decide (l.1.cps.toList < p.cps.toList) && !(fs.any fun f => within p f.1)
section
variable {P : Program} {w : World} {K : PySem.W.Frag} {mg : Str → Option Value} {base : Heap}
theorem scFollow : FnScope ["path", "files", "file"] ["path", "files"] (defScope sFollow) := ⟨rfl, rfl, rfl, by decide +kernel, rfl, by decide +kernel, by decide +kernel⟩
def spFollow : Sp := fun vs H Q _ => ∃ p a xs fs, vs = [.str p, .ref a] ∧ SqT K H a xs ∧ Paired (FileAt H) xs fs ∧ (∀ f ∈ fs, okF f) ∧ p.length ≤ 1000 ∧ fs.length ≤ 1000 ∧ RetV (.bl (follow p fs)) H Q
theorem ok_follow {f : Addr} {fd : FuncData} (F : Fun K "may_follow" "may_follow" sFollow f fd) (T : Gv mg) (cL : Cal P w K mg base CX0 1 "lies_within" ["path", "folder"] spLies) :
    FnOk P w K mg base CX0 2 f fd ["path", "files"] (spFollow (K := K)) := by
  refine F.ok scFollow (fun vs H Q E h => ?_) (fun cdv A outer s H vs Q E hr h => ?_)
  · obtain ⟨p, a, xs, fs, rfl, _⟩ := h
    rfl
  · obtain ⟨p, a, xs, fs, rfl, hx, hp, hok, hl, hn, k⟩ := h
    have hu : (A.deeper (envOfC "may_follow" (defScope sFollow) s.heap.objs.size f cdv)).units + 64 < cLine := by have := hr.un; omega
    refine ⟨_, pss_cons (ps_if (pt_cmpR (op_eqD hu) (pv 1) (pe_tup pa_nil) (nomark _)) (pss_one (ps_ret pe_bl)) pss_nil)
      (pss_one (ps_ret (pe_and (pe_cmpR op_gt_str (pv 0) (pe_ix ix_tup (pe_ix ix_tup (pv 1) (pe_un un_neg pe_int) (fun _ _ => rfl)) pe_int (fun _ _ => rfl)) (nomark _))
        (pe_one (pe_not (pe_callB (cr_any rfl) (by rfl) T.any boot_any (pa_cons (pe_lc (own := [("file", 2)]) (g := gName 2) (tt := tYes) rfl scFollow.nd (pi_tup (pv 1)) (blkOk_by (N := ["path", "files", "file"]) (sc := defScope sFollow) (by decide +kernel))
          (fun _ _ _ _ _ => pg_name (i := 2) scFollow.nd rfl (Or.inl rfl)) (fun _ _ _ _ _ => pts_nil)
          (fun _ _ _ _ _ => pe_call cL.F hr rfl cL.g cL.kp cL.b .nil pass0 (pa_cons (pv 0) (pa_cons (pe_ix (r := rIxT K) ix_tup (pv 2) pe_int (fun _ _ => rfl)) pa_nil)))) pa_nil))))))), ?_⟩
    have test : EvT (tTest (tOp (rEqD K) (tVar 1) (tTup tNil))) (L2.start ["path", "files", "file"] [.str p, .ref a]) H (PyData.eqv (.tuple (fs.map dF)) (.tuple [])) :=
      et_test (ev_opU (ev_var rfl) (eu_tup ea_nil (by decide)) fun q H1 hq e1 H2 e2 Q' q' => ⟨.tuple (fs.map dF), .tuple [], .tup (ex_t (e1.trans e2) hx) (dp_files (paired_mono hp fun _ _ r => r.mono (e1.trans e2))), .tup (st_of (e2 _ _ hq)) .nil, shaped_files hok, by decide +kernel, q' H2 (Ex.refl _)⟩)
    refine q_when test (fun hb H1 e1 => ?_) (fun hb H1 e1 => ?_)
    · have hf : fs = [] := by
        cases fs with
        | nil => rfl
        | cons g r => simp [PyData.eqv, PyData.eqvAll] at hb
      subst hf
      exact s_ret (v := .bl true) ev_c fun H2 e2 => k H2 (e1.trans e2)
    · have hne : fs ≠ [] := fun z => by
        subst z
        simp [PyData.eqv, PyData.eqvAll] at hb
      obtain ⟨gs, g, rfl⟩ : ∃ gs g, fs = gs ++ [g] := ⟨fs.dropLast, fs.getLast hne, (List.dropLast_concat_getLast hne).symm⟩
      have hfol : follow p (gs ++ [g]) = (decide (g.1.cps.toList < p.cps.toList) && !((gs ++ [g]).any fun f => within p f.1)) := by
        unfold follow
        rw [List.getLast?_append]
        rfl
      have hlen := paired_len hp
      have hxg : xs[xs.length - 1]? = some (xs.getD (xs.length - 1) .non) := by
        rw [List.getD_eq_getElem?_getD]
        have : xs.length - 1 < xs.length := by rw [hlen]; simp
        rw [List.getElem?_eq_getElem this]
        rfl
      obtain ⟨y, hy, b, hb1, hb2⟩ := paired_get hp hxg
      have ey : y = g := by
        rw [hlen, List.length_append] at hy
        simp at hy
        exact hy.symm
      subst ey
      have hat : atI xs (-1) = some (.ref b) := by
        unfold atI ixN
        have h0 : 0 < xs.length := by rw [hlen]; simp
        rw [if_neg (by decide), if_pos (by omega)]
        have e1 : ((-1 : Int) + (xs.length : Int)).toNat = xs.length - 1 := by omega
        show xs[((-1 : Int) + (xs.length : Int)).toNat]? = _
        rw [e1, hxg, hb1]
      refine s_ret (v := .bl (follow p (gs ++ [y]))) ?_ fun H2 e2 => k H2 (e1.trans e2)
      rw [hfol]
      refine ev_and (ev_op (ev_var rfl) (ev_op (ev_op (ev_var rfl) (ev_un ev_c ru_neg) (rv_ixT (ex_t e1 hx) hat)) ev_c (rv_ixT (st_of (e1 _ _ hb2)) rfl)) rv_gtS) fun _ => ?_
      refine ev_notV (ev_is (ev_any (bs := (gs ++ [y]).map fun f => within p f.1) (fun H2 e2 Q2 q2 => ?_)) ?_)
      · have big := el_lcT (K := K) (σ := L2.start ["path", "files", "file"] [.str p, .ref a]) (H := H1) (j := 2) (te := tCall spLies [] E0 (tCons (tVar 0) (tCons (tOp (rIxT K) (tVar 2) (tC (.int 0))) tNil)))
          (fun v => match v with | .ref c => (match H c with | some (.tup (.str z :: _)) => .bl (within p z) | _ => .non) | _ => .non) (ev_var (i := 1) (v := .ref a) rfl) (ex_t e1 hx) (by rw [hlen]; omega) (fun x H3 e3 hx3 => ?_)
        · refine ev_isL big ?_ H2 e2 Q2 q2
          have hmap : ∀ {xs : List V} {fs : List Fl}, Paired (FileAt H) xs fs → xs.map (fun v => match v with | .ref c => (match H c with | some (.tup (.str z :: _)) => V.bl (within p z) | _ => .non) | _ => .non) = (fs.map fun f => within p f.1).map V.bl := by
            intro xs fs h
            induction h with
            | nil => rfl
            | cons r _ ih =>
              obtain ⟨c, rfl, hc⟩ := r
              simp only [List.map_cons, ih, hc]
          exact hmap hp
        · obtain ⟨f, hf, c, rfl, hc⟩ := paired_mem hp hx3
          have hcc := e3 _ _ (e1 _ _ hc)
          simp only [hc]
          exact ev_call (ea_cons (ev_var rfl) (ea_cons (ev_op (ev_var rfl) ev_c (rv_ixT (st_of hcc) rfl)) ea_nil)) fun H5 e5 Q' q' E' => ⟨p, f.1, rfl, Nat.le_trans (hok f hf).1 (by decide), q'⟩
      · simp
end
end Bt
namespace Bt
open PySem PySem.Spec PyProof.Rows L2 Bk Bm Evl Be Cr Bp Bl TL
section
variable {X : Cx} {C : Addr} {x : Str} {p pos : Pos}
end
section
variable {P : Program} {w : World} {K : PySem.W.Frag} {mg : Str → Option Value} {base : Heap}
/-! ### BadTree: its __init__ -/
abbrev sBtI : Stmt := inClass (top 6) 0
theorem scBtI : FnScope ["self", "index"] ["self", "index"] (defScope sBtI) := ⟨rfl, rfl, rfl, by decide +kernel, rfl, by decide +kernel, by decide +kernel⟩
theorem ok_btI {f C : Addr} {fd : FuncData} {q : Str} (F : Fun K "__init__" q sBtI f fd) : FnOk P w K mg base CX0 1 f fd ["self", "index"] (spXi K C) := by
  refine F.ok scBtI (fun vs H Q E h => ?_) (fun cdv A outer s H vs Q E hr h => ?_)
  · obtain ⟨x, v, rfl, _⟩ := h
    rfl
  · obtain ⟨a, v, rfl, ha, o, n, k⟩ := h
    refine ⟨_, pss_one (ps_ost (pv 0) (pv 1)), ?_⟩
    exact ⟨_, rfl, _, rfl, a, C, rfl, o, n, .inl ⟨ha, fun dx hd hne => k dx hd hne⟩⟩
end
end Bt
namespace Bt
open PySem PySem.Spec PyProof.Rows L2 Bk Bm Evl Be Cr Bp Bl TL
abbrev sCkTree : Stmt := top 49
/-- what an item of a tuple is: a file, or none -/
def Itm (K : PySem.W.Frag) (H : Hp) (v : V) : Option Fl → Prop
  | some f => FileAt H v f ∧ okF f ∧ (pathB f.1 && textB f.2) = true
  | none => Fil K H v false
theorem Itm.mono {K : PySem.W.Frag} {H H' : Hp} {v : V} {o : Option Fl} (e : Ex H H') (h : Itm K H v o) : Itm K H' v o := by
  cases o with
  | some f => exact ⟨h.1.mono e, h.2⟩
  | none => exact Fil.mono e h
theorem Itm.fil {K : PySem.W.Frag} {H : Hp} {v : V} {o : Option Fl} (h : Itm K H v o) : Fil K H v o.isSome := by
  cases o with
  | some f =>
    obtain ⟨⟨b, rfl, hb⟩, hk, hp⟩ := h
    have r := Fil.two (K := K) hb (Sm.str f.1 hk.1) (Sm.str f.2 hk.2.1)
    have e : (isPathV (.str f.1) && isTextV (.str f.2)) = true := hp
    rw [e] at r
    exact r
  | none => exact h
/-- the first place that is wrong -/
def fb : List Fl → List (Option Fl) → Option Nat
  | _, [] => none
  | acc, none :: _ => some acc.length
  | acc, some f :: r => if follow f.1 acc = true then fb (acc ++ [f]) r else some acc.length
section
variable {P : Program} {w : World} {K : PySem.W.Frag} {mg : Str → Option Value} {base : Heap}
theorem scCkTree : FnScope ["value", "index", "thing"] ["value"] (defScope sCkTree) := ⟨rfl, rfl, rfl, by decide +kernel, rfl, by decide +kernel, by decide +kernel⟩
/-- a tuple, fresh or known to be plain -/
def IsTU (o : HO) (xs : List V) : Prop := o = .tup xs ∨ ∃ b, o = .frz b (.tup xs)
theorem IsTU.st {K : PySem.W.Frag} {H : Hp} {a : Addr} {o : HO} {xs : List V} (h : IsTU o xs) (ha : H a = some o) : SqT K H a xs := by
  rcases h with rfl | ⟨b, rfl⟩
  · exact .inl (.inl ha)
  · exact .inl (.inr ⟨b, ha⟩)
theorem IsTU.kd {K : PySem.W.Frag} {H : Hp} {a : Addr} {o : HO} {xs : List V} (h : IsTU o xs) (ha : H a = some o) : Kd K H (.ref a) "tuple" := by
  rcases h with rfl | ⟨b, rfl⟩
  · exact kd_tup ha
  · exact ⟨.fTuple ha, by decide⟩
theorem IsTU.nl {o : HO} {xs : List V} (h : IsTU o xs) (ys : List V) : o ≠ .lst ys := by
  rcases h with rfl | ⟨b, rfl⟩ <;> (intro z; cases z)
/-- what is handed to check_tree: no tuple (of few things), or a tuple of items -/
inductive Tr (K : PySem.W.Frag) (H : Hp) : V → Option V → Prop
  | no {v : V} {n : String} (k : Kd K H v n) (h : n ≠ "tuple") : Tr K H v (some .non)
  | big {a : Addr} {xs : List V} (h : H a = some (.tup xs)) (hl : 20 < xs.length) : Tr K H (.ref a) (some .non)
  | tup {a : Addr} {o : HO} {xs : List V} {os : List (Option Fl)} (h : H a = some o) (hc : IsTU o xs) (hl : xs.length ≤ 20) (hp : Paired (Itm K H) xs os) : Tr K H (.ref a) ((fb [] os).map fun i => V.int ((i : Nat) : Int))
theorem Tr.mono {H H' : Hp} {v : V} {o : Option V} (e : Ex H H') (h : Tr K H v o) : Tr K H' v o := by
  cases h with
  | no k h => exact .no (k.mono e) h
  | big h hl => exact .big (e _ _ h) hl
  | tup h hc hl hp => exact .tup (e _ _ h) hc hl (paired_mono hp fun _ _ r => r.mono e)
def spCkTree (C : Addr) : Sp := fun vs H Q E => ∃ v o, vs = [v] ∧ Tr K H v o ∧ (o = none → RetV .non H Q) ∧ (∀ u, o = some u → RaiseI C u H E)
theorem ok_ckTree {f C fI : Addr} {fd fdI : FuncData} (F : Fun K "check_tree" "check_tree" sCkTree f fd) (T : Gv mg) (c : Xi K mg "BadTree" C fI) (FI : FnOk P w K mg base CX0 1 fI fdI ["self", "index"] (spXi K C)) (bI : Binds K fdI ["self", "index"] [])
    (cF : Cal P w K mg base CX0 3 "is_file" ["value"] (spFile (K := K))) (cM : Cal P w K mg base CX0 2 "may_follow" ["path", "files"] (spFollow (K := K))) : FnOk P w K mg base (L2.CX P w) 4 f fd ["value"] (spCkTree (K := K) C) := by
  refine F.okX scCkTree (fun vs H Q E h => ?_) (fun cdv A outer s H vs Q E hr h => ?_)
  · obtain ⟨x, o, rfl, _⟩ := h
    rfl
  · obtain ⟨v, o, rfl, tr, k1, k2⟩ := h
    obtain ⟨t1, m1⟩ := T.mf
    refine ⟨_, pss_cons (ps_if (pw_or (pt_not (pt_val (pe_callB call_isi (by rfl) T.isi boot_isinstance (pa_cons (pv 0) (pa_cons (pe_bltn (v := .ty "tuple") (by rfl) T.tup (by decide +kernel) rfl) pa_nil)))))
        (pw_or1 (pt_cmpR op_gt (pe_callB call_len_seq (by rfl) T.len PySem.boot_len (pa_cons (pv 0) pa_nil)) (pe_glob (v := .int 20) (by rfl) m1 ⟨_, rfl⟩) (nomark _)))).pt
        (pss_one (ps_raise rfl (takes_of rfl rfl rfl rfl) (pmk_xi c FI bI hr (by decide) (by rfl) pe_non))) pss_nil)
      (pss_one (ps_for (passes_of rfl) rfl (pi_enumT (by rfl) T.enu (pa_cons (pv 0) pa_nil)) (pg_tup rfl (pgs_cons (pg_name (i := 1) scCkTree.nd rfl (Or.inl rfl)) (pgs_cons (pg_name (i := 2) scCkTree.nd rfl (Or.inl rfl)) pgs_nil)))
        (pss_one (ps_if (pw_or (pt_not (pt_val (pe_call cF.F hr (by rfl) cF.g cF.kp cF.b .nil pass0 (pa_cons (pv 2) pa_nil))))
          (pw_or1 (pt_not (pt_val (pe_call cM.F (hr.mono (by decide)) (by rfl) cM.g cM.kp cM.b .nil pass0 (pa_cons (pe_ix ix_tup (pv 2) pe_int (fun _ _ => rfl)) (pa_cons (pe_slice sl_tupA (pv 0) po_none (po_some (pv 1))) pa_nil))))))).pt
          (pss_one (ps_raise rfl (takes_of rfl rfl rfl rfl) (pmk_xi c FI bI hr (by decide) (by rfl) (pv 1)))) pss_nil)))), ?_⟩
    cases tr with
    | no kd hn =>
      refine q_when (b := true) (et_is (et_or (b := true) (et_not (et_B (ev_isi (ev_var rfl) ev_c kd (.inr rfl)))) fun hb => ?_) ?_) (fun _ H1 e1 => ?_) (fun hb => by cases hb)
      · simp [hn] at hb
      · simp [hn]
      · exact xi_make c ev_c (RaiseI.go (k2 _ rfl) e1)
    | @big a xs h hl =>
      refine q_when (b := true) (et_is (et_or (b := true) (et_not (et_B (ev_isi (ev_var rfl) ev_c (kd_tup h) (.inr rfl)))) fun hb => ?_) (by simp)) (fun _ H1 e1 => ?_) (fun hb => by cases hb)
      · exact et_is (et_test (ev_op (ev_lenT (ev_var rfl) (st_of h)) ev_c rv_I0)) (by simp; omega)
      · exact xi_make c ev_c (RaiseI.go (k2 _ rfl) e1)
    | @tup a ho xs os h hc hl hp =>
      refine q_when (b := false) (et_is (et_or (b := false) (et_not (et_B (ev_isi (ev_var rfl) ev_c (hc.kd h) (.inr rfl)))) fun hb => ?_) (by simp)) (fun hb => by cases hb) (fun _ H1 e1 => ?_)
      · exact et_is (et_test (ev_op (ev_lenT (ev_var rfl) (hc.st h)) ev_c rv_I0)) (by simp; omega)
      · refine ⟨_, rfl, a, xs, rfl, hc.st (e1 _ _ h), for_enumT (K := K) (a := a) (xs := xs) (fun i τ G => ∃ (u v : Option V) (fs : List Fl), τ = [some (.ref a), u, v] ∧ Ex H G ∧ fs.length = i ∧ os.take i = fs.map some ∧ fb [] os = fb fs (os.drop i))
          ⟨none, none, [], rfl, e1, rfl, rfl, rfl⟩ (fun i τ G _ q => by obtain ⟨_, _, _, _, q, _⟩ := q; exact hc.st (q _ _ h)) ?_ ?_⟩
        · rintro i x τ G T0 hi ⟨u, v, fs, rfl, eG, hfl, htk, hfb⟩ hT
          obtain ⟨o, ho, it⟩ := paired_get hp hi
          have hdr : os.drop i = o :: os.drop (i + 1) := by
            obtain ⟨hh, e⟩ := List.getElem?_eq_some_iff.mp ho
            rw [List.drop_eq_getElem_cons hh, e]
          rw [hdr] at hfb
          have e2 : Ex H (upd G T0 (.tup [.int (i : Nat), x])) := eG.trans (Ex.new hT)
          have hix : i ≤ xs.length := Nat.le_of_lt (List.getElem?_eq_some_iff.mp hi).1
          have hpf : Paired (FileAt H) (xs.take i) fs := by
            have h1 := paired_take hp i
            rw [htk] at h1
            have gen : ∀ {ys : List V} {gs : List Fl}, Paired (Itm K H) ys (gs.map some) → Paired (FileAt H) ys gs ∧ ∀ g ∈ gs, okF g := by
              intro ys gs
              induction gs generalizing ys with
              | nil => intro h; cases h; exact ⟨.nil, fun _ z => by cases z⟩
              | cons g r ih =>
                intro h
                cases h with
                | cons r1 r2 =>
                  obtain ⟨p1, p2⟩ := ih r2
                  exact ⟨.cons r1.1 p1, fun z hz => by
                    rcases List.mem_cons.mp hz with rfl | hz
                    · exact r1.2.1
                    · exact p2 z hz⟩
            exact (gen h1).1
          have hokf : ∀ g ∈ fs, okF g := by
            intro g hg
            have h1 : some g ∈ os.take i := by rw [htk]; exact List.mem_map.mpr ⟨g, hg, rfl⟩
            have h2 : some g ∈ os := List.mem_of_mem_take h1
            have gen : ∀ {ys : List V} {zs : List (Option Fl)}, Paired (Itm K H) ys zs → ∀ g, some g ∈ zs → okF g := by
              intro ys zs h
              induction h with
              | nil => intro g z; cases z
              | cons r _ ih =>
                intro g z
                rcases List.mem_cons.mp z with z | z
                · subst z; exact r.2.1
                · exact ih g z
            exact gen hp g h2
          have hfn : fs.length ≤ 1000 := by omega
          refine ⟨T0, _, rfl, SqT.of upd_same, rfl, _, _, rfl, _, _, rfl, rfl, ?_⟩
          show tIfS _ _ tNext _ ([some (.ref a), some (.int (i : Int)), some x] : L2.St) _
          have call1 : EvT (tNot (tB (tCall (spFile (K := K)) [] E0 (tCons (tVar 2) tNil)))) ([some (.ref a), some (.int (i : Int)), some x] : L2.St) (upd G T0 (.tup [.int (i : Nat), x])) (!(o.isSome)) :=
            et_not (et_B (ev_call (ea_cons (ev_var rfl) ea_nil) fun H3 e3 Q' q' E' => ⟨x, _, rfl, (it.mono (e2.trans e3)).fil, q'⟩))
          refine s_when (b := !(o.isSome) || !(match o with | some f => follow f.1 fs | none => true)) (et_or call1 fun hb => ?_) (fun hb H3 e3 => ?_) (fun hb H3 e3 => ?_)
          · cases o with
            | none => simp at hb
            | some f =>
              obtain ⟨⟨b, rfl, hbb⟩, hok, hpt⟩ := it
              intro H3 e3 Q' q'
              refine ev_op (z := .str f.1) (ev_var (i := 2) rfl) ev_c (rv_ixT (st_of ((e2.trans e3) _ _ hbb)) rfl) H3 (Ex.refl _) _ fun H4 e4 => ?_
              refine slice_to (i := i) (ev_var (i := 0) rfl) (ev_var (i := 1) rfl) (hc.st (((e2.trans e3).trans e4) _ _ h)) hix H4 (Ex.refl _) _ fun p H5 e5 hp5 => ?_
              exact ⟨f.1, p, xs.take i, fs, rfl, hp5, paired_mono hpf fun _ _ r => r.mono (((e2.trans e3).trans e4).trans e5), hokf, hok.1, hfn, fun H6 e6 => ⟨_, rfl, q' H6 ((e4.trans e5).trans e6)⟩⟩
          · have hbad : fb [] os = some i := by
              rw [hfb]
              cases o with
              | none => show some fs.length = some i; rw [hfl]
              | some f =>
                have hn : follow f.1 fs = false := by simpa using hb
                show (if follow f.1 fs = true then _ else some fs.length) = some i
                rw [hn, if_neg (by decide), hfl]
            exact xi_make c (ev_var rfl) (RaiseI.go (k2 _ (by rw [hbad]; rfl)) (e2.trans e3))
          · cases o with
            | none => simp at hb
            | some f =>
              have hn : follow f.1 fs = true := by simpa using hb
              refine ⟨_, _, fs ++ [f], rfl, e2.trans e3, by simp [hfl], ?_, ?_⟩
              · rw [List.take_succ, htk, ho]
                simp
              · rw [hfb]
                show (if follow f.1 fs = true then _ else some fs.length) = _
                rw [if_pos hn]
        · rintro τ G ⟨u, v, fs, rfl, eG, hfl, htk, hfb⟩
          have hlen := paired_len hp
          have hn : fb [] os = none := by
            rw [hfb, hlen, List.drop_length]
            rfl
          exact k1 (by rw [hn]; rfl) G eG
end
end Bt
namespace Bt
open PySem PySem.Spec PyProof.Rows L2 Bk Bm Evl Be Cr Bp Bl TL
section
variable {K : PySem.W.Frag} {H G : Hp} {r D : Addr}
end
section
variable {P : Program} {w : World} {K : PySem.W.Frag} {mg : Str → Option Value} {base : Heap}
/-! ### the words -/
def someW : List Str := ["", "x", "yes", "yes", "b", "a b", "use a", "use b", "use d/x", "use m", "use n", "use", "use A", "y y", "use o"].map Str.ofString
def okW (x : Str) : Prop := x.length ≤ 200 ∧ textB x = true ∧ PyData.strOk x = true
theorem join_all (p : Nat → Bool) (S : List Nat) (hS : S.all p = true) : ∀ l : List (List Nat), (∀ x ∈ l, x.all p = true) → (joinL S l).all p = true
  | [], _ => rfl
  | [x], h => h x List.mem_cons_self
  | x :: y :: r, h => by
    have ih := join_all p S hS (y :: r) fun z hz => h z (List.mem_cons_of_mem _ hz)
    have hx := h x List.mem_cons_self
    show (x ++ (S ++ joinL S (y :: r))).all p = true
    rw [List.all_append, List.all_append, hx, hS, ih]
    rfl
theorem some_ok : ∀ y ∈ someW, y.length ≤ 7 ∧ (tl y).all sgnT = true := by decide +kernel
theorem str_ok {x : Str} (h : (tl x).all sgnT = true) : PyData.strOk x = true := by
  unfold PyData.strOk
  rw [Array.all_eq_true']
  intro c hc
  rw [List.all_eq_true] at h
  have h1 := h c (by simpa [tl] using hc)
  simp only [sgnT, Bool.or_eq_true, Bool.and_eq_true, decide_eq_true_eq] at h1
  simp
  omega
theorem joined_ok {ys : List Str} (h : ∀ y ∈ ys, y ∈ someW) (hl : ys.length ≤ 8) : okW (Txt.join (Str.ofString "\n") ys) ∧ (ys.map (·.length)).sum + ys.length * (Str.ofString "\n").length ≤ 16777216 := by
  have l1 : (Str.ofString "\n").length = 1 := rfl
  have sum : (ys.map (·.length)).sum ≤ 7 * ys.length := by
    clear hl
    induction ys with
    | nil => simp
    | cons y r ih =>
      have h1 := (some_ok y (h y List.mem_cons_self)).1
      have h2 := ih fun z hz => h z (List.mem_cons_of_mem _ hz)
      simp only [List.map_cons, List.sum_cons, List.length_cons]
      omega
  have len := StrLaws.join_length_le (Str.ofString "\n") ys
  rw [l1, Nat.mul_one] at len
  have sg : (tl (Txt.join (Str.ofString "\n") ys)).all sgnT = true := by
    rw [join_eq, tl_join]
    refine join_all sgnT _ (by decide +kernel) _ fun x hx => ?_
    obtain ⟨y, hy, rfl⟩ := List.mem_map.mp hx
    exact (some_ok y (h y hy)).2
  have le : (Txt.join (Str.ofString "\n") ys).length ≤ 64 := by
    rw [join_eq]
    omega
  refine ⟨⟨by omega, ?_, str_ok sg⟩, by rw [l1]; omega⟩
  unfold textB
  rw [decide_eq_true (by omega : (Txt.join (Str.ofString "\n") ys).length ≤ 200)]
  exact sg
abbrev nWords : List Str := ["_law_row", "_law_some", "_law_k"]
def spWords : Sp := fun vs H Q _ => ∃ r, vs = [.ref r] ∧ Row K H r ∧ ∀ x G, okW x → Dr K r H G → Q (.str x) G
end
end Bt
namespace Bt
open PySem PySem.Spec PyProof.Rows L2 Bk Bm Evl Be Cr Kr Bp Bl TL
def ps1 : List Str := ["a", "b", "c", "d/x", "d/y", "e/f/g"].map Str.ofString
def ps2 : List Str := ["m", "p/q"].map Str.ofString
theorem FileAt.kp {r : Addr} {H G : Hp} {v : V} {f : Fl} {xs : List V} (h : FileAt H v f) (hr : H r = some (.lst xs)) (k : Kp r H G) : FileAt G v f := by
  obtain ⟨b, rfl, hb⟩ := h
  exact ⟨b, rfl, k b _ (ne_of hb hr (by intro z; cases z)) hb⟩
theorem FileAt.updL {H : Hp} {D : Addr} {v : V} {f : Fl} {xs zs : List V} (h : FileAt H v f) (hr : H D = some (.lst xs)) : FileAt (upd H D (.lst zs)) v f := by
  obtain ⟨b, rfl, hb⟩ := h
  exact ⟨b, rfl, by rw [upd_ne (ne_of hb hr (by intro z; cases z))]; exact hb⟩
section
variable {P : Program} {w : World} {K : PySem.W.Frag} {mg : Str → Option Value} {base : Heap}
abbrev nTree : List Str := ["_law_row", "_law_found", "_law_path"]
/-- between the turns: the list at D holds files whose paths stand in done, in order -/
def TInv (K : PySem.W.Frag) (r : Addr) (H0 : Hp) (D : Addr) (done : List Str) (σ : L2.St) (G : Hp) : Prop :=
  ∃ (vs : List V) (fs : List Fl) (u : Option V), σ = [some (.ref r), some (.ref D), u] ∧ G D = some (.lst vs) ∧ Paired (FileAt G) vs fs ∧ (fs.map (·.1)).Sublist done ∧ (∀ f ∈ fs, okW f.2) ∧ Dr K r H0 G
theorem tree_turns {r D : Addr} {H0 G : Hp} {ps done : List Str} {tt : TT} {De : Ends} {σ : L2.St} (inv : TInv K r H0 D done σ G) (hD0 : H0 D = none) (hDr : D ≠ r) (hz : done.length + ps.length ≤ 100)
    (test : ∀ (q : Str) G (Q : Bool → Hp → Prop), Row K G r → (∀ b G', Dr K r G G' → Q b G') → tt [some (.ref r), some (.ref D), some (.str q)] G Q)
    (k : ∀ σ' G', TInv K r H0 D (done ++ ps) σ' G' → De.nx σ' G') :
    tFor (iList K (tLst (tCs (ps.map V.str)))) (gName 2) (tIfS tt (tDrop (tBM K "list" rAppend (tVar 1) (tCons (tTup (tCons (tVar 2) (tCons (tCall (spWords (K := K)) [] E0 (tCons (tVar 0) tNil)) tNil))) tNil))) tNext) De σ G := by
  obtain ⟨vs0, fs0, u0, es0, hD, _, _, _, d0⟩ := id inv
  refine s_forNL (xs := ps.map V.str) (el_lst (ea_cs _) (by rw [List.length_map]; omega)) (fun p i σ' G' => TInv K r H0 D (done ++ ps.take i) σ' G' ∧ G' p = some (.lst (ps.map V.str)) ∧ p ≠ D ∧ p ≠ r) (fun p H1 hp e h1 => ?_) (fun p i σ' G' _ q => sq_of q.2.1) (fun p i x σ' G' hi q => ?_) (fun p σ' G' q => ?_)
  · obtain ⟨vs, fs, u, es, hD, pf, sl, ok, d⟩ := inv
    refine ⟨⟨vs, fs, u, es, e _ _ hD, paired_mono pf fun _ _ z => z.mono e, by simpa using sl, ok, d.ex e⟩, h1, (ne_of_none hD hp).symm, d.row.ne_new hp⟩
  · obtain ⟨⟨vs, fs, u, rfl, hD, pf, sl, ok, d⟩, hp, npD, npr⟩ := q
    obtain ⟨q, hq, rfl⟩ : ∃ q, ps[i]? = some q ∧ x = V.str q := by
      rw [List.getElem?_map] at hi
      cases e : ps[i]? with
      | none => rw [e] at hi; cases hi
      | some q => rw [e] at hi; exact ⟨q, rfl, (Option.some.inj hi).symm⟩
    have htk : ps.take (i + 1) = ps.take i ++ [q] := by rw [List.take_succ, hq]; rfl
    have hlen : fs.length ≤ 100 := by
      have h1 := sl.length_le
      rw [List.length_map, List.length_append, List.length_take] at h1
      omega
    obtain ⟨rl, hrl⟩ := d.row.at
    refine test q G' _ d.row fun b G1 d1 => ?_
    have hD1 : G1 D = some (.lst vs) := d1.kp _ _ hDr hD
    have pf1 : Paired (FileAt G1) vs fs := paired_mono pf fun _ _ z => FileAt.kp z hrl d1.kp
    cases b with
    | false =>
      rw [if_neg (by decide)]
      exact ⟨⟨vs, fs, _, rfl, hD1, pf1, by rw [htk, ← List.append_assoc]; exact sl.trans (List.sublist_append_left _ _), ok, d.trans d1⟩, d1.kp _ _ npr hp, npD, npr⟩
    | true =>
      rw [if_pos rfl]
      refine ⟨_, rfl, Or.inl ⟨rfl, vs, sq_of hD1⟩, _, rfl, _, rfl, r, rfl, d1.row, fun y G2 hy d2 => ⟨by show 2 ≤ sizeLine; decide, fun T hT => ?_⟩⟩
      obtain ⟨rl1, hrl1⟩ := d1.row.at
      have hD2 : G2 D = some (.lst vs) := d2.kp _ _ hDr hD1
      have pf2 : Paired (FileAt G2) vs fs := paired_mono pf1 fun _ _ z => FileAt.kp z hrl1 d2.kp
      have hD3 : (upd G2 T (.tup [.str q, .str y])) D = some (.lst vs) := (Ex.new hT) _ _ hD2
      have pl := paired_len pf2
      refine ⟨D, vs, .ref T, rfl, rfl, hD3, sz_lt (by omega), ?_⟩
      have d02 : Dr K r H0 (upd G2 T (.tup [.str q, .str y])) := ((d.trans d1).trans d2).ex (Ex.new hT)
      refine ⟨⟨vs ++ [.ref T], fs ++ [(q, y)], _, rfl, upd_same, ?_, ?_, ?_, d02.updL hD0 hD3 hDr⟩, ?_, npD, npr⟩
      · refine paired_append (paired_mono pf2 fun _ _ z => FileAt.updL (z.mono (Ex.new hT)) hD3) (.cons ⟨T, rfl, ?_⟩ .nil)
        rw [upd_ne (ne_of_none hD2 hT).symm, upd_same]
      · rw [htk, ← List.append_assoc, List.map_append]
        exact sl.append (List.Sublist.refl _)
      · intro f hf
        rcases List.mem_append.mp hf with hf | hf
        · exact ok f hf
        · rw [List.mem_singleton.mp hf]
          exact hy
      · rw [upd_ne npD]
        exact (Ex.new hT) _ _ (d2.kp _ _ npr (d1.kp _ _ npr hp))
  · have e : ps.take (ps.map V.str).length = ps := by rw [List.length_map, List.take_length]
    rw [e] at q
    exact k σ' G' q.1
def TreeOk (fs : List Fl) : Prop := (fs.map (·.1)).Sublist (ps1 ++ ps2) ∧ ∀ f ∈ fs, okW f.2
def spTree : Sp := fun vs H Q _ => ∃ r, vs = [.ref r] ∧ Row K H r ∧ ∀ p o xs fs G, Dr K r H G → H p = none → G p = some (.frz o (.tup xs)) → Pln o → Paired (FileAt G) xs fs → TreeOk fs → Q (.ref p) G
end
end Bt
namespace Bt
open PySem PySem.Spec PyProof.Rows L2 Bk Bm Evl Be Cr Bp Bl TL
section
variable {X : Cx}
end
section
variable {P : Program} {w : World} {K : PySem.W.Frag} {mg : Str → Option Value} {base : Heap}
def oddW : List V := [.non, .int 0, .bl true, .str (Txt.mul (Str.ofString "a") 201)]
theorem mul_ok : MulOk (Str.ofString "a") 201 := by
  refine ⟨by decide, fun _ _ => by decide +kernel, fun _ _ => by decide +kernel⟩
theorem mul_bad : (Txt.mul (Str.ofString "a") 201).length ≤ 1000 ∧ textB (Txt.mul (Str.ofString "a") 201) = false := by decide +kernel
end
end Bt
namespace Bt
open PySem PySem.Spec PyProof.Rows L2 Bk Bm Evl Be Cr Bp Bl TL
/-! ### the mathematics of spoilt trees -/
abbrev lt (p q : Str) : Prop := p.cps.toList < q.cps.toList
/-- q may stand behind p -/
def Rp (p q : Str) : Prop := lt p q ∧ within q p = false
instance (p q : Str) : Decidable (Rp p q) := inferInstanceAs (Decidable (_ ∧ _))
def allP : List Str := ps1 ++ ps2
theorem allP_pw : allP.Pairwise Rp := by decide +kernel
theorem allP_ok : ∀ p ∈ allP, pathB p = true ∧ p.length ≤ 5 ∧ PyData.strOk p = true ∧
    ((Txt.split p (Str.ofString "/")).length = 3 ∨ ((Txt.split p (Str.ofString "/")).length ≠ 3 ∧ pathB (p ++ Str.ofString "/z") = true ∧ within (p ++ Str.ofString "/z") p = true ∧ PyData.strOk (p ++ Str.ofString "/z") = true ∧ (p ++ Str.ofString "/z").length ≤ 1000)) := by decide +kernel
theorem lt_irr (p : Str) : ¬ lt p p := List.lt_irrefl _
theorem lt_asy {p q : Str} (h : lt p q) : ¬ lt q p := fun h' => lt_irr p (List.lt_trans h h')
theorem follow_good {pre : List Fl} {f : Fl} (h : ((pre ++ [f]).map (·.1)).Pairwise Rp) : follow f.1 pre = true := by
  rw [List.map_append, List.pairwise_append] at h
  have h1 : ∀ g ∈ pre, Rp g.1 f.1 := fun g hg => h.2.2 _ (List.mem_map.mpr ⟨g, hg, rfl⟩) _ (by simp)
  unfold follow
  cases e : pre.getLast? with
  | none => rfl
  | some l =>
    have hl : l ∈ pre := List.mem_of_getLast? e
    have h2 : (pre.any fun g => within f.1 g.1) = false := by
      rw [List.any_eq_false]
      intro g hg
      rw [(h1 g hg).2]
      decide
    show (decide (lt l.1 f.1) && !(pre.any fun g => within f.1 g.1)) = true
    rw [decide_eq_true (h1 l hl).1, h2]
    rfl
theorem fb_good : ∀ (suf pre : List Fl) (rest : List (Option Fl)), ((pre ++ suf).map (·.1)).Pairwise Rp → fb pre (suf.map some ++ rest) = fb (pre ++ suf) rest
  | [], pre, rest, _ => by simp
  | f :: r, pre, rest, h => by
    have e : pre ++ f :: r = (pre ++ [f]) ++ r := by simp
    have h0 : ((pre ++ [f]).map (·.1)).Pairwise Rp := by
      rw [e, List.map_append] at h
      exact (List.pairwise_append.mp h).1
    show (if follow f.1 pre = true then fb (pre ++ [f]) (r.map some ++ rest) else _) = _
    rw [if_pos (follow_good h0), fb_good r (pre ++ [f]) rest (by rw [← e]; exact h), e]
theorem tree_pw {fs : List Fl} (h : TreeOk fs) : (fs.map (·.1)).Pairwise Rp := allP_pw.sublist h.1
theorem tree_len {fs : List Fl} (h : TreeOk fs) : fs.length ≤ 8 := by
  have h1 := h.1.length_le
  rw [List.length_map] at h1
  exact h1
theorem tree_mem {fs : List Fl} (h : TreeOk fs) {f : Fl} (hf : f ∈ fs) : f.1 ∈ allP ∧ okW f.2 := ⟨h.1.subset (List.mem_map.mpr ⟨f, hf, rfl⟩), h.2 f hf⟩
theorem tree_okF {fs : List Fl} (h : TreeOk fs) {f : Fl} (hf : f ∈ fs) : okF f ∧ (pathB f.1 && textB f.2) = true := by
  obtain ⟨h1, h2⟩ := tree_mem h hf
  have h3 := allP_ok _ h1
  refine ⟨⟨by omega, by have := h2.1; omega, h3.2.2.1, h2.2.2⟩, ?_⟩
  rw [h3.1, h2.2.1]
  rfl
theorem fb_tree {fs : List Fl} (h : TreeOk fs) : fb [] (fs.map some) = none := by
  have e := fb_good fs [] [] (by simpa using tree_pw h)
  rw [List.append_nil] at e
  rw [e]
  rfl
/-- a wrong thing at a place of a good tree -/
theorem fb_at {fs : List Fl} (h : TreeOk fs) {i : Nat} (hi : i ≤ fs.length) {o : Option Fl} (ho : ∀ f, o = some f → follow f.1 (fs.take i) = false) (rest : List (Option Fl)) : fb [] ((fs.take i).map some ++ (o :: rest)) = some i := by
  have e := fb_good (fs.take i) [] (o :: rest) (by
    rw [List.nil_append]
    have h1 := tree_pw h
    exact h1.sublist ((List.take_sublist i fs).map _))
  rw [e]
  have hl : (fs.take i).length = i := by rw [List.length_take]; omega
  cases o with
  | none =>
    show some ([] ++ fs.take i).length = some i
    rw [List.nil_append, hl]
  | some f =>
    show (if follow f.1 ([] ++ fs.take i) = true then _ else some ([] ++ fs.take i).length) = some i
    rw [List.nil_append, ho f rfl, if_neg (by decide), hl]
/-- a path that stands at an earlier place -/
theorem follow_dup {fs : List Fl} (h : TreeOk fs) {i j : Nat} (hi : i ≤ fs.length) (hj : j < i) {f : Fl} (hf : fs[j]? = some f) : follow f.1 (fs.take i) = false := by
  have hl : (fs.take i).length = i := by rw [List.length_take]; omega
  have hfl : (fs.take i).getLast? = fs[i - 1]? := by
    rw [List.getLast?_eq_getElem?, hl, List.getElem?_take_of_lt (by omega)]
  have hb : i - 1 < fs.length := by omega
  unfold follow
  rw [hfl, List.getElem?_eq_getElem hb]
  show (decide (lt fs[i - 1].1 f.1) && _) = false
  have no : ¬ lt fs[i - 1].1 f.1 := by
    obtain ⟨hjl, e⟩ := List.getElem?_eq_some_iff.mp hf
    by_cases c : j = i - 1
    · subst c
      rw [e]
      exact lt_irr _
    · have pw := tree_pw h
      rw [List.pairwise_iff_getElem] at pw
      have r := pw j (i - 1) (by simpa using hjl) (by simpa using hb) (by omega)
      rw [List.getElem_map, List.getElem_map, e] at r
      exact lt_asy r.1
  rw [decide_eq_false no]
  rfl
/-- a path within the one ahead -/
theorem follow_in {fs : List Fl} {i : Nat} {l : Fl} {p : Str} (hl : fs[i]? = some l) (hw : within p l.1 = true) : follow p (fs.take (i + 1)) = false := by
  have hm : l ∈ fs.take (i + 1) := by
    rw [List.take_succ, hl]
    simp
  unfold follow
  cases e : (fs.take (i + 1)).getLast? with
  | none =>
    rw [List.getLast?_eq_none_iff.mp e] at hm
    cases hm
  | some z =>
    have h2 : ((fs.take (i + 1)).any fun g => within p g.1) = true := List.any_eq_true.mpr ⟨l, hm, hw⟩
    show (decide _ && !((fs.take (i + 1)).any fun g => within p g.1)) = false
    rw [h2]
    simp
end Bt
namespace Bt
open PySem PySem.Spec PyProof.Rows L2 Bk Bm Evl Be Cr Bp Bl TL
abbrev nOddT : List Str := ["_law_row", "_law_tree_here", "_law_kind", "_law_none", "_law_at", "_law_odd", "_law_bad", "_law_file", "_law_k"]
/-! ### tuples cut and put together -/
def EvX (te : TE) (σ : L2.St) (H : Hp) (xs : List V) : Prop := ∀ H1, Ex H H1 → ∀ Q : VK, (∀ p o H2, Ex H1 H2 → H2 p = some o → IsTU o xs → Q (.ref p) H2) → te σ H1 Q
section
variable {K : PySem.W.Frag} {σ : L2.St} {H : Hp} {ta tb te ti : TE} {a : Addr} {xs ys : List V}
theorem ex_tup {ta : TA} {vs : List V} (h : EvA ta σ H vs) (hl : vs.length ≤ 100000) : EvX (tTup ta) σ H vs := fun H1 e Q q =>
  h H1 e _ fun H2 e2 => ⟨sz_of hl, fun p hp => q p _ _ (e2.trans (Ex.new hp)) upd_same (.inl rfl)⟩
theorem ex_cat (h1 : EvX ta σ H xs) (h2 : EvX tb σ H ys) (hl : xs.length + ys.length ≤ 100000) : EvX (tOp (rCatA K) ta tb) σ H (xs ++ ys) := fun H1 e Q q =>
  h1 H1 e _ fun a oa H2 e2 ha ca => h2 H2 (e.trans e2) _ fun b ob H3 e3 hb cb => ⟨a, b, xs, ys, rfl, rfl, ca.st (e3 _ _ ha), cb.st hb, sz_of hl,
    fun z => q b ob H3 (e2.trans e3) hb (by rw [z]; exact cb), fun _ z => q a oa H3 (e2.trans e3) (e3 _ _ ha) (by rw [z, List.append_nil]; exact ca), fun _ _ p hp => q p _ _ ((e2.trans e3).trans (Ex.new hp)) upd_same (.inl rfl)⟩
theorem ex_to {i : Nat} {o : HO} (h : Ev te σ H (.ref a)) (hi : Ev ti σ H (.int (i : Int))) (hx : H a = some o) (hc : IsTU o xs) (hl : i ≤ xs.length) : EvX (tSl (rSlA K) te tNoPart (tPart ti)) σ H (xs.take i) := fun H1 e Q q =>
  h H1 e _ fun H2 e2 => hi H2 (e.trans e2) _ fun H3 e3 => ⟨(i : Int), rfl, a, xs, rfl, hc.st (((e.trans e2).trans e3) _ _ hx), by
    have c1 : HT.sIx xs.length 0 none = 0 := HT.sIx_none _ _
    have c2 : HT.sIx xs.length xs.length (some (i : Int)) = i := by rw [HT.sIx_nat]; omega
    have c3 : cutV xs none (some (i : Int)) = xs.take i := by
      unfold cutV
      rw [c1, c2]
      simp
    rw [c1, c2]
    refine ⟨fun z => ?_, fun z p hp => ?_⟩
    · refine q a o H3 (e2.trans e3) (((e.trans e2).trans e3) _ _ hx) ?_
      rw [z.2, List.take_length]
      exact hc
    · exact q p _ _ ((e2.trans e3).trans (Ex.new hp)) upd_same (by rw [c3]; exact .inl rfl)⟩
theorem ex_from {i : Nat} {o : HO} (h : Ev te σ H (.ref a)) (hi : Ev ti σ H (.int (i : Int))) (hx : H a = some o) (hc : IsTU o xs) (hl : i ≤ xs.length) : EvX (tSl (rSlA K) te (tPart ti) tNoPart) σ H (xs.drop i) := fun H1 e Q q =>
  h H1 e _ fun H2 e2 => hi H2 (e.trans e2) _ fun H3 e3 => ⟨(i : Int), rfl, a, xs, rfl, hc.st (((e.trans e2).trans e3) _ _ hx), by
    have c1 : HT.sIx xs.length 0 (some (i : Int)) = i := by rw [HT.sIx_nat]; omega
    have c2 : HT.sIx xs.length xs.length none = xs.length := HT.sIx_none _ _
    have c3 : cutV xs (some (i : Int)) none = xs.drop i := by
      unfold cutV
      rw [c1, c2, List.take_of_length_le (by rw [List.length_drop]; omega)]
    rw [c1, c2]
    refine ⟨fun z => ?_, fun z p hp => ?_⟩
    · refine q a o H3 (e2.trans e3) (((e.trans e2).trans e3) _ _ hx) ?_
      rw [z.1]
      exact hc
    · exact q p _ _ ((e2.trans e3).trans (Ex.new hp)) upd_same (by rw [c3]; exact .inl rfl)⟩
end
theorem small_str : ∀ k < 21, Nat.log2 k < 1920 ∧ (toString (k : Int) : Str).length ≤ 100 := by decide +kernel
/-- a thing that is no file -/
inductive OddIt (H : Hp) : V → Prop
  | non : OddIt H .non
  | i0 : OddIt H (.int 0)
  | sz : OddIt H (.str (Str.ofString "z"))
  | t1 {a : Addr} (h : H a = some (.tup [.str (Str.ofString "a")])) : OddIt H (.ref a)
  | l2 {a : Addr} (h : H a = some (.lst [.str (Str.ofString "z"), .str (Str.ofString "")])) : OddIt H (.ref a)
  | t3 {a : Addr} (h : H a = some (.tup [.str (Str.ofString "z"), .str (Str.ofString ""), .str (Str.ofString "")])) : OddIt H (.ref a)
  | pt {a : Addr} {u : V} (h : H a = some (.tup [u, .str (Str.ofString "")])) (su : Sm H u) (bu : isPathV u = false) : OddIt H (.ref a)
  | wt {a : Addr} {u : V} (h : H a = some (.tup [.str (Str.ofString "z"), u])) (su : Sm H u) (bu : isTextV u = false) : OddIt H (.ref a)
theorem OddIt.ex {H G : Hp} {v : V} (h : OddIt H v) (e : Ex H G) : OddIt G v := by
  cases h with
  | non => exact .non
  | i0 => exact .i0
  | sz => exact .sz
  | t1 h => exact .t1 (e _ _ h)
  | l2 h => exact .l2 (e _ _ h)
  | t3 h => exact .t3 (e _ _ h)
  | pt h su bu => exact .pt (e _ _ h) (su.mono e) bu
  | wt h su bu => exact .wt (e _ _ h) (su.mono e) bu
theorem OddIt.dr {K : PySem.W.Frag} {r : Addr} {H G : Hp} {v : V} (h : OddIt H v) (row : Row K H r) (d : Dr K r H G) : OddIt G v := by
  obtain ⟨a, i, s, z, ns, hr, _⟩ := id row
  cases h with
  | non => exact .non
  | i0 => exact .i0
  | sz => exact .sz
  | t1 h => exact .t1 (d.kp _ _ (ne_of h hr (by intro z; cases z)) h)
  | l2 h => exact .l2 (d.kp _ _ (ne_of h hr (by intro z; cases z)) h)
  | t3 h => exact .t3 (d.kp _ _ (ne_of h hr (by intro z; cases z)) h)
  | pt h su bu => exact .pt (d.kp _ _ (ne_of h hr (by intro z; cases z)) h) (Sm.dr su row d) bu
  | wt h su bu => exact .wt (d.kp _ _ (ne_of h hr (by intro z; cases z)) h) (Sm.dr su row d) bu
theorem OddIt.fil {K : PySem.W.Frag} {H : Hp} {v : V} (h : OddIt H v) : Fil K H v false := by
  cases h with
  | non => exact .no kd_non (by decide)
  | i0 => exact .no (kd_int 0) (by decide)
  | sz => exact .no (kd_str _) (by decide)
  | t1 h => exact .len h (by decide) (by decide)
  | l2 h => exact .no (kd_lst h) (by decide)
  | t3 h => exact .len h (by decide) (by decide)
  | pt h su bu =>
    have q := Fil.two (K := K) h su (.str (Str.ofString "") (by decide))
    rw [bu] at q
    exact q
  | @wt a u h su bu =>
    have q := Fil.two (K := K) h (.str (Str.ofString "z") (by decide)) su
    rw [bu, Bool.and_false] at q
    exact q
theorem itm_files {K : PySem.W.Frag} {H : Hp} {xs : List V} {fs : List Fl} (h : Paired (FileAt H) xs fs) (ok : ∀ f ∈ fs, okF f ∧ (pathB f.1 && textB f.2) = true) : Paired (Itm K H) xs (fs.map some) := by
  induction h with
  | nil => exact .nil
  | cons r _ ih => exact .cons ⟨r, ok _ List.mem_cons_self⟩ (ih fun f hf => ok f (List.mem_cons_of_mem _ hf))
theorem paired_drop {α β : Type} {F : α → β → Prop} {l : List α} {m : List β} (h : Paired F l m) : ∀ n, Paired F (l.drop n) (m.drop n) := by
  induction h with
  | nil => intro n; simp; exact .nil
  | cons r t ih =>
    intro n
    cases n with
    | zero => exact .cons r t
    | succ n => exact ih n
/-- a thing put into a good tree -/
theorem tr_spoilt {K : PySem.W.Frag} {H : Hp} {q : Addr} {xs : List V} {fs : List Fl} {b : V} {o : Option Fl} {i : Nat} {oq : HO} (hq : H q = some oq) (hcq : IsTU oq (xs.take i ++ [b] ++ xs.drop i)) (pf : Paired (FileAt H) xs fs) (ok : TreeOk fs) (hi : i ≤ fs.length)
    (it : Itm K H b o) (ho : ∀ f, o = some f → follow f.1 (fs.take i) = false) : Tr K H (.ref q) (some (.int (i : Int))) := by
  have ip : Paired (Itm K H) xs (fs.map some) := itm_files pf fun f hf => tree_okF ok hf
  have ps : Paired (Itm K H) (xs.take i ++ [b] ++ xs.drop i) ((fs.take i).map some ++ (o :: (fs.drop i).map some)) := by
    have h1 := paired_append (paired_append (paired_take ip i) (.cons it .nil)) (paired_drop ip i)
    rw [List.map_take, List.map_drop]
    simpa using h1
  have hl := paired_len ps
  have hl2 := paired_len pf
  have h8 := tree_len ok
  have t := Tr.tup hq hcq (by simp only [List.length_append, List.length_take, List.length_drop, List.length_cons, List.length_nil]; omega) ps
  rw [fb_at ok hi ho] at t
  exact t
section
variable {P : Program} {w : World} {K : PySem.W.Frag} {mg : Str → Option Value} {base : Heap}
def spOddT : Sp := fun vs H Q _ => ∃ r p ho xs fs, vs = [.ref r, .ref p] ∧ Row K H r ∧ H p = some ho ∧ IsTU ho xs ∧ Paired (FileAt H) xs fs ∧ TreeOk fs ∧
  ∀ l bad u G, Dr K r H G → G l = some (.lst [bad, u]) → Tr K G bad (some u) → (u = .non ∨ ∃ i : Nat, u = .int (i : Int)) → Q (.ref l) G
end
end Bt
namespace Bt
open PySem PySem.Spec PyProof.Rows L2 Bk Bm Evl Be Cr Bp Bl TL
section
variable {K : PySem.W.Frag} {H G : Hp} {r : Addr} {v : V}
theorem Kd.dr {n : String} (h : Kd K H v n) (row : Row K H r) (d : Dr K r H G) : Kd K G v n := by
  obtain ⟨rl, hr⟩ := row.at
  obtain ⟨rl', hr'⟩ := d.row.at
  obtain ⟨t, k⟩ := h
  refine ⟨?_, k⟩
  cases t with
  | base t =>
    refine .base ?_
    cases t with
    | non => exact .non
    | bl b => exact .bl b
    | int i => exact .int i
    | str x => exact .str x
    | flt x => exact .flt x
    | @lst a xs h =>
      by_cases c : a = r
      · subst c; exact .lst hr'
      · exact .lst (d.kp _ _ c h)
    | frz h => exact .frz (d.kp _ _ (ne_of h hr (by intro z; cases z)) h)
    | tup h => exact .tup (d.kp _ _ (ne_of h hr (by intro z; cases z)) h)
    | dK h => exact .dK (d.kp _ _ (ne_of h hr (by intro z; cases z)) h)
    | dT h => exact .dT (d.kp _ _ (ne_of h hr (by intro z; cases z)) h)
  | byt b => exact .byt b
  | set h => exact .set (d.kp _ _ (ne_of h hr (by intro z; cases z)) h)
  | kList h c => exact .kList h c
  | kTuple h c => exact .kTuple h c
  | kDict h c => exact .kDict h c
  | fTuple h => exact .fTuple (d.kp _ _ (ne_of h hr (by intro z; cases z)) h)
  | fDict h => exact .fDict (d.kp _ _ (ne_of h hr (by intro z; cases z)) h)
theorem Fil.dr {b : Bool} (h : Fil K H v b) (row : Row K H r) (d : Dr K r H G) : Fil K G v b := by
  obtain ⟨rl, hr⟩ := row.at
  cases h with
  | no k h => exact .no (Kd.dr k row d) h
  | len h hl hz => exact .len (d.kp _ _ (ne_of h hr (by intro z; cases z)) h) hl hz
  | two h hu hw => exact .two (d.kp _ _ (ne_of h hr (by intro z; cases z)) h) (Sm.dr hu row d) (Sm.dr hw row d)
theorem Itm.dr {o : Option Fl} (h : Itm K H v o) (row : Row K H r) (d : Dr K r H G) : Itm K G v o := by
  obtain ⟨rl, hr⟩ := row.at
  cases o with
  | some f => exact ⟨FileAt.kp h.1 hr d.kp, h.2⟩
  | none => exact Fil.dr h row d
theorem Tr.dr {o : Option V} (h : Tr K H v o) (row : Row K H r) (d : Dr K r H G) : Tr K G v o := by
  obtain ⟨rl, hr⟩ := row.at
  cases h with
  | no k h => exact .no (Kd.dr k row d) h
  | big h hl => exact .big (d.kp _ _ (ne_of h hr (by intro z; cases z)) h) hl
  | tup h hc hl hp => exact .tup (d.kp _ _ (ne_of h hr (hc.nl _)) h) hc hl (paired_mono hp fun _ _ z => Itm.dr z row d)
theorem good_tr {p : Addr} {o : HO} {xs : List V} {fs : List Fl} (hp : H p = some o) (hc : IsTU o xs) (pf : Paired (FileAt H) xs fs) (ok : TreeOk fs) : Tr K H (.ref p) none := by
  have hl := paired_len pf
  have h8 := tree_len ok
  have t := Tr.tup (K := K) hp hc (by omega) (itm_files pf fun f hf => tree_okF ok hf)
  rw [fb_tree ok] at t
  exact t
end
section
variable {P : Program} {w : World} {K : PySem.W.Frag} {mg : Str → Option Value} {base : Heap}
end
end Bt
namespace Kr
open PySem PySem.Spec PyProof.Rows L2 Bk Bm Evl Be
theorem walk_w {J : It} {n : Nat} {Gd : Hp → Prop} {Y : Nat → Hp → V → Hp → Prop} (w : Walk J n Gd Y) {F0 : Hp} {Qd : Hp → Prop} {Step : (Hp → Prop) → V → Hp → Prop} (Pv : Nat → Hp → Prop) (h0 : Pv 0 F0) (hG : ∀ i F, i ≤ n → Pv i F → Gd F)
    (hs : ∀ i x F F', i < n → Pv i F → Y i F x F' → Step (Pv (i + 1)) x F') (hd : ∀ F, Pv n F → Qd F) :
    ∃ Wk : Nat → Nat → Hp → Prop, (∃ m, Wk 0 m F0) ∧ ∀ i m F, Wk i m F → (J.stop i F ∧ Qd F) ∨ (J.go i F ∧ ∃ Nx : Hp → Prop, (∀ F', Nx F' → ∃ m', m' < m ∧ Wk (i + 1) m' F') ∧ ∀ x F', J.yld i F x F' → Step Nx x F') := by
  refine ⟨fun i m F => m + i = n ∧ Pv i F, ⟨n, Nat.add_zero n, h0⟩, fun i m F ⟨hm, p⟩ => ?_⟩
  have q := hG i F (by omega) p
  cases m with
  | zero =>
    have e : i = n := by omega
    subst e
    exact .inl ⟨w.stops F q, hd F p⟩
  | succ m => exact .inr ⟨w.goes i F (by omega) q, Pv (i + 1), fun F' p' => ⟨m, Nat.lt_succ_self m, by omega, p'⟩, fun x F' y => hs i x F F' (by omega) p (w.yields i F x F' (by omega) q y)⟩
end Kr
namespace Bt
open PySem PySem.Spec PyProof.Rows L2 Bk Bm Evl Be Cr Kr Bp Bl TL
abbrev sMade : Stmt := top 56
def tNo : TE := fun _ _ _ => False
def tNoT : TT := fun _ _ _ => False
theorem pe_no {X : Cx} {e : Expr} : PE X e tNo := ⟨fun _ _ _ _ _ _ h => h.elim⟩
theorem pt_no {X : Cx} {e : Expr} : PT X e tNoT := ⟨fun _ _ _ _ _ _ h => h.elim⟩
section
variable {K : PySem.W.Frag} {H G : Hp} {r : Addr} {v : V}
theorem slice_toU {σ : L2.St} {te ti : TE} {a : Addr} {xs : List V} {i : Nat} (h : Ev te σ H (.ref a)) (hi : Ev ti σ H (.int (i : Int))) (hx : H a = some (.tup xs)) (hl : i ≤ xs.length) :
    ∀ H1, Ex H H1 → ∀ Q : VK, (∀ p H2, Ex H1 H2 → H2 p = some (.tup (xs.take i)) → Q (.ref p) H2) → tSl (rSlA K) te tNoPart (tPart ti) σ H1 Q := fun H1 e Q q =>
  h H1 e _ fun H2 e2 => hi H2 (e.trans e2) _ fun H3 e3 => ⟨(i : Int), rfl, a, xs, rfl, st_of (((e.trans e2).trans e3) _ _ hx), by
    have c1 : HT.sIx xs.length 0 none = 0 := HT.sIx_none _ _
    have c2 : HT.sIx xs.length xs.length (some (i : Int)) = i := by rw [HT.sIx_nat]; omega
    rw [cut_to hl, c1, c2]
    refine ⟨fun z => ?_, fun z p hp => q p _ ((e2.trans e3).trans (Ex.new hp)) upd_same⟩
    have z2 : xs.take i = xs := by rw [z.2]; exact List.take_length
    refine q a H3 (e2.trans e3) ?_
    rw [z2]
    exact ((e.trans e2).trans e3) _ _ hx⟩
theorem slice_fromU {σ : L2.St} {te ti : TE} {a : Addr} {xs : List V} {i : Nat} (h : Ev te σ H (.ref a)) (hi : Ev ti σ H (.int (i : Int))) (hx : H a = some (.tup xs)) (hl : i ≤ xs.length) :
    ∀ H1, Ex H H1 → ∀ Q : VK, (∀ p H2, Ex H1 H2 → H2 p = some (.tup (xs.drop i)) → Q (.ref p) H2) → tSl (rSlA K) te (tPart ti) tNoPart σ H1 Q := fun H1 e Q q =>
  h H1 e _ fun H2 e2 => hi H2 (e.trans e2) _ fun H3 e3 => ⟨(i : Int), rfl, a, xs, rfl, st_of (((e.trans e2).trans e3) _ _ hx), by
    have c1 : HT.sIx xs.length 0 (some (i : Int)) = i := by rw [HT.sIx_nat]; omega
    have c2 : HT.sIx xs.length xs.length none = xs.length := HT.sIx_none _ _
    have c3 : cutV xs (some (i : Int)) none = xs.drop i := by
      unfold cutV
      rw [c1, c2]
      exact List.take_of_length_le (by rw [List.length_drop]; omega)
    rw [c1, c2]
    refine ⟨fun z => ?_, fun z p hp => q p _ ((e2.trans e3).trans (Ex.new hp)) (by rw [c3]; exact upd_same)⟩
    have z2 : xs.drop i = xs := by rw [z.1]; rfl
    refine q a H3 (e2.trans e3) ?_
    rw [z2]
    exact ((e.trans e2).trans e3) _ _ hx⟩
theorem catU_go {a b : Addr} {xs ys : List V} {Q : VK} (ha : G a = some (.tup xs)) (hb : G b = some (.tup ys)) (hz : xs.length + ys.length ≤ 100000) (k : ∀ p G', Ex G G' → G' p = some (.tup (xs ++ ys)) → Q (.ref p) G') : rCatA K (.ref a) (.ref b) G Q := by
  refine ⟨a, b, xs, ys, rfl, rfl, st_of ha, st_of hb, sz_of hz, fun z => k b G (Ex.refl _) (by rw [z]; exact hb), fun _ z => k a G (Ex.refl _) (by rw [z, List.append_nil]; exact ha), fun _ _ p hp => k p _ (Ex.new hp) upd_same⟩
end
section
variable {P : Program} {w : World} {K : PySem.W.Frag} {mg : Str → Option Value} {base : Heap} {C fI pR fG fL fE Cb Cr Cx Ct Cu : Addr}
theorem kit_own {n : String} (h1 : PySem.W.isClsIn K C = true) (h2 : PySem.W.typeIn K (.ref C) = some (.type "type")) (hn : n ∈ (["NoneType", "bool", "int", "str", "list", "tuple", "dict"] : List String)) : PySem.W.kitOne K (.type n) (.ref C) = some false := by
  unfold PySem.W.kitOne
  rw [if_neg (by intro z; cases z)]
  have e : ((PySem.W.clsIn K C).isSome && PySem.W.typeIn K (.ref C) == some (.type "type")) = true := by
    rw [h2]
    have h1' : (PySem.W.clsIn K C).isSome = true := h1
    rw [h1']
    rfl
  show (if ((PySem.W.clsIn K C).isSome && PySem.W.typeIn K (.ref C) == some (.type "type")) = true then PySem.W.subIn K (.type n) (.ref C) else none) = some false
  rw [if_pos e]
  simp only [List.mem_cons, List.not_mem_nil, or_false] at hn
  rcases hn with rfl | rfl | rfl | rfl | rfl | rfl | rfl <;> rfl
theorem ev_isN {σ : L2.St} {H : Hp} {te tx : TE} {v : V} {n : String} (h1 : PySem.W.isClsIn K C = true) (h2 : PySem.W.typeIn K (.ref C) = some (.type "type")) (h : Ev te σ H v) (hc : Ev tx σ H (.ref C)) (k : Kd K H v n) : Ev (tCB (rIsi K) (tCons te (tCons tx tNil))) σ H (.bl false) := fun H1 e Q q =>
  h H1 e _ fun H2 e2 => hc H2 (e.trans e2) _ fun H3 e3 => by
    obtain ⟨ty, kk⟩ := id (k.mono ((e.trans e2).trans e3))
    exact ⟨v, .ref C, .type n, .ref C, _, rfl, .own C, ty, kit_own h1 h2 kk, q H3 (e2.trans e3)⟩
end
theorem cons_raw {te : TE} {ta : TA} {σ : L2.St} {G : Hp} {Q : List V → Hp → Prop} (h : te σ G fun x H1 => ta σ H1 fun xs H2 => Q (x :: xs) H2) : tCons te ta σ G Q := h
theorem parq_raw {i j : Nat} {ta : TA} {tz : TS} {De : Ends} {σ : L2.St} {H : Hp} (h : ta σ H fun vs H1 => ∃ v w, vs = [v, w] ∧ tz De ((σ.set i (some v)).set j (some w)) H1) : tSeq (tPar i j ta) tz De σ H := h
abbrev tListOf (K : PySem.W.Frag) (te : TE) : TE := tCB (fun xs H Q => ∃ p ys, xs = [V.ref p] ∧ (SqL K H p ys ∨ SqT K H p ys) ∧ ∀ (l : Addr), H l = none → Q (V.ref l) (upd H l (HO.lst ys))) (tCons te tNil)
abbrev ltS (a b : Str) : Prop := a.cps.toList < b.cps.toList
def AscS (ns : List Str) : Prop := ns.Pairwise ltS
theorem AscS.nodup {ns : List Str} (h : AscS ns) : ns.Nodup := h.imp fun {a b} l z => by
  rw [z] at l
  exact List.lt_irrefl _ l
theorem ascS_ext {a b : List Str} (ha : AscS a) (hb : AscS b) (h : ∀ g, g ∈ a ↔ g ∈ b) : a = b :=
  ((List.perm_ext_iff_of_nodup ha.nodup hb.nodup).mpr h).eq_of_pairwise (le := ltS) (fun x y _ _ h1 h2 => absurd (List.lt_trans h1 h2) (List.lt_irrefl _)) ha hb
theorem str_ext {a b : Str} (h : a.cps.toList = b.cps.toList) : a = b := by
  obtain ⟨a⟩ := a
  obtain ⟨b⟩ := b
  have : a = b := Array.toList_inj.mp h
  rw [this]
theorem lt_of_nle {a b : Str} (h : ¬ ltS b a) (n : a ≠ b) : ltS a b := by
  rcases Classical.em (ltS a b) with z | z
  · exact z
  · exact absurd (str_ext (List.le_antisymm (List.not_lt.mp h) (List.not_lt.mp z))) n
theorem rising_all : ∀ (r : List Str) (p : Str), risingS p r = true → (∀ x ∈ r, ¬ ltS x p) ∧ r.Pairwise fun a b => ¬ ltS b a
  | [], _, _ => ⟨fun _ h => (nomatch h), .nil⟩
  | x :: r, p, h => by
    have h1 : (!ltCps x.cps.toList p.cps.toList && risingS x r) = true := h
    rw [ltCps_eq] at h1
    simp only [Bool.and_eq_true, Bool.not_eq_true', decide_eq_false_iff_not] at h1
    obtain ⟨i1, i2⟩ := rising_all r x h1.2
    refine ⟨fun y hy => ?_, .cons (fun y hy => i1 y hy) i2⟩
    rcases List.mem_cons.mp hy with rfl | hy
    · exact h1.1
    · exact fun z => h1.1 (List.lt_of_le_of_lt (List.not_lt.mp (i1 y hy)) z)
theorem sorted_pw : ∀ (ns : List Str), sortedS ns = true → ns.Pairwise fun a b => ¬ ltS b a
  | [], _ => .nil
  | x :: r, h => by
    obtain ⟨a, b⟩ := rising_all r x h
    exact .cons a b
theorem asc_names {ns : List Str} (so : sortedS ns = true) (nd : ns.Nodup) : AscS ns := by
  have h := (sorted_pw ns so).and nd
  exact h.imp fun {a b} z => lt_of_nle z.1 z.2
section
variable {K : PySem.W.Frag} {σ : L2.St} {H G : Hp} {r C : Addr} {xs : List V}
/-- an expression that comes to a value of a kind -/
def EvP (te : TE) (σ : L2.St) (H : Hp) (F : Hp → V → Prop) : Prop := ∀ H1, Ex H H1 → ∀ Q : VK, (∀ v H2, Ex H1 H2 → F H2 v → Q v H2) → te σ H1 Q
def EvPs (ta : TA) (σ : L2.St) (H : Hp) (F : Hp → V → Prop) (n : Nat) : Prop := ∀ H1, Ex H H1 → ∀ Q : List V → Hp → Prop, (∀ vs H2, Ex H1 H2 → (∀ v ∈ vs, F H2 v) → vs.length = n → Q vs H2) → ta σ H1 Q
theorem evp_nil {F : Hp → V → Prop} : EvPs tNil σ H F 0 := fun H1 _ _ q => q [] H1 (Ex.refl _) (fun _ h => by cases h) rfl
theorem evp_cons {F : Hp → V → Prop} {te : TE} {ta : TA} {n : Nat} (fm : ∀ {H G v}, F H v → Ex H G → F G v) (h : EvP te σ H F) (hs : EvPs ta σ H F n) : EvPs (tCons te ta) σ H F (n + 1) := fun H1 e Q q =>
  h H1 e _ fun v H2 e2 hv => hs H2 (e.trans e2) _ fun vs H3 e3 hvs hn => q (v :: vs) H3 (e2.trans e3) (fun u hu => by
    rcases List.mem_cons.mp hu with rfl | hu
    · exact fm hv e3
    · exact hvs u hu) (by rw [List.length_cons, hn])
theorem evp_c {F : Hp → V → Prop} {v : V} (h : ∀ H, F H v) : EvP (tC v) σ H F := fun H1 _ _ q => q v H1 (Ex.refl _) (h _)
theorem evp_tup1 {F : Hp → V → Prop} {v : V} (h : ∀ H a, H a = some (.tup [v]) → F H (.ref a)) : EvP (tTup (tCons (tC v) tNil)) σ H F := fun H1 _ _ q => ⟨by show 1 ≤ sizeLine; decide, fun p hp => q _ _ (Ex.new hp) (h _ p upd_same)⟩
theorem evp_dict {F : Hp → V → Prop} (h : ∀ H a, H a = some (.dK []) → F H (.ref a)) : EvP tDNewK σ H F := fun H1 _ _ q p hp => q _ _ (Ex.new hp) (h _ p upd_same)
/-- what is told of a refused tree, as data -/
theorem told {u : V} (h : u = .non ∨ ∃ i : Nat, u = .int (i : Int)) : ∃ dU, (∀ G, Dp K G u dU) ∧ SeqAt.shaped (.list [.str (Str.ofString "tree"), dU]) = true ∧ PyData.eqv (.list [.str (Str.ofString "tree"), dU]) (.list [.str (Str.ofString "tree"), dU]) = true := by
  rcases h with rfl | ⟨i, rfl⟩
  · exact ⟨.none, fun _ => .non, by decide +kernel, by decide +kernel⟩
  · refine ⟨.int i, fun _ => .int _, ?_, ?_⟩
    · show (PyData.canLayAll0 [.str (Str.ofString "tree"), .int i] && decide (PyData.depth (.list [.str (Str.ofString "tree"), .int i]) ≤ 64)) = true
      have h1 : PyData.canLayAll0 [.str (Str.ofString "tree"), .int i] = true := by
        show (PyData.strOk (Str.ofString "tree") && (true && true)) = true
        decide +kernel
      have h2 : PyData.depth (.list [.str (Str.ofString "tree"), .int i]) ≤ 64 := by
        simp [PyData.depth, PyData.depthAll]
      rw [h1, decide_eq_true h2]
      rfl
    · simp [PyData.eqv, PyData.eqvAll]
theorem tup_dr {t : Addr} {ys : List V} (h : H t = some (.tup ys)) (row : Row K H r) (d : Dr K r H G) : G t = some (.tup ys) := by
  obtain ⟨rl, hr⟩ := row.at
  exact d.kp _ _ (ne_of h hr (by intro z; cases z)) h
theorem BkAt.dr {a : Addr} {v : V} (h : BkAt H C a v) (row : Row K H r) (d : Dr K r H G) : BkAt G C a v := by
  obtain ⟨rl, hr⟩ := row.at
  obtain ⟨dx, h⟩ := h
  exact ⟨dx, d.kp _ _ (ne_of h hr (by intro z; cases z)) h⟩
/-- a draw from a list of such values -/
theorem drawP {ta : TE} {tl : TA} {F : Hp → V → Prop} {n : Nat} {Q : VK} (fm : ∀ {H G v}, F H v → Ex H G → F G v) (fd : ∀ {H G v}, F H v → Row K H r → Dr K r H G → F G v) (hr : Ev ta σ H (.ref r)) (hl : EvPs tl σ H F n) (row : Row K H r) (h0 : 0 < n) (h1 : n ≤ 1000)
    (k : ∀ v G, F G v → Dr K r H G → Q v G) : tCall (spOne (K := K)) [] E0 (tCons ta (tCons (tLst tl) tNil)) σ H Q :=
  hr H (Ex.refl _) _ fun H1 e1 => hl H1 e1 _ fun vs H2 e2 hvs hn => ⟨sz_of (by omega), fun p hp => ⟨r, p, vs, rfl, row.ex ((e1.trans e2).trans (Ex.new hp)), (row.ex (e1.trans e2)).ne_new hp, upd_same, by omega, by omega, fun v G hv d =>
    k v G (fd (fm (hvs v hv) (Ex.new hp)) (row.ex ((e1.trans e2).trans (Ex.new hp))) d) (Dr.pre ((e1.trans e2).trans (Ex.new hp)) d)⟩⟩
/-- an item of such a list, by a draw -/
theorem ixP {ta : TE} {tl : TA} {F : Hp → V → Prop} {n : Nat} {Q : VK} (fm : ∀ {H G v}, F H v → Ex H G → F G v) (fd : ∀ {H G v}, F H v → Row K H r → Dr K r H G → F G v) (hr : Ev ta σ H (.ref r)) (hl : EvPs tl σ H F n) (row : Row K H r) (h0 : 0 < n) (h1 : n ≤ 1000)
    (k : ∀ v G, F G v → Dr K r H G → Q v G) : tOp (rIxL K) (tLst tl) (tCall (spTaken (K := K)) [] E0 (tCons ta (tCons (tC (.int (n : Int))) tNil))) σ H Q :=
  hl H (Ex.refl _) _ fun vs H2 e2 hvs hn => ⟨sz_of (by omega), fun p hp => by
    have e3 := e2.trans (Ex.new (o := .lst vs) hp)
    have row3 := row.ex e3
    have ne := (row.ex e2).ne_new hp
    refine draw (m := (n : Int)) (fun H1 e Q q => hr H1 (e3.trans e) Q q) ev_c row3 (by omega) (by omega) fun j G hj hjm d => ?_
    have hin : j.toNat < vs.length := by omega
    exact ⟨p, vs, j, vs[j.toNat], rfl, rfl, sq_of (d.kp _ _ ne upd_same), at_of (j := j.toNat) (by omega) (List.getElem?_eq_getElem hin), k _ G (fd (fm (hvs _ (List.getElem_mem hin)) (Ex.new hp)) row3 d) (Dr.pre e3 d)⟩⟩
/-- a value that is no book -/
def NB (K : PySem.W.Frag) (H : Hp) (v : V) : Prop := ∃ n, Kd K H v n
theorem NB.mono {v : V} (h : NB K H v) (e : Ex H G) : NB K G v := by
  obtain ⟨n, h⟩ := h
  exact ⟨n, h.mono e⟩
theorem NB.dr {v : V} (h : NB K H v) (row : Row K H r) (d : Dr K r H G) : NB K G v := by
  obtain ⟨n, h⟩ := h
  exact ⟨n, Kd.dr h row d⟩
end
section
variable {P : Program} {w : World} {K : PySem.W.Frag} {mg : Str → Option Value} {base : Heap} {C fI pR fG fL fE Cb Cr Cx Ct Cu : Addr}
/-- the same of a tuple -/
def spOneT : Sp := fun vs H Q _ => ∃ r t xs, vs = [.ref r, .ref t] ∧ Row K H r ∧ H t = some (.tup xs) ∧ 0 < xs.length ∧ xs.length < 1000000 ∧ ∀ v G, v ∈ xs → Dr K r H G → Q v G
theorem mkbook_go {t : Addr} {H : Hp} {xs : List V} {gs : List (Str × PyData)} {Q : VK} (ht : H t = some (.tup xs)) (rs : RsAt H xs gs) (k : ∀ x G, Ex H G → H x = none → BkAt G C x (.ref t) → Q (.ref x) G) :
    ∀ x dx, H x = none → H dx = none → dx ≠ x → spInit (K := K) C Cu [.ref x, .ref t] (upd (upd H dx (.own x)) x (.ins C dx [])) (fun v H2 => v = .non ∧ Q (.ref x) H2) E0 := by
  intro x dx hx hdx ne
  have e1 : Ex H (upd (upd H dx (.own x)) x (.ins C dx [])) := (Ex.new hdx).trans (Ex.new (by rw [upd_ne ne.symm]; exact hx))
  exact ⟨x, dx, .ref t, none, rfl, upd_same, (rl_good ht rs).mono e1, fun _ G1 e2 => ⟨rfl, k x _ ((e1.trans e2).mut hx) hx ⟨dx, upd_same⟩⟩, fun u z => by cases z⟩
theorem mkbook_ev {σ : L2.St} {H : Hp} {te : TE} {t : Addr} {xs : List V} {gs : List (Str × PyData)} {Q : VK} (h : Ev te σ H (.ref t)) (ht : H t = some (.tup xs)) (rs : RsAt H xs gs) (k : ∀ x G, Ex H G → BkAt G C x (.ref t) → Q (.ref x) G) :
    tMake C (spInit (K := K) C Cu) [] E0 (tCons te tNil) σ H Q := h H (Ex.refl _) _ fun H1 e => mkbook_go (e _ _ ht) (rs.mono e) fun x G eG _ hb => k x G (e.trans eG) hb
def spMade (C : Addr) : Sp := fun vs H Q _ => ∃ a t xs ps, vs = [.ref a] ∧ BkAt H C a (.ref t) ∧ SqT K H t xs ∧ Heads H xs ps ∧ ps.length < 64 ∧ ∀ ys, ys.Perm ps → sortedS ys = true → RetL (ys.map V.str) H Q
theorem scMade : FnScope ["book", "rule"] ["book"] (defScope sMade) := ⟨rfl, rfl, rfl, by decide +kernel, rfl, by decide +kernel, by decide +kernel⟩
/-- sorted([rule[0] for rule in ..]) -/
theorem srt_heads {σ : L2.St} {H : Hp} {tl : TE} {j : Nat} {t : Addr} {xs : List V} {ps : List Str} {Q : VK} (hj : j < σ.length) (ht : Ev tl σ H (.ref t)) (hx : SqT K H t xs) (hh : Heads H xs ps) (hl : ps.length < 64)
    (k : ∀ ys, ys.Perm ps → sortedS ys = true → RetL (ys.map V.str) H Q) :
    tCB (rSortedS K) (tCons (tLc (iTup K tl) (gName j) tYes (tOp (rIxT K) (tVar j) (tC (.int 0))) [j]) tNil) σ H Q := by
  have hlen := pr_len hh
  have big : EvL (tLc (iTup K tl) (gName j) tYes (tOp (rIxT K) (tVar j) (tC (.int 0))) [j]) σ H (ps.map V.str) := by
    refine ev_isL (el_lcT (headV H) ht hx (by omega) fun x H1 e1 hxm => ?_) (heads_map hh)
    obtain ⟨z, hz, c, ts, rfl, hc⟩ := pr_mem hh hxm
    refine ev_is (ev_op (ev_var (by simp [hj])) ev_c (rv_ixT (st_of (e1 _ _ hc)) (atI_nat (j := 0) rfl))) ?_
    simp only [headV, hc]
  show tLc (iTup K tl) (gName j) tYes (tOp (rIxT K) (tVar j) (tC (.int 0))) [j] σ H (fun x H1 => rSortedS K [x] H1 Q)
  exact big H (Ex.refl _) _ fun p H1 hp e1 h1 => ⟨p, ps, rfl, sq_of h1, hl, fun ys q pm so hq => k ys pm so q _ (fresh_back e1 hq) (e1.trans (Ex.new hq)) upd_same⟩
theorem ev_prop {σ : L2.St} {H : Hp} {te : TE} {a : Addr} {v : V} (h : Ev te σ H (.ref a)) (b : BkAt H C a v) : Ev (tProp C (spGet C) [] E0 te) σ H v := fun H1 e Q q => h H1 e _ fun H2 e2 => by
  have bb := b.mono (e.trans e2)
  obtain ⟨dx, hb⟩ := id bb
  exact ⟨a, dx, _, rfl, hb, a, v, rfl, bb, fun H3 e3 => q H3 (e2.trans e3)⟩
theorem ok_made {f : Addr} {fd fdG : FuncData} (F : Fun K "made_paths" "made_paths" sMade f fd) (T : Gv mg) (B : Bks K mg C fI pR fG fL fE) (FG : FnOk P w K mg base CX0 1 fG fdG ["self"] (spGet C)) (bG : Binds K fdG ["self"] [])
    (cB : Cal P w K mg base CX0 1 "check_book" ["value"] (spCkB C)) : FnOk P w K mg base CX0 3 f fd ["book"] (spMade (K := K) C) := by
  refine F.ok scMade (fun vs H Q E h => ?_) (fun cdv A outer s H vs Q E hr h => ?_)
  · obtain ⟨a, t, xs, ps, rfl, _⟩ := h
    rfl
  · obtain ⟨a, t, xs, ps, rfl, b, hx, hh, hl, k⟩ := h
    have hr1 : Room 1 _ := hr.mono (by decide)
    refine ⟨_, pss_cons (ps_expr (pe_call cB.F hr1 (by rfl) cB.g cB.kp cB.b .nil pass0 (pa_cons (pv 0) pa_nil)))
      (pss_one (ps_ret (pe_callB cr_sortedS (by rfl) T.srt (by decide +kernel) (pa_cons (pe_lc (own := [("rule", 1)]) (g := gName 1) (tt := tYes) rfl scMade.nd (pi_tup (pe_prop (pv 0) B.cls B.prop FG hr bG .nil pass0 (by rfl))) (blkOk_by (N := ["book", "rule"]) (sc := defScope sMade) (by decide +kernel))
        (fun _ _ _ _ _ => pg_name (i := 1) scMade.nd rfl (Or.inl rfl)) (fun _ _ _ _ _ => pts_nil) (fun _ _ _ _ _ => pe_ix (r := rIxT K) ix_tup (pv 1) pe_int (fun _ _ => rfl))) pa_nil)))), ?_⟩
    refine q_drop (v := .non) (ev_call (ea_cons (ev_var rfl) ea_nil) fun H1 e1 Q' q' E' => ⟨a, _, rfl, b.mono e1, q'⟩) fun H1 e1 => ?_
    exact srt_heads (j := 1) (by show 1 < 2; decide) (ev_prop (ev_var rfl) (b.mono e1)) (ex_t e1 hx) (hh.mono e1) hl fun ys pm so p H2 hp e2 h2 => k ys pm so p H2 (fresh_back e1 hp) (e1.trans e2) h2
end
end Bt
namespace Bt
open PySem PySem.Spec PyProof.Rows L2 Bk Bm Evl Be Cr Kr Bp Bl TL
abbrev sCkMade : Stmt := top 65
abbrev sRun : Stmt := top 91
abbrev sBuildFor : Stmt := top 93
theorem ret_rw {te : TE} {De : Ends} {σ : L2.St} {H : Hp} (h : te σ H De.rt) : tRet te De σ H := h
theorem q_raw {i : Nat} {te : TE} {tz : TS} {De : Ends} {σ : L2.St} {H : Hp} (h : te σ H (fun v H1 => tz De (σ.set i (some v)) H1)) : tSeq (tAsg te (gName i)) tz De σ H := h
/-! ### not in a list of texts: data, or a dict -/
theorem eqAt_str_dict {A : Around} {s : Shared} {l : Addr} {o : Obj} {es : Array DictEntry} {n : Nat} (b : Str) (u : Tok) (ho : s.heap.get? l = some o) (hd : o.data = .dict es n) (hc : o.cls = .type "dict") (hu : A.units < cLine) : SeqAt.EqAt A s (.str b u) (.ref l) false := fun prog w E Q h => by
  unfold eqBool
  refine wpAny_holding ?_
  refine wpAny_ite_split (fun hab => absurd (eq_of_beq hab) nofun) (fun _ => ?_)
  refine wpAny_bind ?_
  exact SeqAt.rc_eq_decline_or (k := false) (typeIs_str s b u) ⟨o, ho, hc⟩ (by decide) F.sub_dict_str F.slot_str_eq F.slot_dict_eq_refl
    (fun _ hq => call_meets F.slot_str_eq (typeIs_str s b u) F.entry_str_eq (F.args_str_eq_2 _ _) (seq_dict b u l o es n hd) ⟨ho, hq⟩)
    (fun _ hq => call_meets F.slot_dict_eq_refl ⟨o, ho, hc⟩ F.entry_dict_eq (F.args_dict_eq_2 _ _) (deq_str l o b u es n hd hc) ⟨ho, hq⟩)
    (fun _ hq => wpAny_of_eq (rfl : isSame (.str b u) (.ref l) = pure false) hq) (.inr hu) (wpAny_truthy_bool h)
theorem reads_strs {h : Heap} : ∀ (ys : List Str) (vs : List Value) (as : List Addr), ReadsAll h vs (ys.map PyData.str) as → ∀ v ∈ vs, ∃ b t, v = .str b t
  | [], _, _, r, v, hv => by cases r; cases hv
  | y :: ys, _, _, r, v, hv => by
    cases r with
    | cons r1 r2 =>
      rcases List.mem_cons.mp hv with rfl | hv
      · cases r1; exact ⟨_, _, rfl⟩
      · exact reads_strs ys _ _ r2 v hv
theorem any_no (vs : Array Value) : (!vs.any fun _ => false) = true := by
  rw [Bool.not_eq_true', ← Array.any_toList, List.any_eq_false]
  intro z _ h
  cases h
/-- not in, a list of data -/
def rNotInDL (K : PySem.W.Frag) : R2 := fun x y H Q => (∃ d ds, Dp K H x d ∧ Dp K H y (.list ds) ∧ SeqAt.shaped d = true ∧ SeqAt.shaped (.list ds) = true ∧ Q (.bl (!ds.any fun z => PyData.eqv z d)) H) ∨
  (∃ (a : Addr) (kvs : List (Key × V)) (ys : List Str), x = .ref a ∧ H a = some (.dK kvs) ∧ Dp K H y (.list (ys.map PyData.str)) ∧ Q (.bl true) H)
theorem op_notInDL {X : Cx} (hu : X.A.units + 65 < cLine) : OpR X (compareOp .NotIn) (rNotInDL X.K) := by
  intro pins s σ H x y v u Q I rx ry h
  rcases h with ⟨d, ds, hd, he, sd, se, q⟩ | ⟨a, kvs, ys, rfl, ha, he, q⟩
  · obtain ⟨as, r1⟩ := Dp.reads I d x v hd rx
    obtain ⟨bs, r2⟩ := Dp.reads I (.list ds) y u he ry
    exact SeqAt.notIn_list_reads r2 r1 (SeqAt.canLay_of_shaped se) (SeqAt.canLay_of_shaped sd) (room_in_shaped sd hu) ⟨.bl _, H, I, rfl, q⟩
  · obtain ⟨bs, r2⟩ := Dp.reads I (.list (ys.map PyData.str)) y u he ry
    cases rx
    obtain ⟨o, es, n, ho, hd, hc⟩ := dict_obj I ha
    cases r2 with
    | list h1 h2 h3 h4 =>
      refine SeqAt.notIn_listAt (fun _ => false) ⟨_, h1, h2, _, h3⟩ (fun z hz => ?_) (by rw [any_no]; exact ⟨.bl true, H, I, rfl, q⟩)
      obtain ⟨b, t, rfl⟩ := reads_strs ys _ _ h4 z (by simpa using hz)
      exact eqAt_str_dict b t ho hd hc (by show X.A.units + 1 < cLine; omega)
def Rz0 (X : Addr) (H : Hp) (E : XK) : Prop := ∀ G, Ex H G → E (.ref X) none G
def Rz (X : Addr) (o : Option V) (H : Hp) (E : XK) : Prop := match o with
  | none => ∀ G, Ex H G → E (.ref X) none G
  | some u => RaiseI X u H E
section
variable {P : Program} {w : World} {K : PySem.W.Frag} {mg : Str → Option Value} {base : Heap} {C fI pR fG fL fE Cb Ct Cm : Addr}
/-! ### check_book -/
def spCkB2 (K : PySem.W.Frag) (C Cb : Addr) : Sp := fun vs H Q E => ∃ v, vs = [v] ∧ ((∃ n, Kd K H v n ∧ Rz0 Cb H E) ∨ (∃ a u, v = .ref a ∧ BkAt H C a u ∧ RetV .non H Q))
theorem ok_ckBook2 {f : Addr} {fd : FuncData} (F : Fun K "check_book" "check_book" sCkBook f fd) (T : Gv mg) (c : Xc K mg "BadBook" Cb) (B : Bks K mg C fI pR fG fL fE) (h1 : PySem.W.isClsIn K C = true) (h2 : PySem.W.typeIn K (.ref C) = some (.type "type")) :
    FnOk P w K mg base (L2.CX P w) 2 f fd ["value"] (spCkB2 K C Cb) := by
  refine F.okX scCkBook (fun vs H Q E h => ?_) (fun cdv A outer s H vs Q E hr h => ?_)
  · obtain ⟨v, rfl, _⟩ := h
    rfl
  · obtain ⟨v, rfl, h⟩ := h
    refine ⟨_, pss_one (ps_if (pt_not (pt_val (pe_callB call_isi (by rfl) T.isi boot_isinstance (pa_cons (pv 0) (pa_cons (pe_glob (v := .ref C) (by rfl) B.g rfl) pa_nil))))) (pss_one (ps_raise rfl (takes_of rfl rfl rfl rfl) (pmk_own0 c (by rfl)))) pss_nil), ?_⟩
    rcases h with ⟨n, kd, k⟩ | ⟨a, u, rfl, b, k⟩
    · refine s_if (b := true) (et_is (et_not (et_B (ev_isN h1 h2 (ev_var rfl) ev_c kd))) rfl) (fun _ H1 e1 => ?_) (fun z => by cases z)
      exact k H1 e1
    · refine s_if (b := false) (et_is (et_not (et_B (ev_isB B (ev_var rfl) ev_c b))) rfl) (fun z => by cases z) (fun _ H1 e1 => ?_)
      exact k H1 e1
/-! ### who is asked of no book -/
def spNB (K : PySem.W.Frag) (Cb : Addr) : Sp := fun vs H Q E => ∃ v, vs = [v] ∧ NB K H v ∧ Rz0 Cb H E
def spNB2 (K : PySem.W.Frag) (Cb : Addr) : Sp := fun vs H Q E => ∃ v x, vs = [v, x] ∧ NB K H v ∧ Rz0 Cb H E
abbrev nRing : List Str := ["book", "told", "rows", "made", "row", "path"]
abbrev nRR : List Str := ["book", "value", "told", "made", "path"]
abbrev nOrder : List Str := ["book", "order"]
abbrev nRO : List Str := ["book", "value", "told", "place", "made", "path"]
abbrev nDep : List Str := ["book", "order", "told", "depth", "made", "path"]
theorem nb_go {σ : L2.St} {H : Hp} {v : V} {E : XK} (s0 : σ[0]? = some (some v)) (h : NB K H v) (k : Rz0 Cb H E) {tz : TS} {De : Ends} : tSeq (tDrop (tCall (spCkB2 K C Cb) [] E (tCons (tVar 0) tNil))) tz De σ H := by
  obtain ⟨n, h⟩ := h
  exact ⟨_, s0, v, rfl, .inl ⟨n, h, k⟩⟩
theorem ok_nbMade {k : Nat} (hk : 2 ≤ k) {f : Addr} {fd : FuncData} (F : Fun K "made_paths" "made_paths" sMade f fd) (cB : Cal P w K mg base (L2.CX P w) 2 "check_book" ["value"] (spCkB2 K C Cb)) : FnOk P w K mg base (L2.CX P w) (k + 1) f fd ["book"] (spNB K Cb) := by
  refine F.okX scMade (fun vs H Q E h => ?_) (fun cdv A outer s H vs Q E hr h => ?_)
  · obtain ⟨v, rfl, _⟩ := h
    rfl
  · obtain ⟨v, rfl, nb, kk⟩ := h
    refine ⟨_, pss_cons (ps_expr (pe_call cB.F (hr.mono (by omega)) (by rfl) cB.g cB.kp cB.b .nil (lets (takes_of rfl rfl rfl rfl)) (pa_cons (pv 0) pa_nil))) pss_never, ?_⟩
    exact nb_go rfl nb kk
/-! ### check_made -/
/-- a value that a book does not make -/
structure NM (K : PySem.W.Frag) (H : Hp) (C a : Addr) (v : V) : Prop where
  ex : ∃ t xs ps, BkAt H C a (.ref t) ∧ H t = some (.tup xs) ∧ Heads H xs ps ∧ ps.length < 64 ∧ ((∃ d, (∀ G, Ex H G → Dp K G v d) ∧ SeqAt.shaped d = true ∧ (∀ p ∈ ps, PyData.eqv (.str p) d = false)) ∨ (∃ c kvs, v = .ref c ∧ H c = some (.dK kvs))) ∧ ∀ p ∈ ps, PyData.strOk p = true
theorem strs_shaped : ∀ (ys : List Str), (∀ p ∈ ys, PyData.strOk p = true) → SeqAt.shaped (.list (ys.map PyData.str)) = true := by
  intro ys h
  have h1 : PyData.canLayAll0 (ys.map PyData.str) = true := by
    induction ys with
    | nil => rfl
    | cons y r ih =>
      show (PyData.strOk y && PyData.canLayAll0 (r.map PyData.str)) = true
      rw [h y List.mem_cons_self, ih fun p hp => h p (List.mem_cons_of_mem _ hp)]
      rfl
  have h2 : PyData.depthAll (ys.map PyData.str) ≤ 1 := by
    clear h h1
    induction ys with
    | nil => simp [PyData.depthAll]
    | cons y r ih =>
      simp only [List.map_cons, PyData.depthAll, PyData.depth]
      omega
  show (PyData.canLayAll0 (ys.map PyData.str) && decide (PyData.depth (.list (ys.map PyData.str)) ≤ 64)) = true
  rw [h1, decide_eq_true (by simp only [PyData.depth]; omega)]
  rfl
theorem dpl (K : PySem.W.Frag) (G : Hp) : ∀ zs : List Str, DpAll K G (zs.map V.str) (zs.map PyData.str)
  | [] => .nil
  | z :: r => .cons (.str z) (dpl K G r)
theorem scCkMade : FnScope ["book", "value"] ["book", "value"] (defScope sCkMade) := ⟨rfl, rfl, rfl, by decide +kernel, rfl, by decide +kernel, by decide +kernel⟩
def spCkMade (K : PySem.W.Frag) (C Cm : Addr) : Sp := fun vs H Q E => ∃ a v, vs = [.ref a, v] ∧ NM K H C a v ∧ Rz0 Cm H E
theorem ok_ckMade {f : Addr} {fd : FuncData} (F : Fun K "check_made" "check_made" sCkMade f fd) (c : Xc K mg "BadMade" Cm) (cM : Cal P w K mg base CX0 3 "made_paths" ["book"] (spMade (K := K) C)) : FnOk P w K mg base (L2.CX P w) 4 f fd ["book", "value"] (spCkMade K C Cm) := by
  refine F.okX scCkMade (fun vs H Q E h => ?_) (fun cdv A outer s H vs Q E hr h => ?_)
  · obtain ⟨a, v, rfl, _⟩ := h
    rfl
  · obtain ⟨a, v, rfl, ⟨t, xs, ps, b, ht, hh, hl, dq, so⟩, kk⟩ := h
    have hu : (A.deeper (envOfC "check_made" (defScope sCkMade) s.heap.objs.size f cdv)).units + 65 < cLine := by have := hr.un; omega
    refine ⟨_, pss_one (ps_if (pt_cmpR (op_notInDL hu) (pv 1) (pe_call cM.F hr (by rfl) cM.g cM.kp cM.b .nil pass0 (pa_cons (pv 0) pa_nil)) (by rfl)) (pss_one (ps_raise rfl (takes_of rfl rfl rfl rfl) (pmk_own0 c (by rfl)))) pss_nil), ?_⟩
    refine s_if (b := true) (fun H1 e1 Q' q' => ⟨_, rfl, _, rfl, a, t, xs, ps, rfl, b.mono e1, st_of (e1 _ _ ht), hh.mono e1, hl, fun ys pm sy l H2 hl0 e2 hl2 => ?_⟩) (fun _ H1 e1 => kk H1 e1) (fun z => by cases z)
    rcases dq with ⟨d, dp, sh, no⟩ | ⟨c, kvs, rfl, hc⟩
    · refine .inl ⟨d, ys.map PyData.str, dp _ (e1.trans e2), .lst (sq_of hl2) (dpl K H2 ys), sh, strs_shaped ys fun p hp => so p (pm.mem_iff.mp hp), _, rfl, ?_⟩
      have e : (!(ys.map PyData.str).any fun z => PyData.eqv z d) = true := by
        rw [List.any_map, Bool.not_eq_true', List.any_eq_false]
        intro p hp
        show ¬ PyData.eqv (.str p) d = true
        rw [no p (pm.mem_iff.mp hp)]
        decide
      rw [e]
      exact q' H2 e2
    · exact .inr ⟨c, kvs, ys, rfl, (e1.trans e2) _ _ hc, .lst (sq_of hl2) (dpl K H2 ys), _, rfl, q' H2 e2⟩
/-! ### clean, run, reads_behind -/
/-- what is wrong; o is what is raised for it -/
inductive Wr (K : PySem.W.Frag) (C Cb Ct Cm : Addr) (H : Hp) : V → V → V → Addr → Option V → Prop
  | book {b t m : V} (h : NB K H b) : Wr K C Cb Ct Cm H b t m Cb none
  | tree {a : Addr} {u t m x : V} (h : BkAt H C a u) (ht : Tr K H t (some x)) : Wr K C Cb Ct Cm H (.ref a) t m Ct (some x)
  | made {a : Addr} {t m : V} (ht : Tr K H t none) (hm : NM K H C a m) : Wr K C Cb Ct Cm H (.ref a) t m Cm none
/-- of a book and a tree -/
inductive Wc (K : PySem.W.Frag) (C Cb Ct : Addr) (H : Hp) : V → V → Addr → Option V → Prop
  | book {b t : V} (h : NB K H b) : Wc K C Cb Ct H b t Cb none
  | tree {a : Addr} {u t x : V} (h : BkAt H C a u) (ht : Tr K H t (some x)) : Wc K C Cb Ct H (.ref a) t Ct (some x)
def spWr (K : PySem.W.Frag) (C Cb Ct Cm : Addr) : Sp := fun vs H Q E => ∃ b t m X o, vs = [b, t, m] ∧ Wr K C Cb Ct Cm H b t m X o ∧ Rz X o H E
def spWc (K : PySem.W.Frag) (C Cb Ct : Addr) : Sp := fun vs H Q E => ∃ b t X o, vs = [b, t] ∧ Wc K C Cb Ct H b t X o ∧ Rz X o H E
theorem NM.mono {H G : Hp} {a : Addr} {v : V} (e : Ex H G) (h : NM K H C a v) : NM K G C a v := by
  obtain ⟨t, xs, ps, b, ht, hh, hl, dq, r⟩ := h.ex
  refine ⟨t, xs, ps, b.mono e, e _ _ ht, hh.mono e, hl, ?_, r⟩
  rcases dq with ⟨d, dp, sh, no⟩ | ⟨c, kvs, rfl, hc⟩
  · exact .inl ⟨d, fun G' e' => dp G' (e.trans e'), sh, no⟩
  · exact .inr ⟨c, kvs, rfl, e _ _ hc⟩
theorem Wr.mono {H G : Hp} {b t m : V} {X : Addr} {o : Option V} (e : Ex H G) (h : Wr K C Cb Ct Cm H b t m X o) : Wr K C Cb Ct Cm G b t m X o := by
  cases h with
  | book h => exact .book (h.mono e)
  | tree h ht => exact .tree (h.mono e) (ht.mono e)
  | made ht hm => exact .made (ht.mono e) (hm.mono e)
theorem Wc.mono {H G : Hp} {b t : V} {X : Addr} {o : Option V} (e : Ex H G) (h : Wc K C Cb Ct H b t X o) : Wc K C Cb Ct G b t X o := by
  cases h with
  | book h => exact .book (h.mono e)
  | tree h ht => exact .tree (h.mono e) (ht.mono e)
theorem scBuildFor : FnScope ["book", "tree", "made"] ["book", "tree", "made"] (defScope sBuildFor) := ⟨rfl, rfl, rfl, by decide +kernel, rfl, by decide +kernel, by decide +kernel⟩
theorem ok_buildFor {f : Addr} {fd : FuncData} (F : Fun K "build_for" "build_for" sBuildFor f fd) (cB : Cal P w K mg base (L2.CX P w) 2 "check_book" ["value"] (spCkB2 K C Cb)) (cT : Cal P w K mg base (L2.CX P w) 4 "check_tree" ["value"] (spCkTree (K := K) Ct))
    (cM : Cal P w K mg base (L2.CX P w) 4 "check_made" ["book", "value"] (spCkMade K C Cm)) : FnOk P w K mg base (L2.CX P w) 5 f fd ["book", "tree", "made"] (spWr K C Cb Ct Cm) := by
  refine F.okX scBuildFor (fun vs H Q E h => ?_) (fun cdv A outer s H vs Q E hr h => ?_)
  · obtain ⟨b, t, m, X, o, rfl, _⟩ := h
    rfl
  · obtain ⟨b, t, m, X, o, rfl, wr, k⟩ := h
    refine ⟨_, pss_cons (ps_expr (pe_call cB.F (hr.mono (by decide)) (by rfl) cB.g cB.kp cB.b .nil (lets (takes_of rfl rfl rfl rfl)) (pa_cons (pv 0) pa_nil)))
      (pss_cons (ps_expr (pe_call cT.F hr (by rfl) cT.g cT.kp cT.b .nil (lets (takes_of rfl rfl rfl rfl)) (pa_cons (pv 1) pa_nil)))
      (pss_cons (ps_expr (pe_call cM.F hr (by rfl) cM.g cM.kp cM.b .nil (lets (takes_of rfl rfl rfl rfl)) (pa_cons (pv 0) (pa_cons (pv 2) pa_nil)))) pss_never)), ?_⟩
    cases wr with
    | book h => obtain ⟨n, h⟩ := h; exact ⟨_, rfl, b, rfl, .inl ⟨_, h, k⟩⟩
    | @tree a u _ _ x h ht => exact ⟨_, rfl, _, rfl, .inr ⟨a, u, rfl, h, fun H1 e1 => ⟨_, rfl, t, _, rfl, ht.mono e1, fun z => (by cases z), fun v hv => by cases hv; exact RaiseI.go k e1⟩⟩⟩
    | @made a _ _ ht hm =>
      obtain ⟨tt, xs, ps, hb, _⟩ := hm.ex
      exact ⟨_, rfl, _, rfl, .inr ⟨a, _, rfl, hb, fun H1 e1 => ⟨_, rfl, t, _, rfl, ht.mono e1, fun _ H2 e2 => ⟨_, rfl, _, rfl, a, m, rfl, hm.mono (e1.trans e2), fun G e3 => k G ((e1.trans e2).trans e3)⟩, fun v hv => by cases hv⟩⟩⟩
abbrev nRun : List Str := ["book", "tree", "made", "build"]
abbrev nReads : List Str := ["book", "tree", "made", "build", "found", "behind", "looks", "path", "look"]
theorem scRun : FnScope nRun ["book", "tree", "made"] (defScope sRun) := ⟨rfl, rfl, rfl, by decide +kernel, rfl, by decide +kernel, by decide +kernel⟩
theorem ok_run {k : Nat} (hk : 5 ≤ k) {f : Addr} {fd : FuncData} (F : Fun K "run" "run" sRun f fd) (cL : Cal P w K mg base (L2.CX P w) 5 "build_for" ["book", "tree", "made"] (spWr K C Cb Ct Cm)) : FnOk P w K mg base (L2.CX P w) (k + 1) f fd ["book", "tree", "made"] (spWr K C Cb Ct Cm) := by
  refine F.okX scRun (fun vs H Q E h => ?_) (fun cdv A outer s H vs Q E hr h => ?_)
  · obtain ⟨b, t, m, X, o, rfl, _⟩ := h
    rfl
  · obtain ⟨b, t, m, X, o, rfl, wr, k⟩ := h
    refine ⟨_, pss_cons (ps_set (i := 3) scRun.nd rfl (Or.inl rfl) (pe_call cL.F (hr.mono hk) (by rfl) cL.g cL.kp cL.b .nil (lets (takes_of rfl rfl rfl rfl)) (pa_cons (pv 0) (pa_cons (pv 1) (pa_cons (pv 2) pa_nil))))) pss_never, ?_⟩
    exact q_raw ⟨_, rfl, _, rfl, _, rfl, b, t, m, X, o, rfl, wr, k⟩
abbrev nClean : List Str := ["book", "tree", "build", "made"]
end
end Bt
/-! steps, as far as their form goes -/
namespace Bt
open PySem PySem.Spec PyProof.Rows L2 Bk Bm Evl Be Cr Kr Bp Bl TL
abbrev sFrom : Stmt := top 99
abbrev sHasForm : Stmt := top 107
abbrev sFitS : Stmt := top 108
def inR (lo hi : Int) : V → Bool
  | .int i => decide (lo ≤ i) && decide (i ≤ hi)
  | _ => false
/-- a number, a truth value, or nothing -/
def Nv (v : V) : Prop := (∃ i, v = .int i) ∨ (∃ b, v = .bl b) ∨ v = .non
abbrev tx : Str := Str.ofString "text"
abbrev bk : Str := Str.ofString "book"
abbrev rn : Str := Str.ofString "run"
def fitS (many : Int) (f : Str) (v : V) : Bool := if f = tx then isTextV v else if f = bk then inR 0 (many - 1) v else if f = rn then inR 0 20 v else isPathV v
def steps10 : List (Str × List Str) := [(Str.ofString "write", [Str.ofString "file", tx]), (Str.ofString "back", [Str.ofString "file", tx]), (Str.ofString "drop", [Str.ofString "file"]), (Str.ofString "touch", [Str.ofString "file"]),
  (Str.ofString "spoil", [Str.ofString "made", tx]), (Str.ofString "lose", [Str.ofString "made"]), (Str.ofString "forget", [Str.ofString "made"]), (Str.ofString "swap", [bk]), (Str.ofString "build", []), (Str.ofString "cut", [rn])]
def stepOf (z : Str) : Option (List Str) := (steps10.find? fun p => decide (p.1 = z)).map (·.2)
def words11 : List Str := Str.ofString "Build" :: steps10.map (·.1)
/-- the module's dict of steps' forms -/
structure Stp (K : PySem.W.Frag) (w : World) (mg : Str → Option Value) (D : Addr) (es : Array DictEntry) (n : Nat) : Prop where
  g : mg "STEP_FORMS" = some (.ref D)
  d : KDict K w D es n
  at_ : ∀ z ∈ words11, match stepOf z with
    | some fs => ∃ t, PySem.W.nsIn K D z = some (some (.ref t)) ∧ ∀ H, SqT K H t (fs.map V.str)
    | none => PySem.W.nsIn K D z = some none
def stepB (many : Int) (x0 : V) (rest : List V) : Bool := match x0 with
  | .str z => (match stepOf z with
    | some fs => decide (rest.length = fs.length) && (fs.zip rest).all fun p => fitS many p.1 p.2
    | none => false)
  | _ => false
inductive Sv (K : PySem.W.Frag) (H : Hp) (many : Int) : V → Bool → Prop
  | no {v : V} {n : String} (k : Kd K H v n) (h : n ≠ "tuple") : Sv K H many v false
  | nil {a : Addr} (h : H a = some (.tup [])) : Sv K H many (.ref a) false
  | long {a : Addr} {x0 : V} {rest : List V} (h : H a = some (.tup (x0 :: rest))) (h0 : Sm H x0) (hk : ∀ z, x0 = .str z → z ∈ words11) (hr : ∀ x ∈ rest, Sm H x) (hl : rest.length ≤ 100)
      (hn : ∀ z fs, x0 = .str z → stepOf z = some fs → ∀ p ∈ fs.zip rest, (p.1 = bk ∨ p.1 = rn) → Nv p.2) : Sv K H many (.ref a) (stepB many x0 rest)
theorem Sv.mono {K : PySem.W.Frag} {H G : Hp} {many : Int} {v : V} {b : Bool} (e : Ex H G) (h : Sv K H many v b) : Sv K G many v b := by
  cases h with
  | no k h => exact .no (k.mono e) h
  | nil h => exact .nil (e _ _ h)
  | long h h0 hk hr hl hn => exact .long (e _ _ h) (h0.mono e) hk (fun x hx => (hr x hx).mono e) hl hn
section
variable {P : Program} {w : World} {K : PySem.W.Frag} {mg : Str → Option Value} {base : Heap}
theorem ev_isiX {σ : L2.St} {H : Hp} {te tx : TE} {v : V} {n m : String} {r : Bool} (h : Ev te σ H v) (hc : Ev tx σ H (.ty m)) (k : Kd K H v n) (hm : kitB n m = some r) : Ev (tCB (rIsi K) (tCons te (tCons tx tNil))) σ H (.bl r) := fun H1 e Q q =>
  h H1 e _ fun H2 e2 => hc H2 (e.trans e2) _ fun H3 e3 => by
    obtain ⟨ty, kk⟩ := id (k.mono ((e.trans e2).trans e3))
    exact ⟨v, .ty m, .type n, .type m, _, rfl, .ty m, ty, kit_ty hm, q H3 (e2.trans e3)⟩
theorem ev_notV {σ : L2.St} {H : Hp} {te : TE} {b : Bool} (h : Ev te σ H (.bl b)) : Ev (tNotV te) σ H (.bl (!b)) := fun H1 e Q q => h H1 e _ fun H2 e2 => ⟨b, rfl, q H2 e2⟩
theorem scFrom : FnScope ["value", "least", "most"] ["value", "least", "most"] (defScope sFrom) := ⟨rfl, rfl, rfl, by decide +kernel, rfl, by decide +kernel, by decide +kernel⟩
def spFrom : Sp := fun vs H Q _ => ∃ v lo hi, vs = [v, .int lo, .int hi] ∧ Nv v ∧ RetV (.bl (inR lo hi v)) H Q
theorem ok_from {f : Addr} {fd : FuncData} (F : Fun K "is_from_to" "is_from_to" sFrom f fd) (T : Gv mg) (hbool : mg "bool" = none) : FnOk P w K mg base CX0 1 f fd ["value", "least", "most"] spFrom := by
  refine F.ok scFrom (fun vs H Q E h => ?_) (fun cdv A outer s H vs Q E hr h => ?_)
  · obtain ⟨v, lo, hi, rfl, _⟩ := h
    rfl
  · obtain ⟨v, lo, hi, rfl, nv, k⟩ := h
    refine ⟨_, pss_one (ps_ret (pe_and (pe_callB call_isi (by rfl) T.isi boot_isinstance (pa_cons (pv 0) (pa_cons (pe_bltn (v := .ty "int") (by rfl) T.int (by decide +kernel) rfl) pa_nil)))
      (pe_and (pe_not (pe_callB call_isi (by rfl) T.isi boot_isinstance (pa_cons (pv 0) (pa_cons (pe_bltn (v := .ty "bool") (by rfl) hbool (by decide +kernel) rfl) pa_nil))))
      (pe_one (pe_chain op_le op_le (pv 1) (pv 0) (pv 2)))))), ?_⟩
    refine s_ret (v := .bl (inR lo hi v)) ?_ k
    rcases nv with ⟨i, rfl⟩ | ⟨b, rfl⟩ | rfl
    · refine ev_is (ev_and (a := true) (b := decide (lo ≤ i) && decide (i ≤ hi)) (ev_isiX (ev_var rfl) ev_c (kd_int i) (by decide +kernel)) fun _ => ?_) rfl
      refine ev_is (ev_and (a := true) (b := decide (lo ≤ i) && decide (i ≤ hi)) ?_ fun _ => ?_) rfl
      · exact ev_notV (ev_isiX (r := false) (ev_var rfl) ev_c (kd_int i) (by decide +kernel))
      · exact ev_chain (ev_var (i := 1) rfl) (ev_var (i := 0) rfl) rv_I0 (fun _ => ev_var (i := 2) rfl) (fun _ => rv_I0)
    · refine ev_is (ev_and (a := true) (b := false) (ev_isiX (ev_var rfl) ev_c (kd_bl b) (by decide +kernel)) fun _ => ?_) rfl
      exact ev_is (ev_and (a := false) (b := false) (ev_notV (ev_isiX (r := true) (ev_var rfl) ev_c (kd_bl b) (by decide +kernel))) fun h => (by cases h)) rfl
    · exact ev_is (ev_and (a := false) (b := false) (ev_isiX (ev_var rfl) ev_c kd_non (by decide +kernel)) fun h => (by cases h)) rfl
end
end Bt
namespace Bt
open PySem PySem.Spec PyProof.Rows L2 Bk Bm Evl Be Cr Kr Bp Bl TL
section
variable {P : Program} {w : World} {K : PySem.W.Frag} {mg : Str → Option Value} {base : Heap}
theorem scFitS : FnScope ["form", "value", "many"] ["form", "value", "many"] (defScope sFitS) := ⟨rfl, rfl, rfl, by decide +kernel, rfl, by decide +kernel, by decide +kernel⟩
def spFitS : Sp := fun vs H Q _ => ∃ f v many, vs = [.str f, v, .int many] ∧ Sm H v ∧ (f = bk ∨ f = rn → Nv v) ∧ RetV (.bl (fitS many f v)) H Q
theorem ok_fitS {f : Addr} {fd : FuncData} (F : Fun K "fits_step" "fits_step" sFitS f fd) (T : Gv mg) (hcut : ∃ t, mg "MOST_CUT" = some (.int 20 t)) (cT : Cal P w K mg base CX0 2 "is_text" ["value"] (spText (K := K))) (cP : Cal P w K mg base CX0 2 "is_path" ["value"] (spPath (K := K)))
    (cR : Cal P w K mg base CX0 1 "is_from_to" ["value", "least", "most"] spFrom) : FnOk P w K mg base CX0 3 f fd ["form", "value", "many"] spFitS := by
  refine F.ok scFitS (fun vs H Q E h => ?_) (fun cdv A outer s H vs Q E hr h => ?_)
  · obtain ⟨f, v, many, rfl, _⟩ := h
    rfl
  · obtain ⟨fo, v, many, rfl, sm, nv, k⟩ := h
    have hr1 : Room 1 _ := hr.mono (by decide)
    obtain ⟨t1, m1⟩ := hcut
    refine ⟨_, pss_cons (ps_if (pt_cmpR op_eq (pv 0) pe_str (nomark _)) (pss_one (ps_ret (pe_call cT.F hr (by rfl) cT.g cT.kp cT.b .nil pass0 (pa_cons (pv 1) pa_nil)))) pss_nil)
      (pss_cons (ps_if (pt_cmpR op_eq (pv 0) pe_str (nomark _)) (pss_one (ps_ret (pe_call cR.F hr1 (by rfl) cR.g cR.kp cR.b .nil pass0 (pa_cons (pv 1) (pa_cons pe_int (pa_cons (pe_op op_sub (pv 2) pe_int) pa_nil)))))) pss_nil)
      (pss_cons (ps_if (pt_cmpR op_eq (pv 0) pe_str (nomark _)) (pss_one (ps_ret (pe_call cR.F hr1 (by rfl) cR.g cR.kp cR.b .nil pass0 (pa_cons (pv 1) (pa_cons pe_int (pa_cons (pe_glob (v := .int 20) (by rfl) m1 ⟨_, rfl⟩) pa_nil)))))) pss_nil)
      (pss_one (ps_ret (pe_call cP.F hr (by rfl) cP.g cP.kp cP.b .nil pass0 (pa_cons (pv 1) pa_nil)))))), ?_⟩
    refine q_when (b := decide (fo = tx)) (et_is (et_test (ev_op (ev_var rfl) ev_c (rv_eq rfl))) strEq) (fun hb H1 e1 => ?_) (fun hb H1 e1 => ?_)
    · refine s_ret (v := .bl (fitS many fo v)) (ev_is (ev_call (ea_cons (ev_var rfl) ea_nil) (spv_text (sm.mono e1))) ?_) fun H2 e2 => k H2 (e1.trans e2)
      unfold fitS
      rw [if_pos (by simpa using hb)]
    have n1 : ¬ fo = tx := by simpa using hb
    clear hb
    refine q_when (b := decide (fo = bk)) (et_is (et_test (ev_op (ev_var rfl) ev_c (rv_eq rfl))) strEq) (fun hb H2 e2 => ?_) (fun hb H2 e2 => ?_)
    · have hb' : fo = bk := by simpa using hb
      refine s_ret (v := .bl (fitS many fo v)) (ev_is (ev_call (z := .bl (inR 0 (many - 1) v)) (ea_cons (ev_var rfl) (ea_cons ev_c (ea_cons (ev_op (ev_var rfl) ev_c rv_I0) ea_nil))) fun H3 e3 Q' q' E' => ⟨v, 0, many - 1, rfl, nv (.inl hb'), q'⟩) ?_) fun H3 e3 => k H3 ((e1.trans e2).trans e3)
      unfold fitS
      rw [if_neg n1, if_pos hb']
    have n2 : ¬ fo = bk := by simpa using hb
    clear hb
    refine q_when (b := decide (fo = rn)) (et_is (et_test (ev_op (ev_var rfl) ev_c (rv_eq rfl))) strEq) (fun hb H3 e3 => ?_) (fun hb H3 e3 => ?_)
    · have hb' : fo = rn := by simpa using hb
      refine s_ret (v := .bl (fitS many fo v)) (ev_is (ev_call (z := .bl (inR 0 20 v)) (ea_cons (ev_var rfl) (ea_cons ev_c (ea_cons ev_c ea_nil))) fun H4 e4 Q' q' E' => ⟨v, 0, 20, rfl, nv (.inr hb'), q'⟩) ?_) fun H4 e4 => k H4 (((e1.trans e2).trans e3).trans e4)
      unfold fitS
      rw [if_neg n1, if_neg n2, if_pos hb']
    have n3 : ¬ fo = rn := by simpa using hb
    refine s_ret (v := .bl (fitS many fo v)) (ev_is (ev_call (ea_cons (ev_var rfl) ea_nil) (spv_path (sm.mono ((e1.trans e2).trans e3)))) ?_) fun H4 e4 => k H4 (((e1.trans e2).trans e3).trans e4)
    unfold fitS
    rw [if_neg n1, if_neg n2, if_neg n3]
/-- [.. for x, y in zip(a tuple, a tuple)], the two at 4 and 5 -/
theorem el_lcZ6 {te : TE} {ta : TA} {H : Hp} {a b : Addr} {xs ys bs : List V} {v0 v1 v2 v3 : Option V} (h : EvA ta [v0, v1, v2, v3, none, none] H [.ref a, .ref b]) (hx : SqT K H a xs) (hy : SqT K H b ys) (hl : xs.length = ys.length) (hz : xs.length ≤ 40000) (hb : bs.length = xs.length)
    (he : ∀ (i : Nat) (x y z : V) (H1 : Hp), Ex H H1 → xs[i]? = some x → ys[i]? = some y → bs[i]? = some z → Ev te [v0, v1, v2, v3, some x, some y] H1 z) :
    EvL (tLc (RZ.iZipA K ta) (gTup K 2 (gCons (gName 4) (gCons (gName 5) gNil))) tYes te [4, 5]) [v0, v1, v2, v3, none, none] H bs := fun H0 e Q q => h H0 e _ fun H1 e1 =>
  ⟨a, b, xs, ys, rfl, .inr ⟨ex_t (e.trans e1) hx, ex_t (e.trans e1) hy, fun D hD =>
    lc_it (walk_zipT (K := K) (a := a) (b := b) (xs := xs) (ys := ys) (n := xs.length) (by omega)) (fun i G => Ex H1 G ∧ G D = some (.lst (bs.take i))) ⟨Ex.new hD, upd_same⟩
      (fun i G _ p => ⟨ex_t ((e.trans e1).trans p.1) hx, ex_t ((e.trans e1).trans p.1) hy⟩) (by
      rintro i v G G' hi ⟨s1, hd⟩ ⟨T, x, y, rfl, hT, rfl, h1, h2⟩
      have e2 := Ex.new (o := .tup [x, y]) hT
      have hib : i < bs.length := by omega
      have h3 : bs[i]? = some bs[i] := List.getElem?_eq_getElem hib
      refine ⟨T, [x, y], rfl, SqT.of upd_same, rfl, x, [y], rfl, y, [], rfl, rfl, ?_⟩
      refine ⟨rfl, ?_⟩
      unfold tYes
      dsimp only
      rw [if_pos rfl]
      have nT : T ≠ D := (ne_of_none hd hT).symm
      refine he i x y bs[i] _ ((e.trans e1).trans (s1.trans e2)) h1 h2 h3 _ (Ex.refl _) _ fun G2 e3 => ⟨_, e3 D _ (e2 D _ hd), sz_lt ?_, ((s1.trans e2).trans e3).mut hD, ?_⟩
      · have h3 := List.length_take_le' i bs
        omega
      · rw [upd_same, List.take_succ, h3]
        rfl) (by
      rintro G ⟨s1, hd⟩
      refine q D G (fresh_back e1 hD) (e1.trans s1) ?_
      rw [hd, List.take_of_length_le (by omega)])⟩⟩
theorem step_few : ∀ z ∈ words11, ∀ fs, stepOf z = some fs → fs.length ≤ 2 := by decide +kernel
theorem scHasForm : FnScope ["value", "many", "word", "things", "form", "thing"] ["value", "many"] (defScope sHasForm) := ⟨rfl, rfl, rfl, by decide +kernel, rfl, by decide +kernel, by decide +kernel⟩
def spHasForm (K : PySem.W.Frag) : Sp := fun vs H Q _ => ∃ v many b, vs = [v, .int many] ∧ Sv K H many v b ∧ RetV (.bl b) H Q
theorem ok_hasForm {f : Addr} {fd : FuncData} {D : Addr} {es : Array DictEntry} {n : Nat} (F : Fun K "has_step_form" "has_step_form" sHasForm f fd) (T : Gv mg) (Fm : Stp K w mg D es n) (cF : Cal P w K mg base CX0 3 "fits_step" ["form", "value", "many"] spFitS) :
    FnOk P w K mg base CX0 4 f fd ["value", "many"] (spHasForm K) := by
  refine F.ok scHasForm (fun vs H Q E h => ?_) (fun cdv A outer s H vs Q E hr h => ?_)
  · obtain ⟨x, many, b, rfl, _⟩ := h
    rfl
  · obtain ⟨v, many, b, rfl, sv, k⟩ := h
    refine ⟨_, pss_cons (ps_if (pw_or (pt_not (pt_val (pe_callB call_isi (by rfl) T.isi boot_isinstance (pa_cons (pv 0) (pa_cons (pe_bltn (v := .ty "tuple") (by rfl) T.tup (by decide +kernel) rfl) pa_nil)))))
        (pw_or1 (pt_cmpR op_eq (pe_callB call_len_seq (by rfl) T.len PySem.boot_len (pa_cons (pv 0) pa_nil)) pe_int (nomark _)))).pt (pss_one (ps_ret pe_bl)) pss_nil)
      (pss_cons (ps_par (i := 2) (j := 3) rfl scHasForm.nd rfl rfl (by decide) rfl rfl (pa_cons (pe_ix ix_tup (pv 0) pe_int (fun _ _ => rfl)) (pa_cons (pe_slice sl_tupA (pv 0) (po_some pe_int) po_none) pa_nil)) (by rfl))
      (pss_cons (ps_if (pw_or (pt_not (pt_val (pe_callB call_isi (by rfl) T.isi boot_isinstance (pa_cons (pv 2) (pa_cons (pe_bltn (v := .ty "str") (by rfl) T.str (by decide +kernel) rfl) pa_nil)))))
        (pw_or (pt_cmpR (op_notIn_kd Fm.d) (pv 2) (pe_glob (v := .ref D) (by rfl) Fm.g rfl) (by rfl))
        (pw_or1 (pt_cmpR op_ne (pe_callB call_len_seq (by rfl) T.len PySem.boot_len (pa_cons (pv 3) pa_nil)) (pe_callB call_len_seq (by rfl) T.len PySem.boot_len (pa_cons (pe_ix ix_kdict (pe_glob (v := .ref D) (by rfl) Fm.g rfl) (pv 2) (fun _ _ => rfl)) pa_nil)) (nomark _))))).pt (pss_one (ps_ret pe_bl)) pss_nil)
      (pss_one (ps_ret (pe_callB (cr_all rfl) (by rfl) T.all boot_all (pa_cons (pe_lc (own := [("form", 4), ("thing", 5)]) (g := gTup K 2 (gCons (gName 4) (gCons (gName 5) gNil))) (tt := tYes) rfl scHasForm.nd
        (RZ.pi_zipA (by rfl) T.zip (pa_cons (pe_ix ix_kdict (pe_glob (v := .ref D) (by rfl) Fm.g rfl) (pv 2) (fun _ _ => rfl)) (pa_cons (pv 3) pa_nil))) (blkOk_by (N := ["value", "many", "word", "things", "form", "thing"]) (sc := defScope sHasForm) (by decide +kernel))
        (fun _ _ _ _ _ => pg_tup rfl (pgs_cons (pg_name (i := 4) scHasForm.nd rfl (Or.inl rfl)) (pgs_cons (pg_name (i := 5) scHasForm.nd rfl (Or.inl rfl)) pgs_nil))) (fun _ _ _ _ _ => pts_nil)
        (fun _ _ _ _ _ => pe_call cF.F hr rfl cF.g cF.kp cF.b .nil pass0 (pa_cons (pv 4) (pa_cons (pv 5) (pa_cons (pv 1) pa_nil))))) pa_nil)))))), ?_⟩
    cases sv with
    | no kd hn =>
      refine q_when (b := true) (et_is (et_or (b := true) (et_not (et_B (ev_isi (ev_var rfl) ev_c kd (.inr rfl)))) fun hb => ?_) ?_) (fun _ H1 e1 => ?_) (fun hb => by cases hb)
      · simp [hn] at hb
      · simp [hn]
      · exact s_ret (v := .bl false) ev_c fun H2 e2 => k H2 (e1.trans e2)
    | @nil a h =>
      refine q_when (b := true) (et_is (et_or (b := true) (et_not (et_B (ev_isi (ev_var rfl) ev_c (kd_tup h) (.inr rfl)))) fun hb => ?_) (by simp)) (fun _ H1 e1 => ?_) (fun hb => by cases hb)
      · exact et_is (et_test (ev_op (ev_lenT (ev_var rfl) (st_of h)) ev_c (rv_eq rfl))) (by simp)
      · exact s_ret (v := .bl false) ev_c fun H2 e2 => k H2 (e1.trans e2)
    | @long a x1 rest h h1 hk hrs hl hn =>
      refine q_when (b := false) (et_is (et_or (b := false) (et_not (et_B (ev_isi (ev_var rfl) ev_c (kd_tup h) (.inr rfl)))) fun hb => ?_) (by simp)) (fun hb => by cases hb) (fun hb H1 e1 => ?_)
      · refine et_is (et_test (ev_op (ev_lenT (ev_var rfl) (st_of h)) ev_c (rv_eq rfl))) (decide_eq_false fun z => ?_)
        injection z with z
        simp at z
        omega
      refine ev_op (z := x1) (ev_var (i := 0) rfl) ev_c (rv_ixT (st_of (e1 _ _ h)) (atI_nat (j := 0) rfl)) H1 (Ex.refl _) _ fun H2 e2 => ?_
      refine slice_from (i := 1) (ev_var (i := 0) rfl) ev_c (st_of ((e1.trans e2) _ _ h)) (by simp) H2 (Ex.refl _) _ fun p H3 e3 hp => ?_
      have hp' : SqT K H3 p rest := hp
      refine ⟨_, _, rfl, ?_⟩
      have eG := (e1.trans e2).trans e3
      have hσ : (((L2.start ["value", "many", "word", "things", "form", "thing"] [V.ref a, V.int many]).set 2 (some x1)).set 3 (some (.ref p)) : L2.St) = [some (.ref a), some (.int many), some x1, some (.ref p), none, none] := rfl
      rw [hσ]
      dsimp only
      obtain ⟨n1, kd1⟩ := (h1.mono eG).kd (K := K)
      have test2 : ∀ {b : Bool} {t2 : TT}, (n1 = "str" → EvT t2 ([some (.ref a), some (.int many), some x1, some (.ref p), none, none] : L2.St) H3 b) → EvT (tOr (tNot (tB (tCB (rIsi K) (tCons (tVar 2) (tCons (tC (.ty "str")) tNil))))) t2) ([some (.ref a), some (.int many), some x1, some (.ref p), none, none] : L2.St) H3 (!decide (n1 = "str") || b) :=
        fun h2 => et_or (et_not (et_B (ev_isi (ev_var rfl) ev_c kd1 (.inl rfl)))) fun hb => h2 (by simpa using hb)
      by_cases hs : n1 = "str"
      · subst hs
        obtain ⟨z, rfl⟩ := kd_isStr kd1
        have hz := hk z rfl
        have hat := Fm.at_ z hz
        cases hfo : stepOf z with
        | none =>
          rw [hfo] at hat
          refine q_when (b := true) (et_is (test2 (b := true) fun _ => et_is (et_or (a := true) (b := true) (et_test (ev_op (z := .bl true) (ev_var rfl) ev_c fun H4 e4 Q' q' => ⟨z, none, rfl, rfl, hat, q' H4 (Ex.refl _)⟩)) fun zz => by cases zz) rfl) (by simp)) (fun _ H4 e4 => ?_) (fun hb => by cases hb)
          refine s_ret (v := .bl (stepB many (.str z) rest)) (ev_is ev_c ?_) fun H5 e5 => k H5 ((eG.trans e4).trans e5)
          unfold stepB
          simp only [hfo]
        | some fs =>
          rw [hfo] at hat
          obtain ⟨t, ht, hT⟩ := hat
          have item : ∀ {H4 : Hp}, Ev (tOp (rIxD K w) (tC (.ref D)) (tVar 2)) ([some (.ref a), some (.int many), some (.str z), some (.ref p), none, none] : L2.St) H4 (.ref t) := fun {H4} => ev_op ev_c (ev_var rfl) fun H5 e5 Q' q' => ⟨D, z, .ref t, rfl, rfl, ⟨es, n, _, Fm.d.at_, Fm.d.lit, ht, rfl⟩, q' H5 (Ex.refl _)⟩
          refine q_when (b := !decide (rest.length = fs.length)) (et_is (test2 (b := !decide (rest.length = fs.length)) fun _ => et_is (et_or (a := false) (b := !decide (rest.length = fs.length)) (et_test (ev_op (z := .bl false) (ev_var rfl) ev_c fun H4 e4 Q' q' => ⟨z, some (.ref t), rfl, rfl, ht, q' H4 (Ex.refl _)⟩)) fun _ => ?_) (by simp)) (by simp)) (fun hb H4 e4 => ?_) (fun hb H4 e4 => ?_)
          · refine et_is (et_test (ev_op (ev_lenT (ev_var rfl) hp') (ev_lenT item (hT _)) (rv_ne rfl))) ?_
            rw [List.length_map]
            congr 1
            exact decide_eq_decide.mpr ⟨fun h => by injection h with h; omega, fun h => by rw [h]⟩
          · refine s_ret (v := .bl (stepB many (.str z) rest)) (ev_is ev_c ?_) fun H5 e5 => k H5 ((eG.trans e4).trans e5)
            have hb' : decide (rest.length = fs.length) = false := by simpa using hb
            unfold stepB
            simp only [hfo]
            rw [hb']
            rfl
          · have hb' : rest.length = fs.length := by simpa using hb
            have f3 := step_few z hz fs hfo
            refine s_ret (v := .bl (stepB many (.str z) rest)) ?_ fun H5 e5 => k H5 ((eG.trans e4).trans e5)
            refine ev_is (ev_all (bs := (fs.zip rest).map fun p => fitS many p.1 p.2) (el_lcZ6 (K := K) (xs := fs.map V.str) (ys := rest) (ea_cons item (ea_cons (ev_var rfl) ea_nil)) (hT _) (ex_t e4 hp') (by rw [List.length_map]; omega) (by rw [List.length_map]; omega) ?_ ?_)) ?_
            · simp only [List.length_map, List.length_zip]
              omega
            · intro i x y zz H5 e5 hx hy hzz
              rw [List.getElem?_map] at hx
              cases eg : fs[i]? with
              | none => rw [eg] at hx; cases hx
              | some g =>
                rw [eg] at hx
                have ex : V.str g = x := Option.some.inj hx
                subst ex
                have z3 : (fs.zip rest)[i]? = some (g, y) := List.getElem?_zip_eq_some.mpr ⟨eg, hy⟩
                have ezz : zz = .bl (fitS many g y) := by
                  rw [List.getElem?_map, List.getElem?_map, z3] at hzz
                  exact (Option.some.inj hzz).symm
                subst ezz
                exact ev_call (ea_cons (ev_var rfl) (ea_cons (ev_var rfl) (ea_cons (ev_var rfl) ea_nil))) fun H6 e6 Q' q' E' => ⟨g, y, many, rfl, (hrs y (List.mem_of_getElem? hy)).mono (((eG.trans e4).trans e5).trans e6), hn z fs rfl hfo (g, y) (List.mem_of_getElem? z3), q'⟩
            · unfold stepB
              simp only [hfo, hb', decide_true, Bool.true_and]
              simp [List.all_map]
      · refine q_when (b := true) (et_is (test2 (b := true) fun z => absurd z hs) (by simp)) (fun _ H4 e4 => ?_) (fun hb => by cases hb)
        refine s_ret (v := .bl (stepB many x1 rest)) (ev_is ev_c ?_) fun H5 e5 => k H5 ((eG.trans e4).trans e5)
        cases x1 with
        | str z => exact absurd (kd_strV kd1) hs
        | _ => rfl
end
end Bt
namespace Bt
open PySem PySem.Spec PyProof.Rows L2 Bk Bm Evl Be Cr Kr Bp Bl TL
section
variable {X : Cx} {K : PySem.W.Frag}
theorem pi_listK {tg l : Expr} {tl : TE} (hK : X.K = K) (hl : PE X l tl) : PI X tg l (iList K tl) := by
  subst hK
  exact pi_list hl
end
abbrev sIsStep : Stmt := top 106
abbrev sStepPaths : Stmt := top 109
/-- a book that makes M -/
def BoK (H : Hp) (C : Addr) (M : List Str) (v : V) : Prop := ∃ c t xs ps, v = .ref c ∧ BkAt H C c (.ref t) ∧ H t = some (.tup xs) ∧ Heads H xs ps ∧ ps.length ≤ 20 ∧ ∀ y, y ∈ ps ↔ y ∈ M
theorem BoK.mono {H G : Hp} {C : Addr} {M : List Str} {v : V} (e : Ex H G) (h : BoK H C M v) : BoK G C M v := by
  obtain ⟨c, t, xs, ps, h1, h2, h3, h4, h5, h6⟩ := h
  exact ⟨c, t, xs, ps, h1, h2.mono e, e _ _ h3, h4.mono e, h5, h6⟩
structure BsAt (H : Hp) (C : Addr) (M : List Str) (b : Addr) (xs : List V) : Prop where
  at_ : H b = some (.tup xs)
  one : 1 ≤ xs.length
  few : xs.length ≤ 3
  all : ∀ x ∈ xs, BoK H C M x
theorem BsAt.mono {H G : Hp} {C b : Addr} {M : List Str} {xs : List V} (e : Ex H G) (h : BsAt H C M b xs) : BsAt G C M b xs := ⟨e _ _ h.at_, h.one, h.few, fun x hx => (h.all x hx).mono e⟩
abbrev fm (p : Str × V) : Bool := decide (p.1 = Str.ofString "file") || decide (p.1 = Str.ofString "made")
/-- the pairs of forms and things -/
def PrAt (H : Hp) (v : V) (p : Str × V) : Prop := ∃ c, v = .ref c ∧ H c = some (.tup [.str p.1, p.2])
theorem PrAt.mono {H G : Hp} {v : V} {p : Str × V} (e : Ex H G) (h : PrAt H v p) : PrAt G v p := by
  obtain ⟨c, h1, h2⟩ := h
  exact ⟨c, h1, e _ _ h2⟩
theorem beq_dec (a g : Str) : (a == g) = decide (g = a) := by
  rw [Bool.eq_iff_iff, beq_iff_eq, decide_eq_true_eq]
  exact eq_comm
theorem in_fm {g : Str} : inV (.str g) [.str (Str.ofString "file"), .str (Str.ofString "made")] = fm (g, .non) := by
  show ((Str.ofString "file" == g) || ((Str.ofString "made" == g) || false)) = (decide (g = Str.ofString "file") || decide (g = Str.ofString "made"))
  rw [Bool.or_false, beq_dec, beq_dec]
section
variable {P : Program} {w : World} {K : PySem.W.Frag} {mg : Str → Option Value} {base : Heap} {C fI pR fG fL fE : Addr}
theorem scStepPaths : FnScope ["step", "form", "thing"] ["step"] (defScope sStepPaths) := ⟨rfl, rfl, rfl, by decide +kernel, rfl, by decide +kernel, by decide +kernel⟩
def spStepPaths : Sp := fun vs H Q _ => ∃ (a : Addr) (z : Str) (rest : List V) (fs : List Str), vs = [.ref a] ∧ H a = some (.tup (.str z :: rest)) ∧ z ∈ words11 ∧ stepOf z = some fs ∧ rest.length = fs.length ∧
  ∀ l ws H', Ex H H' → H l = none → H' l = some (.lst ws) → Paired (PrAt H') ws ((fs.zip rest).filter fm) → Q (.ref l) H'
theorem ok_stepPaths {f : Addr} {fd : FuncData} {D : Addr} {es : Array DictEntry} {n : Nat} (F : Fun K "step_paths" "step_paths" sStepPaths f fd) (T : Gv mg) (Fm : Stp K w mg D es n) : FnOk P w K mg base CX0 1 f fd ["step"] spStepPaths := by
  refine F.ok scStepPaths (fun vs H Q E h => ?_) (fun cdv A outer s H vs Q E hr h => ?_)
  · obtain ⟨a, z, rest, fs, rfl, _⟩ := h
    rfl
  · obtain ⟨a, z, rest, fs, rfl, ha, hz, hfo, hl, k⟩ := h
    refine ⟨_, pss_one (ps_ret (pe_lc (own := [("form", 1), ("thing", 2)]) (g := gTup K 2 (gCons (gName 1) (gCons (gName 2) gNil))) rfl scStepPaths.nd
        (RZ.pi_zipA (by rfl) T.zip (pa_cons (pe_ix ix_kdict (pe_glob (v := .ref D) (by rfl) Fm.g rfl) (pe_ix (r := rIxT K) ix_tup (pv 0) pe_int (fun _ _ => rfl)) (fun _ _ => rfl)) (pa_cons (pe_slice sl_tupA (pv 0) (po_some pe_int) po_none) pa_nil))) (blkOk_by (N := ["step", "form", "thing"]) (sc := defScope sStepPaths) (by decide +kernel))
        (fun _ _ _ _ _ => pg_tup rfl (pgs_cons (pg_name (i := 1) scStepPaths.nd rfl (Or.inl rfl)) (pgs_cons (pg_name (i := 2) scStepPaths.nd rfl (Or.inl rfl)) pgs_nil)))
        (fun _ _ _ _ _ => pts_one (pt_cmpR (r := rIn K false) op_in_seq (pv 1) (pe_tup (pa_cons pe_str (pa_cons pe_str pa_nil))) rfl)) (fun _ _ _ _ _ => pe_tup (pa_cons (pv 1) (pa_cons (pv 2) pa_nil))))), ?_⟩
    have hat := Fm.at_ z hz
    rw [hfo] at hat
    obtain ⟨t, ht, hT⟩ := hat
    have few := step_few z hz fs hfo
    refine ev_op (z := .ref t) ev_c (ev_op (ev_var (i := 0) rfl) ev_c (rv_ixT (st_of ha) (atI_nat (j := 0) rfl))) (fun H5 e5 Q' q' => ⟨D, z, .ref t, rfl, rfl, ⟨es, n, _, Fm.d.at_, Fm.d.lit, ht, rfl⟩, q' H5 (Ex.refl _)⟩) H (Ex.refl _) _ fun H1 e1 => ?_
    refine slice_from (i := 1) (ev_var (i := 0) rfl) ev_c (st_of (e1 _ _ ha)) (by simp) H1 (Ex.refl _) _ fun p H3 e3 hp => ?_
    have hp' : SqT K H3 p rest := hp
    have e13 := e1.trans e3
    refine ⟨t, p, fs.map V.str, rest, rfl, .inr ⟨hT _, hp', fun D2 hD2 => walk_w (walk_zipT (K := K) (a := t) (b := p) (xs := fs.map V.str) (ys := rest) (n := fs.length) (by rw [List.length_map]; omega)) (fun i F => Ex H3 F ∧ ∃ ws, F D2 = some (.lst ws) ∧ Paired (PrAt F) ws (((fs.zip rest).take i).filter fm))
      ⟨Ex.new hD2, [], upd_same, by simpa using Paired.nil⟩ (fun i F _ q => ⟨hT _, ex_t q.1 hp'⟩) (fun i x F F' hi q y => ?_) (fun F q => ?_)⟩⟩
    · obtain ⟨eF, ws, hF, pr⟩ := q
      obtain ⟨T0, x0, y0, rfl, hT0, rfl, hx, hy⟩ := y
      dsimp only at hx hy
      rw [List.getElem?_map] at hx
      obtain ⟨g, hg, rfl⟩ : ∃ g, fs[i]? = some g ∧ x0 = V.str g := by
        cases e : fs[i]? with
        | none => rw [e] at hx; cases hx
        | some g => rw [e] at hx; exact ⟨g, rfl, (Option.some.inj hx).symm⟩
      have z3 : (fs.zip rest)[i]? = some (g, y0) := List.getElem?_zip_eq_some.mpr ⟨hg, hy⟩
      have eT := Ex.new (o := .tup [V.str g, y0]) hT0
      refine ⟨T0, _, rfl, SqT.of upd_same, rfl, _, _, rfl, _, _, rfl, rfl, ?_⟩
      have step : ((fs.zip rest).take (i + 1)).filter fm = ((fs.zip rest).take i).filter fm ++ if fm (g, y0) = true then [(g, y0)] else [] := by
        rw [List.take_succ, z3, List.filter_append]
        congr 1
        show List.filter fm [(g, y0)] = _
        rw [List.filter_cons]
        rfl
      have wl := pr_len pr
      have wl2 : ws.length ≤ 2 := by
        have h3 := List.length_filter_le fm ((fs.zip rest).take i)
        have h4 := List.length_take_le' i (fs.zip rest)
        rw [List.length_zip] at h4
        omega
      have hF1 := eT _ _ hF
      have pr1 : Paired (PrAt (upd F T0 (.tup [V.str g, y0]))) ws (((fs.zip rest).take i).filter fm) := pr_mono pr fun _ _ h => h.mono eT
      replace eF := eF.trans eT
      generalize upd F T0 (.tup [V.str g, y0]) = F1 at hF1 pr1 eF ⊢
      refine ⟨rfl, ?_⟩
      refine ⟨_, rfl, by show 2 ≤ sizeLine; decide, fun q hq => ⟨q, [.str (Str.ofString "file"), .str (Str.ofString "made")], rfl, .inr (st_of upd_same), rfl, rfl, ?_⟩⟩
      have eq1 := Ex.new (o := .tup [V.str (Str.ofString "file"), V.str (Str.ofString "made")]) hq
      rw [if_neg (by decide), in_fm]
      have hF2 := eq1 _ _ hF1
      have pr2 : Paired (PrAt (upd F1 q (.tup [V.str (Str.ofString "file"), V.str (Str.ofString "made")]))) ws (((fs.zip rest).take i).filter fm) := pr_mono pr1 fun _ _ h => h.mono eq1
      replace eF := eF.trans eq1
      generalize upd F1 q (.tup [V.str (Str.ofString "file"), V.str (Str.ofString "made")]) = F2 at hF2 pr2 eF ⊢
      have efm : fm (g, V.non) = fm (g, y0) := rfl
      rw [efm]
      refine ⟨_, rfl, ?_⟩
      cases hfm : fm (g, y0) with
      | false =>
        refine iteF ?_
        rw [step, hfm, if_neg (by decide), List.append_nil]
        exact ⟨eF, ws, hF2, pr2⟩
      | true =>
        refine iteT ⟨_, rfl, _, rfl, by show 2 ≤ sizeLine; decide, fun c hc => ?_⟩
        have ec := Ex.new (o := .tup [V.str g, y0]) hc
        refine ⟨ws, ec _ _ hF2, sz_lt (by omega), (eF.trans ec).mut hD2, ws ++ [.ref c], upd_same, ?_⟩
        rw [step, hfm, if_pos rfl]
        have keep : ∀ {v : V} {p : Str × V}, PrAt (upd F2 c (.tup [V.str g, y0])) v p → PrAt (upd (upd F2 c (.tup [V.str g, y0])) D2 (.lst (ws ++ [.ref c]))) v p := by
          rintro v p ⟨b, h1, h2⟩
          exact ⟨b, h1, by rw [upd_ne (ne_of h2 (ec _ _ hF2) (by intro z; cases z))]; exact h2⟩
        exact pr_app (pr_mono pr2 fun _ _ h => keep (h.mono ec)) (.cons (keep ⟨c, rfl, upd_same⟩) .nil)
    · obtain ⟨eF, ws, hF, pr⟩ := q
      have e : (fs.zip rest).take fs.length = fs.zip rest := List.take_of_length_le (by rw [List.length_zip]; omega)
      rw [e] at pr
      exact k D2 ws F (e13.trans eF) (fresh_back e13 hD2) hF pr
end
end Bt
namespace Bt
open PySem PySem.Spec PyProof.Rows L2 Bk Bm Evl Be Cr Kr Bp Bl TL
/-- a value that is no step -/
inductive OS (K : PySem.W.Frag) (H : Hp) (M : List Str) (many : Int) : V → Prop
  | form {v : V} (h : Sv K H many v false) : OS K H M many v
  | mis {a : Addr} {z : Str} {rest : List V} {fs : List Str} {p : Str × V} {y : Str} (h : Sv K H many (.ref a) true) (ha : H a = some (.tup (.str z :: rest))) (hz : z ∈ words11) (hfo : stepOf z = some fs) (hl : rest.length = fs.length)
      (hp : p ∈ (fs.zip rest).filter fm) (hy : p.2 = .str y) (hm : decide (y ∈ M) ≠ decide (p.1 = Str.ofString "made")) (hall : ∀ q ∈ (fs.zip rest).filter fm, ∃ y, q.2 = .str y) : OS K H M many (.ref a)
theorem OS.mono {K : PySem.W.Frag} {H G : Hp} {M : List Str} {many : Int} {v : V} (e : Ex H G) (h : OS K H M many v) : OS K G M many v := by
  cases h with
  | form h => exact .form (h.mono e)
  | mis h ha hz hfo hl hp hy hm hall => exact .mis (h.mono e) (e _ _ ha) hz hfo hl hp hy hm hall
/-- a value, and whether it is a step -/
def okP (M : List Str) (q : Str × V) : Bool := match q.2 with
  | .str y => decide (decide (y ∈ M) = decide (q.1 = Str.ofString "made"))
  | _ => false
inductive StV (K : PySem.W.Frag) (H : Hp) (M : List Str) (many : Int) : V → Bool → Prop
  | form {v : V} (h : Sv K H many v false) : StV K H M many v false
  | into {a : Addr} {z : Str} {rest : List V} {fs : List Str} (h : Sv K H many (.ref a) true) (ha : H a = some (.tup (.str z :: rest))) (hz : z ∈ words11) (hfo : stepOf z = some fs) (hl : rest.length = fs.length)
      (hall : ∀ q ∈ (fs.zip rest).filter fm, ∃ y, q.2 = .str y) : StV K H M many (.ref a) ((((fs.zip rest).filter fm).map (okP M)).all id)
theorem StV.mono {K : PySem.W.Frag} {H G : Hp} {M : List Str} {many : Int} {v : V} {b : Bool} (e : Ex H G) (h : StV K H M many v b) : StV K G M many v b := by
  cases h with
  | form h => exact .form (h.mono e)
  | into h ha hz hfo hl hall => exact .into (h.mono e) (e _ _ ha) hz hfo hl hall
theorem OS.stv {K : PySem.W.Frag} {H : Hp} {M : List Str} {many : Int} {v : V} (h : OS K H M many v) : StV K H M many v false := by
  cases h with
  | form h => exact .form h
  | @mis a z rest fs p y h ha hz hfo hl hp hy hm hall =>
    have t := StV.into (M := M) h ha hz hfo hl hall
    have e : (((fs.zip rest).filter fm).map (okP M)).all id = false := by
      rw [← Bool.not_eq_true, List.all_eq_true]
      intro hh
      have := hh _ (List.mem_map.mpr ⟨p, hp, rfl⟩)
      unfold okP at this
      rw [hy] at this
      exact hm (of_decide_eq_true this)
    rw [e] at t
    exact t
theorem rv_bb {H : Hp} (A B : Bool) : RV rEq (.bl A) (.bl B) H (.bl (decide (A = B))) := by
  have h := rv_eq (x := V.bl A) (y := V.bl B) (H := H) rfl
  rwa [show decide (V.bl A = V.bl B) = decide (A = B) from decide_eq_decide.mpr ⟨fun h => by injection h, fun h => by rw [h]⟩] at h
theorem inV_strs {y : Str} : ∀ {zs : List Str}, inV (.str y) (zs.map V.str) = decide (y ∈ zs)
  | [] => by simp [inV]
  | z :: r => by
    have ih := inV_strs (y := y) (zs := r)
    show ((z == y) || inV (.str y) (r.map V.str)) = _
    rw [ih, beq_dec, Bool.eq_iff_iff, Bool.or_eq_true, decide_eq_true_eq, decide_eq_true_eq, decide_eq_true_eq, List.mem_cons]
theorem flat_strs (zs : List Str) : (zs.map V.str).all flatV = true := by
  rw [List.all_eq_true]
  intro x hx
  obtain ⟨y, _, rfl⟩ := List.mem_map.mp hx
  rfl
section
variable {P : Program} {w : World} {K : PySem.W.Frag} {mg : Str → Option Value} {base : Heap} {C fI pR fG fL fE : Addr}
abbrev nIsStep : List Str := ["value", "books", "made", "book", "path", "form", "thing"]
theorem scIsStep : FnScope nIsStep ["value", "books"] (defScope sIsStep) := ⟨rfl, rfl, rfl, by decide +kernel, rfl, by decide +kernel, by decide +kernel⟩
def spIsStep (K : PySem.W.Frag) (C : Addr) : Sp := fun vs H Q _ => ∃ v b xs M r, vs = [v, .ref b] ∧ BsAt H C M b xs ∧ StV K H M (xs.length : Int) v r ∧ RetV (.bl r) H Q
theorem ok_isStep {f : Addr} {fd : FuncData} (F : Fun K "is_step" "is_step" sIsStep f fd) (T : Gv mg) (cF : Cal P w K mg base CX0 4 "has_step_form" ["value", "many"] (spHasForm K)) (cM : Cal P w K mg base CX0 3 "made_paths" ["book"] (spMade (K := K) C))
    (cS : Cal P w K mg base CX0 1 "step_paths" ["step"] spStepPaths) : FnOk P w K mg base CX0 5 f fd ["value", "books"] (spIsStep K C) := by
  refine F.ok scIsStep (fun vs H Q E h => ?_) (fun cdv A outer s H vs Q E hr h => ?_)
  · obtain ⟨v, b, xs, M, r, rfl, _⟩ := h
    rfl
  · obtain ⟨v, b, xs, M, r, rfl, B, os, k⟩ := h
    have hr1 : Room 1 _ := hr.mono (by decide)
    have hr3 : Room 3 _ := hr.mono (by decide)
    refine ⟨_, pss_cons (ps_if (pt_not (pt_val (pe_call cF.F hr (by rfl) cF.g cF.kp cF.b .nil pass0 (pa_cons (pv 0) (pa_cons (pe_callB call_len_seq (by rfl) T.len PySem.boot_len (pa_cons (pv 1) pa_nil)) pa_nil))))) (pss_one (ps_ret pe_bl)) pss_nil)
      (pss_cons (ps_set (i := 2) scIsStep.nd rfl (Or.inr rfl) (pe_lc2 (own := [("book", 3), ("path", 4)]) (vs1 := [4]) (g := gName 3) (g1 := gName 4) (tt := tYes) (tt1 := tYes) rfl scIsStep.nd (pi_tup (pv 1)) (blkOk_by (N := nIsStep) (sc := defScope sIsStep) (by decide +kernel)) (by decide)
        (fun _ _ _ _ _ => pg_name (i := 3) scIsStep.nd rfl (Or.inl rfl)) (fun _ _ _ _ _ => pts_nil) (fun _ _ _ _ _ => pi_listK (K := K) rfl (pe_call cM.F hr3 (by rfl) cM.g cM.kp cM.b .nil pass0 (pa_cons (pv 3) pa_nil)))
        (fun _ _ _ _ _ => pg_name (i := 4) scIsStep.nd rfl (Or.inl rfl)) (fun _ _ _ _ _ => pts_nil) (fun _ _ _ _ _ => pv 4)))
      (pss_one (ps_ret (pe_callB (cr_all rfl) (by rfl) T.all boot_all (pa_cons (pe_lc (own := [("form", 5), ("thing", 6)]) (g := gTup K 2 (gCons (gName 5) (gCons (gName 6) gNil))) (tt := tYes) rfl scIsStep.nd
        (pi_list (pe_call cS.F hr1 (by rfl) cS.g cS.kp cS.b .nil pass0 (pa_cons (pv 0) pa_nil))) (blkOk_by (N := nIsStep) (sc := defScope sIsStep) (by decide +kernel))
        (fun _ _ _ _ _ => pg_tup rfl (pgs_cons (pg_name (i := 5) scIsStep.nd rfl (Or.inl rfl)) (pgs_cons (pg_name (i := 6) scIsStep.nd rfl (Or.inl rfl)) pgs_nil))) (fun _ _ _ _ _ => pts_nil)
        (fun _ _ _ _ _ => pe_cmpR op_eq (pe_cmpR (r := rIn K false) op_in_seq (pv 6) (pv 2) rfl) (pe_cmpR op_eq (pv 5) pe_str (nomark _)) (nomark _))) pa_nil))))), ?_⟩
    have callF : ∀ {bb : Bool}, Sv K H (xs.length : Int) v bb → EvT (tNot (tB (tCall (spHasForm K) [] E0 (tCons (tVar 0) (tCons (tCB (rLenS K) (tCons (tVar 1) tNil)) tNil))))) (L2.start nIsStep [v, .ref b]) H (!bb) := fun sv =>
      et_not (et_B (ev_call (ea_cons (ev_var rfl) (ea_cons (ev_lenT (ev_var rfl) (st_of B.at_)) ea_nil)) fun H1 e1 Q' q' E' => ⟨v, _, _, rfl, sv.mono e1, q'⟩))
    cases os with
    | form sv => exact q_when (b := true) (callF sv) (fun _ H1 e1 => k H1 e1) (fun z => by cases z)
    | @into a z rest fs sv ha hz hfo hl hall =>
      refine q_when (b := false) (callF sv) (fun z => by cases z) (fun _ H1 e1 => ?_)
      have B1 := B.mono e1
      have ha1 := e1 _ _ ha
      refine q_raw ⟨_, rfl, b, rfl, ⟨xs, st_of B1.at_⟩, fun D hD => walk_w (walk_tup (K := K) (a := b) (xs := xs)) (fun i G => Ex H1 G ∧ ∃ zs : List Str, G D = some (.lst (zs.map V.str)) ∧ zs.length ≤ 20 * i ∧ (∀ y ∈ zs, y ∈ M) ∧ (1 ≤ i → ∀ y ∈ M, y ∈ zs))
        ⟨Ex.new hD, [], upd_same, Nat.zero_le _, fun _ z => (by cases z), fun z => by omega⟩ (fun i G _ q => st_of (q.1 _ _ B1.at_)) (fun i x G G' hi q yv => ?_) (fun G q => ?_)⟩
      · obtain ⟨eG, zs, hGD, zl, zM, Mz⟩ := q
        obtain ⟨rfl, hx⟩ := yv
        have bx := (B1.all x (List.mem_of_getElem? hx)).mono eG
        obtain ⟨c, t, us, ps, rfl, hbk, ht, hh, pl, pM⟩ := bx
        refine ⟨rfl, ?_⟩
        unfold tYes
        dsimp only
        rw [if_pos rfl]
        refine ⟨_, rfl, c, t, us, ps, rfl, hbk, st_of ht, hh, by omega, fun ys pm so l G1 hl0 eG1 hl1 => ?_⟩
        have eB := eG.trans eG1
        have hD1 := eG1 _ _ hGD
        have nl : l ≠ D := (ne_of_none hGD hl0).symm
        have yl : ys.length = ps.length := pm.length_eq
        have few := B.few
        refine ⟨l, rfl, ⟨_, sq_of hl1⟩, walk_w (walk_list (K := K) (a := l) (xs := ys.map V.str)) (fun j F => Ex H1 F ∧ F l = some (.lst (ys.map V.str)) ∧ F D = some (.lst ((zs ++ ys.take j).map V.str)))
          ⟨eB, hl1, by simpa using hD1⟩ (fun j F _ q => sq_of q.2.1) (fun j x F F' hj q yv => ?_) (fun F q => ?_)⟩
        · obtain ⟨eF, hFl, hFD⟩ := q
          obtain ⟨rfl, hx2⟩ := yv
          obtain ⟨y2, hy2, rfl⟩ : ∃ y, ys[j]? = some y ∧ x = V.str y := by
            rw [List.getElem?_map] at hx2
            cases e : ys[j]? with
            | none => rw [e] at hx2; cases hx2
            | some y => rw [e] at hx2; exact ⟨y, rfl, (Option.some.inj hx2).symm⟩
          refine ⟨rfl, ?_⟩
          dsimp only
          rw [if_pos rfl]
          refine ⟨_, rfl, _, hFD, sz_lt ?_, eF.mut hD, by rw [upd_ne nl]; exact hFl, ?_⟩
          · rw [List.length_map, List.length_append, List.length_take]
            omega
          · rw [upd_same, List.take_succ, hy2]
            simp
        · obtain ⟨eF, hFl, hFD⟩ := q
          rw [List.length_map, List.take_length] at hFD
          refine ⟨eF, zs ++ ys, hFD, by rw [List.length_append]; omega, fun y hy => ?_, fun _ y hy => List.mem_append_right _ (pm.mem_iff.mpr ((pM y).mpr hy))⟩
          rcases List.mem_append.mp hy with hy | hy
          · exact zM y hy
          · exact (pM y).mp (pm.mem_iff.mp hy)
      · obtain ⟨eG, zs, hGD, zl, zM, Mz⟩ := q
        have memz : ∀ y, y ∈ zs ↔ y ∈ M := fun y => ⟨zM y, Mz B.one y⟩
        show tRet _ _ ([some (.ref a), some (.ref b), some (.ref D), none, none, none, none] : L2.St) G
        have few := step_few z hz fs hfo
        refine ⟨_, rfl, a, z, rest, fs, rfl, eG _ _ ha1, hz, hfo, hl, fun l ws G1 eG1 hl0 hl1 pr => ?_⟩
        have hGD1 := eG1 _ _ hGD
        have wl := pr_len pr
        have wl2 : ws.length ≤ 2 := by
          have h3 := List.length_filter_le fm (fs.zip rest)
          rw [List.length_zip] at h3
          omega
        refine ⟨l, rfl, ⟨_, sq_of hl1⟩, fun D2 hD2 => walk_w (walk_list (K := K) (a := l) (xs := ws)) (fun i F => Ex G1 F ∧ F D2 = some (.lst ((((fs.zip rest).filter fm).map fun q => V.bl (match q.2 with | .str y => decide (decide (y ∈ M) = decide (q.1 = Str.ofString "made")) | _ => false)).take i)))
          ⟨Ex.new hD2, upd_same⟩ (fun i F _ q => sq_of (q.1 _ _ hl1)) (fun i x F F' hi q yv => ?_) (fun F q => ?_)⟩
        · obtain ⟨eF, hFD2⟩ := q
          obtain ⟨rfl, hx⟩ := yv
          obtain ⟨q, hq, c, rfl, hc⟩ := pr_get pr hx
          obtain ⟨y3, hy3⟩ := hall q (List.mem_of_getElem? hq)
          refine ⟨c, _, rfl, SqT.of (eF _ _ hc), rfl, _, _, rfl, _, _, rfl, rfl, ?_⟩
          refine ⟨rfl, ?_⟩
          unfold tYes
          dsimp only
          rw [if_pos rfl]
          refine ev_op (z := .bl (decide (decide (y3 ∈ M) = decide (q.1 = Str.ofString "made")))) (ev_op (z := .bl (decide (y3 ∈ M))) (x := .str y3) (fun H2 e2 Q' q' => ⟨_, rfl, by rw [hy3]; exact q' H2 (Ex.refl _)⟩) (ev_var (i := 2) rfl) (fun H2 e2 Q' q' => ⟨D, zs.map V.str, rfl, .inl (sq_of (e2 _ _ (eF _ _ hGD1))), rfl, flat_strs zs, ?_⟩))
            (ev_is (ev_op (ev_var (i := 5) rfl) ev_c (rv_eq rfl)) (congrArg V.bl strEq)) (rv_bb _ _) F' (Ex.refl _) _ fun H4 e4 => ⟨_, e4 _ _ hFD2, sz_lt ?_, (eF.trans e4).mut hD2, ?_⟩
          · rw [List.length_take, List.length_map]
            omega
          · rw [upd_same, List.take_succ, List.getElem?_map, hq]
            simp only [Option.map_some, Option.toList_some, hy3]
          · rw [if_neg (by decide), inV_strs, decide_eq_decide.mpr (memz y3)]
            exact q' H2 (Ex.refl _)
        · obtain ⟨eF, hFD2⟩ := q
          rw [List.take_of_length_le (by rw [List.length_map]; omega)] at hFD2
          refine ⟨D2, ((fs.zip rest).filter fm).map (okP M), rfl, sq_of (by rw [hFD2, List.map_map]; rfl), ?_⟩
          exact k F (((e1.trans eG).trans eG1).trans eF)
end
end Bt
namespace Bt
open PySem PySem.Spec PyProof.Rows L2 Bk Bm Evl Be Cr Kr Bp Bl TL
abbrev sAims : Stmt := top 110
abbrev sAsd : Stmt := top 100
abbrev sCkAims : Stmt := top 112
def inM (M : List Str) : V → Bool
  | .str y => decide (y ∈ M)
  | _ => false
def ascB (ns : List Str) : Bool := (ns.zip (ns.drop 1)).all fun p => decide (p.1.cps.toList < p.2.cps.toList)
/-- a value where aims are told -/
inductive Av (K : PySem.W.Frag) (H : Hp) (M : List Str) : V → Bool → Prop
  | no {v : V} {n : String} (k : Kd K H v n) (h : n ≠ "tuple") : Av K H M v false
  | out {a : Addr} {xs : List V} (h : H a = some (.tup xs)) (fl : xs.all flatV = true) (hl : xs.length ≤ 10) (hx : xs.all (inM M) = false) : Av K H M (.ref a) false
  | into {a : Addr} {ns : List Str} (h : H a = some (.tup (ns.map V.str))) (hl : ns.length ≤ 10) (hM : ∀ y ∈ ns, y ∈ M) : Av K H M (.ref a) (ascB ns)
theorem Av.mono {K : PySem.W.Frag} {H G : Hp} {M : List Str} {v : V} {b : Bool} (e : Ex H G) (h : Av K H M v b) : Av K G M v b := by
  cases h with
  | no k h => exact .no (k.mono e) h
  | out h fl hl hx => exact .out (e _ _ h) fl hl hx
  | into h hl hM => exact .into (e _ _ h) hl hM
theorem cb_rw {te : TE} {r : List V → Hp → VK → Prop} {σ : L2.St} {H : Hp} {Q : VK} (h : te σ H fun x H1 => r [x] H1 Q) : tCB r (tCons te tNil) σ H Q := h
theorem inV_M {M ys : List Str} {x : V} (fx : flatV x = true) (h : ∀ y, y ∈ ys ↔ y ∈ M) : inV x (ys.map V.str) = inM M x := by
  cases x with
  | str y => rw [inV_strs]; exact decide_eq_decide.mpr (h y)
  | non => unfold inV; rw [List.any_eq_false.mpr]; · rfl
           · intro z hz; obtain ⟨y, _, rfl⟩ := List.mem_map.mp hz; simp [eqV]
  | bl b => unfold inV; rw [List.any_eq_false.mpr]; · rfl
            · intro z hz; obtain ⟨y, _, rfl⟩ := List.mem_map.mp hz; simp [eqV]
  | int i => unfold inV; rw [List.any_eq_false.mpr]; · rfl
             · intro z hz; obtain ⟨y, _, rfl⟩ := List.mem_map.mp hz; simp [eqV]
  | _ => cases fx
/-- a slice of the empty tuple -/
theorem sl_nil {K : PySem.W.Frag} {σ : L2.St} {H : Hp} {te ti : TE} {a : Addr} {i : Nat} (h : Ev te σ H (.ref a)) (hi : Ev ti σ H (.int (i : Int))) (hx : H a = some (.tup ([] : List V))) :
    ∀ H1, Ex H H1 → ∀ Q : VK, (∀ p H2, Ex H1 H2 → H2 p = some (.tup ([] : List V)) → Q (.ref p) H2) → tSl (rSlA K) te (tPart ti) tNoPart σ H1 Q := fun H1 e Q q =>
  h H1 e _ fun H2 e2 => hi H2 (e.trans e2) _ fun H3 e3 => ⟨(i : Int), rfl, a, [], rfl, st_of (((e.trans e2).trans e3) _ _ hx), by
    have c1 : HT.sIx ([] : List V).length 0 (some (i : Int)) = 0 := by rw [HT.sIx_nat]; simp
    have c2 : HT.sIx ([] : List V).length ([] : List V).length none = 0 := HT.sIx_none _ _
    have c3 : cutV ([] : List V) (some (i : Int)) none = [] := by
      unfold cutV
      simp
    rw [c1, c2]
    refine ⟨fun z => q a H3 (e2.trans e3) (((e.trans e2).trans e3) _ _ hx), fun z p hp => q p _ ((e2.trans e3).trans (Ex.new hp)) (by rw [c3]; exact upd_same)⟩⟩
/-- a table -/
def TbAt (M : List Str) (D : Addr) (H : Hp) (v : V) : Prop := ∃ (l : Addr) (ys : List Str), v = .ref l ∧ l ≠ D ∧ H l = some (.lst (ys.map V.str)) ∧ ∀ y, y ∈ ys ↔ y ∈ M
section
variable {P : Program} {w : World} {K : PySem.W.Frag} {mg : Str → Option Value} {base : Heap} {C fI pR fG fL fE Cx : Addr}
abbrev nAsd : List Str := ["row", "one", "two"]
theorem scAsd : FnScope nAsd ["row"] (defScope sAsd) := ⟨rfl, rfl, rfl, by decide +kernel, rfl, by decide +kernel, by decide +kernel⟩
/-- are_ascending of texts -/
def spAsd : Sp := fun vs H Q _ => ∃ (a : Addr) (ns : List Str), vs = [.ref a] ∧ H a = some (.tup (ns.map V.str)) ∧ ns.length ≤ 10 ∧ RetV (.bl (ascB ns)) H Q
theorem ok_asd {f : Addr} {fd : FuncData} (F : Fun K "are_ascending" "are_ascending" sAsd f fd) (T : Gv mg) : FnOk P w K mg base CX0 1 f fd ["row"] spAsd := by
  refine F.ok scAsd (fun vs H Q E h => ?_) (fun cdv A outer s H vs Q E hr h => ?_)
  · obtain ⟨a, ns, rfl, _⟩ := h
    rfl
  · obtain ⟨a, ns, rfl, h, hl, k⟩ := h
    refine ⟨_, pss_one (ps_ret (pe_callB (cr_all rfl) (by rfl) T.all boot_all (pa_cons (pe_lc (own := [("one", 1), ("two", 2)]) (g := gTup K 2 (gCons (gName 1) (gCons (gName 2) gNil))) (tt := tYes) rfl scAsd.nd
        (RZ.pi_zipA (by rfl) T.zip (pa_cons (pv 0) (pa_cons (pe_slice sl_tupA (pv 0) (po_some pe_int) po_none) pa_nil))) (blkOk_by (N := nAsd) (sc := defScope sAsd) (by decide +kernel))
        (fun _ _ _ _ _ => pg_tup rfl (pgs_cons (pg_name (i := 1) scAsd.nd rfl (Or.inl rfl)) (pgs_cons (pg_name (i := 2) scAsd.nd rfl (Or.inl rfl)) pgs_nil))) (fun _ _ _ _ _ => pts_nil)
        (fun _ _ _ _ _ => pe_cmpR op_lt_str (pv 1) (pv 2) (nomark _))) pa_nil))), ?_⟩
    have fin : ∀ (p : Addr) (H3 : Hp), Ex H H3 → SqT K H3 p ((ns.drop 1).map V.str) →
        tLc (RZ.iZipA K (tCons (tC (.ref a)) (tCons (tC (.ref p)) tNil))) (gTup K 2 (gCons (gName 1) (gCons (gName 2) gNil))) tYes (tOp (fun x y H Q => ∃ i j, x = V.str i ∧ y = V.str j ∧ Q (.bl (decide (i.cps.toList < j.cps.toList))) H) (tVar 1) (tVar 2)) [1, 2] ([some (.ref a), none, none] : L2.St) H3
          (fun x H1 => rAll K [x] H1 Q) := by
      intro p H3 e3 hp
      have ha3 := e3 _ _ h
      refine ⟨a, p, ns.map V.str, (ns.drop 1).map V.str, rfl, .inr ⟨st_of ha3, hp, fun E1 hE1 => walk_w (walk_zipT (K := K) (a := a) (b := p) (xs := ns.map V.str) (ys := (ns.drop 1).map V.str) (n := (ns.zip (ns.drop 1)).length) (by simp only [List.length_map, List.length_zip])) (fun i F => Ex H3 F ∧ F E1 = some (.lst ((((ns.zip (ns.drop 1)).map fun p => V.bl (decide (p.1.cps.toList < p.2.cps.toList))).take i))))
        ⟨Ex.new hE1, upd_same⟩ (fun i F _ q => ⟨st_of (q.1 _ _ ha3), ex_t q.1 hp⟩) (fun i x F F' hi q yv => ?_) (fun F q => ?_)⟩⟩
      · obtain ⟨eF, hFE⟩ := q
        obtain ⟨T0, x0, y0, rfl, hT0, rfl, hx, hy⟩ := yv
        dsimp only at hx hy
        rw [List.getElem?_map] at hx hy
        obtain ⟨g, hg, rfl⟩ : ∃ g, ns[i]? = some g ∧ x0 = V.str g := by
          cases e : ns[i]? with
          | none => rw [e] at hx; cases hx
          | some g => rw [e] at hx; exact ⟨g, rfl, (Option.some.inj hx).symm⟩
        obtain ⟨g2, hg2, rfl⟩ : ∃ g, (ns.drop 1)[i]? = some g ∧ y0 = V.str g := by
          cases e : (ns.drop 1)[i]? with
          | none => rw [e] at hy; cases hy
          | some g => rw [e] at hy; exact ⟨g, rfl, (Option.some.inj hy).symm⟩
        have z3 : (ns.zip (ns.drop 1))[i]? = some (g, g2) := List.getElem?_zip_eq_some.mpr ⟨hg, hg2⟩
        have eT := Ex.new (o := .tup [V.str g, V.str g2]) hT0
        refine ⟨T0, _, rfl, SqT.of upd_same, rfl, _, _, rfl, _, _, rfl, rfl, ?_⟩
        refine ⟨rfl, ?_⟩
        unfold tYes
        dsimp only
        rw [if_pos rfl]
        refine ⟨_, rfl, _, rfl, g, g2, rfl, rfl, _, eT _ _ hFE, sz_lt ?_, (eF.trans eT).mut hE1, ?_⟩
        · rw [List.length_take, List.length_map, List.length_zip]
          omega
        · rw [upd_same, List.take_succ, List.getElem?_map, z3]
          rfl
      · obtain ⟨eF, hFE⟩ := q
        rw [List.take_of_length_le (by rw [List.length_map]; exact Nat.le_refl _)] at hFE
        refine ⟨E1, (ns.zip (ns.drop 1)).map fun p => decide (p.1.cps.toList < p.2.cps.toList), rfl, sq_of (by rw [hFE, List.map_map]; rfl), ?_⟩
        have e : ((ns.zip (ns.drop 1)).map fun p => decide (p.1.cps.toList < p.2.cps.toList)).all id = ascB ns := by
          unfold ascB
          rw [List.all_map]
          rfl
        rw [e]
        exact k F (e3.trans eF)
    refine ret_rw (cb_rw ⟨_, rfl, ?_⟩)
    cases ns with
    | nil =>
      refine sl_nil (i := 1) (ev_var (i := 0) rfl) ev_c h H (Ex.refl _) _ fun p H3 e3 hp => ?_
      exact fin p H3 e3 (st_of hp)
    | cons y r =>
      refine slice_from (i := 1) (ev_var (i := 0) rfl) ev_c (st_of h) (by simp) H (Ex.refl _) _ fun p H3 e3 hp => ?_
      exact fin p H3 e3 hp
abbrev nAims : List Str := ["value", "books", "tables", "book", "thing", "paths"]
theorem scAims : FnScope nAims ["value", "books"] (defScope sAims) := ⟨rfl, rfl, rfl, by decide +kernel, rfl, by decide +kernel, by decide +kernel⟩
def spAims (K : PySem.W.Frag) (C : Addr) : Sp := fun vs H Q _ => ∃ v b xs M r, vs = [v, .ref b] ∧ BsAt H C M b xs ∧ Av K H M v r ∧ RetV (.bl r) H Q
theorem ok_aims {f : Addr} {fd : FuncData} (F : Fun K "are_aims" "are_aims" sAims f fd) (T : Gv mg) (cM : Cal P w K mg base CX0 3 "made_paths" ["book"] (spMade (K := K) C)) (cA : Cal P w K mg base CX0 1 "are_ascending" ["row"] spAsd) : FnOk P w K mg base CX0 4 f fd ["value", "books"] (spAims K C) := by
  refine F.ok scAims (fun vs H Q E h => ?_) (fun cdv A outer s H vs Q E hr h => ?_)
  · obtain ⟨v, b, xs, M, r, rfl, _⟩ := h
    rfl
  · obtain ⟨v, b, xs, M, r, rfl, B, av, k⟩ := h
    refine ⟨_, pss_cons (ps_set (i := 2) scAims.nd rfl (Or.inr rfl) (pe_lc (own := [("book", 3)]) (g := gName 3) (tt := tYes) rfl scAims.nd (pi_tup (pv 1)) (blkOk_by (N := nAims) (sc := defScope sAims) (by decide +kernel))
        (fun _ _ _ _ _ => pg_name (i := 3) scAims.nd rfl (Or.inl rfl)) (fun _ _ _ _ _ => pts_nil) (fun _ _ _ _ _ => pe_call cM.F hr (by rfl) cM.g cM.kp cM.b .nil pass0 (pa_cons (pv 3) pa_nil))))
      (pss_cons (ps_if (pw_or (pt_not (pt_val (pe_callB call_isi (by rfl) T.isi boot_isinstance (pa_cons (pv 0) (pa_cons (pe_bltn (v := .ty "tuple") (by rfl) T.tup (by decide +kernel) rfl) pa_nil)))))
        (pw_or1 (pt_not (pt_val (pe_callB (cr_all rfl) (by rfl) T.all boot_all (pa_cons (pe_lc2 (own := [("thing", 4), ("paths", 5)]) (vs1 := [5]) (g := gName 4) (g1 := gName 5) (tt := tYes) (tt1 := tYes) rfl scAims.nd (pi_tup (pv 0)) (blkOk_by (N := nAims) (sc := defScope sAims) (by decide +kernel)) (by decide)
          (fun _ _ _ _ _ => pg_name (i := 4) scAims.nd rfl (Or.inl rfl)) (fun _ _ _ _ _ => pts_nil) (fun _ _ _ _ _ => pi_listK (K := K) rfl (pv 2)) (fun _ _ _ _ _ => pg_name (i := 5) scAims.nd rfl (Or.inl rfl)) (fun _ _ _ _ _ => pts_nil)
          (fun _ _ _ _ _ => pe_cmpR (r := rIn K false) op_in_seq (pv 4) (pv 5) rfl)) pa_nil)))))).pt (pss_one (ps_ret pe_bl)) pss_nil)
      (pss_one (ps_ret (pe_call cA.F (hr.mono (by decide)) (by rfl) cA.g cA.kp cA.b .nil pass0 (pa_cons (pv 0) pa_nil))))), ?_⟩
    -- the tables
    refine q_raw ⟨_, rfl, b, rfl, ⟨xs, st_of B.at_⟩, fun D hD => walk_w (walk_tup (K := K) (a := b) (xs := xs)) (fun i G => Ex H G ∧ ∃ ts : List V, G D = some (.lst ts) ∧ ts.length = i ∧ ∀ t ∈ ts, TbAt M D G t)
      ⟨Ex.new hD, [], upd_same, rfl, fun _ z => by cases z⟩ (fun i G _ q => st_of (q.1 _ _ B.at_)) (fun i x G G' hi q yv => ?_) (fun G q => ?_)⟩
    · obtain ⟨eG, ts, hGD, tl, tb⟩ := q
      obtain ⟨rfl, hx⟩ := yv
      have bx := (B.all x (List.mem_of_getElem? hx)).mono eG
      obtain ⟨c, t, us, ps, rfl, hbk, ht, hh, pl, pM⟩ := bx
      refine ⟨rfl, ?_⟩
      unfold tYes
      dsimp only
      rw [if_pos rfl]
      refine ⟨_, rfl, c, t, us, ps, rfl, hbk, st_of ht, hh, by omega, fun ys pm so l G1 hl0 eG1 hl1 => ?_⟩
      have nl : l ≠ D := (ne_of_none hGD hl0).symm
      have few := B.few
      have hD1 := eG1 _ _ hGD
      refine ⟨ts, hD1, sz_lt (by omega), (eG.trans eG1).mut hD, ts ++ [.ref l], upd_same, by rw [List.length_append, tl]; rfl, fun t2 ht2 => ?_⟩
      rcases List.mem_append.mp ht2 with ht2 | ht2
      · obtain ⟨l2, ys2, h1, h2, h3, h4⟩ := tb t2 ht2
        exact ⟨l2, ys2, h1, h2, by rw [upd_ne h2]; exact eG1 _ _ h3, h4⟩
      · have := List.mem_singleton.mp ht2
        subst this
        exact ⟨l, ys, rfl, nl, by rw [upd_ne nl]; exact hl1, fun y => by rw [pm.mem_iff]; exact pM y⟩
    obtain ⟨eG, ts, hGD, tl, tb⟩ := q
    have few := B.few
    have one := B.one
    show tSeq (tIfS _ _ _) _ _ ([some v, some (.ref b), some (.ref D), none, none, none] : L2.St) G
    have stp : ∀ (a : Addr) (us : List V), H a = some (.tup us) → us.all flatV = true → us.length ≤ 10 → ∀ (σ : L2.St), σ = [some (.ref a), some (.ref b), some (.ref D), none, none, none] →
        EvT (tNot (tB (tCB (rAll K) (tCons (tLc2 (iTup K (tVar 0)) (gName 4) tYes (iList K (tVar 2)) (gName 5) tYes (tOp (rIn K false) (tVar 4) (tVar 5)) [4, 5] [5]) tNil)))) σ G (!(us.all (inM M))) := by
      intro a us ha fl hl σ hσ
      subst hσ
      refine et_not (et_B fun G1 e1 Q' q' => cb_rw ⟨_, rfl, a, rfl, ⟨us, st_of ((eG.trans e1) _ _ ha)⟩, fun E1 hE1 => ?_⟩)
      have ha1 := (eG.trans e1) _ _ ha
      have hGD1 := e1 _ _ hGD
      refine walk_w (walk_tup (K := K) (a := a) (xs := us)) (fun i F => Ex G1 F ∧ ∃ bs : List Bool, F E1 = some (.lst (bs.map V.bl)) ∧ bs.length ≤ 3 * i ∧ bs.all id = (us.take i).all (inM M))
        ⟨Ex.new hE1, [], upd_same, Nat.zero_le _, rfl⟩ (fun i F _ q => st_of (q.1 _ _ ha1)) (fun i x F F' hi q yv => ?_) (fun F q => ?_)
      · obtain ⟨eF, bs, hFE, bl, ba⟩ := q
        obtain ⟨rfl, hx⟩ := yv
        have fx : flatV x = true := List.all_eq_true.mp fl x (List.mem_of_getElem? hx)
        refine ⟨rfl, ?_⟩
        unfold tYes
        dsimp only
        rw [if_pos rfl]
        refine ⟨_, rfl, D, rfl, ⟨ts, sq_of (eF _ _ hGD1)⟩, walk_w (walk_list (K := K) (a := D) (xs := ts)) (fun j F => Ex G1 F ∧ ∃ bs : List Bool, F E1 = some (.lst (bs.map V.bl)) ∧ bs.length ≤ 3 * i + j ∧ bs.all id = ((us.take i).all (inM M) && (decide (j = 0) || inM M x)))
          ⟨eF, bs, hFE, bl, by rw [ba]; simp⟩ (fun j F _ q => sq_of (q.1 _ _ hGD1)) (fun j y F F' hj q yv => ?_) (fun F q => ?_)⟩
        · obtain ⟨eF, bs, hFE, bl, ba⟩ := q
          obtain ⟨rfl, hy⟩ := yv
          obtain ⟨l, ys, rfl, nl, hl1, hM⟩ := tb y (List.mem_of_getElem? hy)
          refine ⟨rfl, ?_⟩
          dsimp only
          rw [if_pos rfl]
          refine ⟨_, rfl, _, rfl, l, ys.map V.str, rfl, .inl (sq_of (eF _ _ (e1 _ _ hl1))), fx, flat_strs ys, ?_⟩
          rw [if_neg (by decide), inV_M fx hM]
          refine ⟨_, hFE, sz_lt (by rw [List.length_map]; omega), eF.mut hE1, bs ++ [inM M x], by rw [upd_same, List.map_append]; rfl, by rw [List.length_append]; show _ + 1 ≤ _; omega, ?_⟩
          rw [List.all_append, ba]
          cases (us.take i).all (inM M) <;> cases inM M x <;> simp
        · obtain ⟨eF, bs, hFE, bl, ba⟩ := q
          refine ⟨eF, bs, hFE, by omega, ?_⟩
          rw [ba, List.take_succ, hx, List.all_append, decide_eq_false (by omega)]
          simp
      · obtain ⟨eF, bs, hFE, bl, ba⟩ := q
        rw [List.take_length] at ba
        exact ⟨E1, bs, rfl, sq_of hFE, by rw [ba]; exact q' F eF⟩
    cases av with
    | no kd hn =>
      refine q_when (b := true) (et_is (et_or (a := true) (b := true) (et_is (et_not (et_B (ev_isi (ev_var rfl) ev_c (kd.mono eG) (.inr rfl)))) (by rw [decide_eq_false hn]; rfl)) fun hb => (by cases hb)) rfl) (fun _ H1 e1 => ?_) (fun hb => by cases hb)
      exact k H1 (eG.trans e1)
    | @out a us h fl hl hx =>
      refine q_when (b := true) (et_is (et_or (a := false) (b := true) (et_is (et_not (et_B (ev_isi (ev_var rfl) ev_c (kd_tup (eG _ _ h)) (.inr rfl)))) rfl) fun _ => et_is (stp a us h fl hl _ rfl) (by rw [hx]; rfl)) rfl) (fun _ H1 e1 => ?_) (fun hb => by cases hb)
      exact k H1 (eG.trans e1)
    | @into a ns h hl hM =>
      have hall : (ns.map V.str).all (inM M) = true := by
        rw [List.all_eq_true]
        intro x hx
        obtain ⟨y, hy, rfl⟩ := List.mem_map.mp hx
        exact decide_eq_true (hM y hy)
      refine q_when (b := false) (et_is (et_or (a := false) (b := false) (et_is (et_not (et_B (ev_isi (ev_var rfl) ev_c (kd_tup (eG _ _ h)) (.inr rfl)))) rfl) fun _ => et_is (stp a (ns.map V.str) h (flat_strs ns) (by rw [List.length_map]; exact hl) _ rfl) (by rw [hall]; rfl)) rfl) (fun hb => by cases hb) (fun _ H1 e1 => ?_)
      have e01 := eG.trans e1
      exact s_ret (ev_call (z := .bl (ascB ns)) (ea_cons (ev_var rfl) ea_nil) fun H2 e2 Q' q' E' => ⟨a, ns, rfl, e2 _ _ (e01 _ _ h), hl, q'⟩) fun H2 e2 => k H2 (e01.trans e2)
end
end Bt
namespace Bt
open PySem PySem.Spec PyProof.Rows L2 Bk Bm Evl Be Cr Kr Bp Bl TL
abbrev sCkBooks : Stmt := top 111
abbrev sCkWay : Stmt := top 113
abbrev sBbI : Stmt := inClass (top 15) 0
def ways : List Str := [Str.ofString "always", Str.ofString "moments", Str.ofString "records", Str.ofString "whole"]
/-- not in, a tuple of data -/
def rNotInDT (K : PySem.W.Frag) : R2 := fun x y H Q => ∃ d ds, Dp K H x d ∧ Dp K H y (.tuple ds) ∧ SeqAt.shaped d = true ∧ SeqAt.shaped (.tuple ds) = true ∧ Q (.bl (!ds.any fun z => PyData.eqv z d)) H
theorem op_notInDT {X : Cx} (hu : X.A.units + 65 < cLine) : OpR X (compareOp .NotIn) (rNotInDT X.K) := by
  intro pins s σ H x y v u Q I rx ry h
  obtain ⟨d, ds, hd, he, sd, se, q⟩ := h
  obtain ⟨as, r1⟩ := Dp.reads I d x v hd rx
  obtain ⟨bs, r2⟩ := Dp.reads I (.tuple ds) y u he ry
  exact SeqAt.notIn_tuple_reads r2 r1 (SeqAt.canLay_of_shaped se) (SeqAt.canLay_of_shaped sd) (room_in_shaped sd hu) ⟨.bl _, H, I, rfl, q⟩
structure Wys (K : PySem.W.Frag) (mg : Str → Option Value) (W : Addr) : Prop where
  g : mg "WAYS" = some (.ref W)
  sq : ∀ H, SqT K H W (ways.map V.str)
theorem ways_sh : SeqAt.shaped (.tuple (ways.map PyData.str)) = true := by decide +kernel
def wayB (d : PyData) : Bool := (ways.map PyData.str).any fun z => PyData.eqv z d
section
variable {P : Program} {w : World} {K : PySem.W.Frag} {mg : Str → Option Value} {base : Heap} {C fI pR fG fL fE Ca Cw Cs Cb fB Cx W : Addr}
theorem dpw (K : PySem.W.Frag) (G : Hp) : ∀ zs : List Str, DpAll K G (zs.map V.str) (zs.map PyData.str)
  | [] => .nil
  | z :: r => .cons (.str z) (dpw K G r)
theorem scCkWay : FnScope ["value"] ["value"] (defScope sCkWay) := ⟨rfl, rfl, rfl, by decide +kernel, rfl, by decide +kernel, by decide +kernel⟩
def spCkWay (K : PySem.W.Frag) (Cw : Addr) : Sp := fun vs H Q E => ∃ v d, vs = [v] ∧ (∀ G, Ex H G → Dp K G v d) ∧ SeqAt.shaped d = true ∧ (wayB d = true → RetV .non H Q) ∧ (wayB d = false → ∀ G, Ex H G → E (.ref Cw) none G)
theorem ok_ckWay {f : Addr} {fd : FuncData} (F : Fun K "check_way" "check_way" sCkWay f fd) (c : Xc K mg "BadWay" Cw) (Wy : Wys K mg W) : FnOk P w K mg base (L2.CX P w) 1 f fd ["value"] (spCkWay K Cw) := by
  refine F.okX scCkWay (fun vs H Q E h => ?_) (fun cdv A outer s H vs Q E hr h => ?_)
  · obtain ⟨v, d, rfl, _⟩ := h
    rfl
  · obtain ⟨v, d, rfl, dp, sh, k1, k2⟩ := h
    have hu : (A.deeper (envOfC "check_way" (defScope sCkWay) s.heap.objs.size f cdv)).units + 65 < cLine := by have := hr.un; omega
    refine ⟨_, pss_one (ps_if (pt_cmpR (op_notInDT hu) (pv 0) (pe_glob (v := .ref W) (by rfl) Wy.g rfl) (by rfl)) (pss_one (ps_raise rfl (takes_of rfl rfl rfl rfl) (pmk_own0 c (by rfl)))) pss_nil), ?_⟩
    refine s_if (b := !wayB d) (fun H1 e1 Q' q' => ⟨_, rfl, d, _, dp _ e1, .tup (Wy.sq _) (dpw K H1 ways), sh, ways_sh, _, rfl, q' H1 (Ex.refl _)⟩) (fun hb H1 e1 => ?_) (fun hb H1 e1 => ?_)
    · exact k2 (by simpa using hb) H1 e1
    · exact k1 (by simpa using hb) H1 e1
theorem scCkAims : FnScope ["value", "books"] ["value", "books"] (defScope sCkAims) := ⟨rfl, rfl, rfl, by decide +kernel, rfl, by decide +kernel, by decide +kernel⟩
def spCkAims (K : PySem.W.Frag) (C Ca : Addr) : Sp := fun vs H Q E => ∃ v b xs M r, vs = [v, .ref b] ∧ BsAt H C M b xs ∧ Av K H M v r ∧ (r = true → RetV .non H Q) ∧ (r = false → ∀ G, Ex H G → E (.ref Ca) none G)
theorem ok_ckAims {f : Addr} {fd : FuncData} (F : Fun K "check_aims" "check_aims" sCkAims f fd) (c : Xc K mg "BadAims" Ca) (cA : Cal P w K mg base CX0 4 "are_aims" ["value", "books"] (spAims K C)) : FnOk P w K mg base (L2.CX P w) 5 f fd ["value", "books"] (spCkAims K C Ca) := by
  refine F.okX scCkAims (fun vs H Q E h => ?_) (fun cdv A outer s H vs Q E hr h => ?_)
  · obtain ⟨v, b, xs, M, r, rfl, _⟩ := h
    rfl
  · obtain ⟨v, b, xs, M, r, rfl, B, av, k1, k2⟩ := h
    refine ⟨_, pss_one (ps_if (pt_not (pt_val (pe_call cA.F hr (by rfl) cA.g cA.kp cA.b .nil pass0 (pa_cons (pv 0) (pa_cons (pv 1) pa_nil))))) (pss_one (ps_raise rfl (takes_of rfl rfl rfl rfl) (pmk_own0 c (by rfl)))) pss_nil), ?_⟩
    refine s_if (b := !r) (et_not (et_B (ev_call (ea_cons (ev_var rfl) (ea_cons (ev_var rfl) ea_nil)) fun H1 e1 Q' q' E' => ⟨v, b, xs, M, r, rfl, B.mono e1, av.mono e1, q'⟩))) (fun hb H1 e1 => ?_) (fun hb H1 e1 => ?_)
    · exact k2 (by simpa using hb) H1 e1
    · exact k1 (by simpa using hb) H1 e1
/-! ### BadBooks, check_books -/
theorem scBbI : FnScope ["self", "index"] ["self", "index"] (defScope sBbI) := ⟨rfl, rfl, rfl, by decide +kernel, rfl, by decide +kernel, by decide +kernel⟩
theorem ok_bbI {f C : Addr} {fd : FuncData} {q : Str} (F : Fun K "__init__" q sBbI f fd) : FnOk P w K mg base CX0 1 f fd ["self", "index"] (spXi K C) := by
  refine F.ok scBbI (fun vs H Q E h => ?_) (fun cdv A outer s H vs Q E hr h => ?_)
  · obtain ⟨x, v, rfl, _⟩ := h
    rfl
  · obtain ⟨a, v, rfl, ha, o, n, k⟩ := h
    refine ⟨_, pss_one (ps_ost (pv 0) (pv 1)), ?_⟩
    exact ⟨_, rfl, _, rfl, a, C, rfl, o, n, .inl ⟨ha, fun dx hd hne => k dx hd hne⟩⟩
/-- a value where books are told -/
inductive Bv (K : PySem.W.Frag) (C : Addr) (H : Hp) : V → Option V → Prop
  | no {v : V} {n : String} (k : Kd K H v n) (h : n ≠ "tuple") : Bv K C H v (some .non)
  | len {a : Addr} {xs : List V} (h : H a = some (.tup xs)) (hl : xs.length = 0 ∨ 3 < xs.length) (hz : xs.length ≤ 100) : Bv K C H (.ref a) (some .non)
  | bad {a : Addr} {xs : List V} {i : Nat} {v : V} (h : H a = some (.tup xs)) (h1 : 1 ≤ xs.length) (h3 : xs.length ≤ 3) (hb : ∀ x ∈ xs.take i, ∃ c u, x = .ref c ∧ BkAt H C c u) (hi : xs[i]? = some v) (hv : NB K H v) : Bv K C H (.ref a) (some (.int (i : Int)))
  | ok {a : Addr} {xs : List V} (h : H a = some (.tup xs)) (h1 : 1 ≤ xs.length) (h3 : xs.length ≤ 3) (hb : ∀ x ∈ xs, ∃ c u, x = .ref c ∧ BkAt H C c u) : Bv K C H (.ref a) none
  | bk {a : Addr} {u : V} (h : BkAt H C a u) : Bv K C H (.ref a) (some .non)
theorem Bv.mono {H G : Hp} {v : V} {o : Option V} (e : Ex H G) (h : Bv K C H v o) : Bv K C G v o := by
  cases h with
  | no k h => exact .no (k.mono e) h
  | len h hl hz => exact .len (e _ _ h) hl hz
  | bad h h1 h3 hb hi hv => exact .bad (e _ _ h) h1 h3 (fun x hx => by
      obtain ⟨c, u, z, hc⟩ := hb x hx
      exact ⟨c, u, z, hc.mono e⟩) hi (hv.mono e)
  | ok h h1 h3 hb => exact .ok (e _ _ h) h1 h3 (fun x hx => by
      obtain ⟨c, u, z, hc⟩ := hb x hx
      exact ⟨c, u, z, hc.mono e⟩)
  | bk h => exact .bk (h.mono e)
theorem kt_tuple (h : PySem.W.subIn K (.ref C) (.type "tuple") = some false) : PySem.W.kitOne K (.ref C) (.type "tuple") = some false := by
  unfold PySem.W.kitOne
  rw [if_neg (by intro z; cases z)]
  show (if PySem.W.kitMeta "tuple" = true then PySem.W.subIn K (.ref C) (.type "tuple") else none) = some false
  rw [if_pos (by decide +kernel)]
  exact h
theorem ev_isBT {σ : L2.St} {H : Hp} {te tx : TE} {a : Addr} {v : V} (B : Bks K mg C fI pR fG fL fE) (hct : PySem.W.subIn K (.ref C) (.type "tuple") = some false) (h : Ev te σ H (.ref a)) (hc : Ev tx σ H (.ty "tuple")) (b : BkAt H C a v) : Ev (tCB (rIsi K) (tCons te (tCons tx tNil))) σ H (.bl false) := fun H1 e Q q =>
  h H1 e _ fun H2 e2 => hc H2 (e.trans e2) _ fun H3 e3 => ⟨.ref a, .ty "tuple", .ref C, .type "tuple", false, rfl, .ty "tuple", ty_bk B (b.mono ((e.trans e2).trans e3)), kt_tuple hct, q H3 (e2.trans e3)⟩
def spCkBooks (K : PySem.W.Frag) (C Cb : Addr) : Sp := fun vs H Q E => ∃ v o, vs = [v] ∧ Bv K C H v o ∧ (o = none → RetV .non H Q) ∧ (∀ u, o = some u → RaiseI Cb u H E)
theorem scCkBooks : FnScope ["value", "index", "thing"] ["value"] (defScope sCkBooks) := ⟨rfl, rfl, rfl, by decide +kernel, rfl, by decide +kernel, by decide +kernel⟩
theorem ok_ckBooks {f : Addr} {fd fdI : FuncData} (F : Fun K "check_books" "check_books" sCkBooks f fd) (T : Gv mg) (hmb : ∃ t, mg "MOST_BOOKS" = some (.int 3 t)) (c : Xi K mg "BadBooks" Cb fB) (FI : FnOk P w K mg base CX0 1 fB fdI ["self", "index"] (spXi K Cb)) (bI : Binds K fdI ["self", "index"] [])
    (B : Bks K mg C fI pR fG fL fE) (h1 : PySem.W.isClsIn K C = true) (h2 : PySem.W.typeIn K (.ref C) = some (.type "type")) (hct : PySem.W.subIn K (.ref C) (.type "tuple") = some false) : FnOk P w K mg base (L2.CX P w) 3 f fd ["value"] (spCkBooks K C Cb) := by
  refine F.okX scCkBooks (fun vs H Q E h => ?_) (fun cdv A outer s H vs Q E hr h => ?_)
  · obtain ⟨v, o, rfl, _⟩ := h
    rfl
  · obtain ⟨v, o, rfl, bv, k1, k2⟩ := h
    obtain ⟨t1, m1⟩ := hmb
    refine ⟨_, pss_cons (ps_if (pw_or (pt_not (pt_val (pe_callB call_isi (by rfl) T.isi boot_isinstance (pa_cons (pv 0) (pa_cons (pe_bltn (v := .ty "tuple") (by rfl) T.tup (by decide +kernel) rfl) pa_nil)))))
        (pw_or1 (pt_not (pt_chain op_le op_le pe_int (pe_callB call_len_seq (by rfl) T.len PySem.boot_len (pa_cons (pv 0) pa_nil)) (pe_glob (v := .int 3) (by rfl) m1 ⟨_, rfl⟩))))).pt
        (pss_one (ps_raise rfl (takes_of rfl rfl rfl rfl) (pmk_xi c FI bI hr (by decide) (by rfl) pe_non))) pss_nil)
      (pss_one (ps_for (passes_of rfl) rfl (pi_enumT (by rfl) T.enu (pa_cons (pv 0) pa_nil)) (pg_tup rfl (pgs_cons (pg_name (i := 1) scCkBooks.nd rfl (Or.inl rfl)) (pgs_cons (pg_name (i := 2) scCkBooks.nd rfl (Or.inl rfl)) pgs_nil)))
        (pss_one (ps_if (pt_not (pt_val (pe_callB call_isi (by rfl) T.isi boot_isinstance (pa_cons (pv 2) (pa_cons (pe_glob (v := .ref C) (by rfl) B.g rfl) pa_nil)))))
          (pss_one (ps_raise rfl (takes_of rfl rfl rfl rfl) (pmk_xi c FI bI hr (by decide) (by rfl) (pv 1)))) pss_nil)))), ?_⟩
    have isT : ∀ {σ : L2.St} {G : Hp} {x : V}, σ[2]? = some (some x) → (∃ c u, x = .ref c ∧ BkAt G C c u) → EvT (tNot (tB (tCB (rIsi K) (tCons (tVar 2) (tCons (tC (.ref C)) tNil))))) σ G false := fun s2 hb => by
      obtain ⟨c, u, rfl, hc⟩ := hb
      exact et_is (et_not (et_B (ev_isB B (ev_var s2) ev_c hc))) rfl
    have isF : ∀ {σ : L2.St} {G : Hp} {x : V}, σ[2]? = some (some x) → NB K G x → EvT (tNot (tB (tCB (rIsi K) (tCons (tVar 2) (tCons (tC (.ref C)) tNil))))) σ G true := fun s2 hb => by
      obtain ⟨n, hn⟩ := hb
      exact et_is (et_not (et_B (ev_isN h1 h2 (ev_var s2) ev_c hn))) rfl
    cases bv with
    | no kd hn =>
      refine q_when (b := true) (et_is (et_or (a := true) (b := true) (et_is (et_not (et_B (ev_isi (ev_var rfl) ev_c kd (.inr rfl)))) (by rw [decide_eq_false hn]; rfl)) fun hb => (by cases hb)) rfl) (fun _ H1 e1 => ?_) (fun hb => by cases hb)
      exact xi_make c ev_c (RaiseI.go (k2 _ rfl) e1)
    | @bk a u h =>
      refine q_when (b := true) (et_is (et_or (a := true) (b := true) (et_is (et_not (et_B (ev_isBT B hct (ev_var rfl) ev_c h))) rfl) fun hb => (by cases hb)) rfl) (fun _ H1 e1 => ?_) (fun hb => by cases hb)
      exact xi_make c ev_c (RaiseI.go (k2 _ rfl) e1)
    | @len a xs h hl hz =>
      refine q_when (b := true) (et_is (et_or (a := false) (b := true) (et_is (et_not (et_B (ev_isi (ev_var rfl) ev_c (kd_tup h) (.inr rfl)))) rfl) fun _ => et_is (et_not (et_test (ev_chain ev_c (ev_lenT (ev_var rfl) (st_of h)) rv_I0 (fun _ => ev_c) (fun _ => rv_I0)))) ?_) rfl) (fun _ H1 e1 => ?_) (fun hb => by cases hb)
      · simp only [Bool.not_eq_true', Bool.and_eq_false_iff, decide_eq_false_iff_not]
        omega
      · exact xi_make c ev_c (RaiseI.go (k2 _ rfl) e1)
    | @bad a xs i v h g1 g3 hb hi hv =>
      refine q_when (b := false) (et_is (et_or (a := false) (b := false) (et_is (et_not (et_B (ev_isi (ev_var rfl) ev_c (kd_tup h) (.inr rfl)))) rfl) fun _ => et_is (et_not (et_test (ev_chain ev_c (ev_lenT (ev_var rfl) (st_of h)) rv_I0 (fun _ => ev_c) (fun _ => rv_I0)))) ?_) rfl) (fun hb => by cases hb) (fun _ H1 e1 => ?_)
      · simp only [Bool.not_eq_false', Bool.and_eq_true, decide_eq_true_eq]
        omega
      · refine ⟨_, rfl, a, xs, rfl, st_of (e1 _ _ h), for_enumT (K := K) (a := a) (xs := xs) (fun j τ G => ∃ u v, τ = [some (.ref a), u, v] ∧ Ex H G ∧ j ≤ i) ⟨none, none, rfl, e1, Nat.zero_le _⟩ (fun j τ G _ q => by obtain ⟨_, _, _, q, _⟩ := q; exact st_of (q _ _ h)) ?_ ?_⟩
        · rintro j x τ G T0 hj ⟨u, v2, rfl, eG, hji⟩ hT
          have e2 : Ex H (upd G T0 (.tup [.int (j : Nat), x])) := eG.trans (Ex.new hT)
          refine ⟨T0, _, rfl, SqT.of upd_same, rfl, _, _, rfl, _, _, rfl, rfl, ?_⟩
          show tIfS _ _ tNext _ ([some (.ref a), some (.int (j : Int)), some x] : L2.St) _
          rcases Nat.lt_or_eq_of_le hji with hlt | rfl
          · have hx : x ∈ xs.take i := List.mem_of_getElem? (i := j) (by rw [List.getElem?_take_of_lt hlt]; exact hj)
            obtain ⟨c', u', z, hc⟩ := hb x hx
            refine s_when (b := false) (isT rfl ⟨c', u', z, hc.mono e2⟩) (fun z => by cases z) (fun _ H3 e3 => ?_)
            exact ⟨_, _, rfl, e2.trans e3, hlt⟩
          · rw [hi] at hj
            cases hj
            refine s_when (b := true) (isF rfl (hv.mono e2)) (fun _ H3 e3 => ?_) (fun z => by cases z)
            exact xi_make c (ev_var rfl) (RaiseI.go (k2 _ rfl) (e2.trans e3))
        · rintro τ G ⟨u, v2, rfl, eG, hji⟩
          have := (List.getElem?_eq_some_iff.mp hi).1
          omega
    | @ok a xs h g1 g3 hb =>
      refine q_when (b := false) (et_is (et_or (a := false) (b := false) (et_is (et_not (et_B (ev_isi (ev_var rfl) ev_c (kd_tup h) (.inr rfl)))) rfl) fun _ => et_is (et_not (et_test (ev_chain ev_c (ev_lenT (ev_var rfl) (st_of h)) rv_I0 (fun _ => ev_c) (fun _ => rv_I0)))) ?_) rfl) (fun hb => by cases hb) (fun _ H1 e1 => ?_)
      · simp only [Bool.not_eq_false', Bool.and_eq_true, decide_eq_true_eq]
        omega
      · refine ⟨_, rfl, a, xs, rfl, st_of (e1 _ _ h), for_enumT (K := K) (a := a) (xs := xs) (fun j τ G => ∃ u v, τ = [some (.ref a), u, v] ∧ Ex H G) ⟨none, none, rfl, e1⟩ (fun j τ G _ q => by obtain ⟨_, _, _, q⟩ := q; exact st_of (q _ _ h)) ?_ ?_⟩
        · rintro j x τ G T0 hj ⟨u, v2, rfl, eG⟩ hT
          have e2 : Ex H (upd G T0 (.tup [.int (j : Nat), x])) := eG.trans (Ex.new hT)
          refine ⟨T0, _, rfl, SqT.of upd_same, rfl, _, _, rfl, _, _, rfl, rfl, ?_⟩
          show tIfS _ _ tNext _ ([some (.ref a), some (.int (j : Int)), some x] : L2.St) _
          obtain ⟨c', u', z, hc⟩ := hb x (List.mem_of_getElem? hj)
          refine s_when (b := false) (isT rfl ⟨c', u', z, hc.mono e2⟩) (fun z => by cases z) (fun _ H3 e3 => ?_)
          exact ⟨_, _, rfl, e2.trans e3⟩
        · rintro τ G ⟨u, v2, rfl, eG⟩
          exact k1 rfl G eG
end
end Bt
namespace Bt
open PySem PySem.Spec PyProof.Rows L2 Bk Bm Evl Be Cr Kr Bp Bl TL
abbrev sBenchI : Stmt := inClass (top 97) 0
abbrev fld10 : List Str := [Str.ofString "books", Str.ofString "aims", Str.ofString "way", Str.ofString "chosen", Str.ofString "clock", Str.ofString "sources", Str.ofString "sources_at", Str.ofString "left", Str.ofString "left_at", Str.ofString "kept"]
/-- the class Bench, at Cn -/
structure Bnc (K : PySem.W.Frag) (mg : Str → Option Value) (Cn fN : Addr) : Prop where
  g : mg "Bench" = some (.ref Cn)
  cls : Cls K Cn
  mkr : Mk K Cn fN
  na : ∀ f ∈ fld10, NoAttr K Cn f
/-- all but x stands -/
def Exx (x : Addr) (H G : Hp) : Prop := ∀ a o, a ≠ x → H a = some o → G a = some o
theorem Exx.refl (x : Addr) (H : Hp) : Exx x H H := fun _ _ _ h => h
theorem Exx.ex {x : Addr} {H G G1 : Hp} (h : Exx x H G) (e : Ex G G1) : Exx x H G1 := fun a o n z => e _ _ (h a o n z)
theorem Exx.put {x : Addr} {H G : Hp} {o : HO} (h : Exx x H G) : Exx x H (upd G x o) := fun a o' n z => by
  rw [upd_ne n]
  exact h a o' n z
theorem files_pairs {H : Hp} {xs : List V} {fs : List Fl} (h : Paired (FileAt H) xs fs) : ∃ (ps : List Addr) (kvs : List (Key × V)), xs = ps.map V.ref ∧ kvs.length = fs.length ∧ Paired (fun p kv => H p = some (.tup [kV kv.1, kv.2])) ps kvs := by
  induction h with
  | nil => exact ⟨[], [], rfl, rfl, .nil⟩
  | @cons x y _ _ r _ ih =>
    obtain ⟨ps, kvs, rfl, hl, hp⟩ := ih
    obtain ⟨b, rfl, hb⟩ := r
    exact ⟨b :: ps, (Sum.inr y.1, V.str y.2) :: kvs, rfl, by simp [hl], .cons hb hp⟩
section
variable {P : Program} {w : World} {K : PySem.W.Frag} {mg : Str → Option Value} {base : Heap} {C fI pR fG fL fE Cn fN : Addr}
abbrev nBenchI : List Str := ["self", "books", "tree", "aims", "way", "path"]
theorem scBenchI : FnScope nBenchI ["self", "books", "tree", "aims", "way"] (defScope sBenchI) := ⟨rfl, rfl, rfl, by decide +kernel, rfl, by decide +kernel, by decide +kernel⟩
def spBench (K : PySem.W.Frag) (Cn : Addr) : Sp := fun vs H Q _ => ∃ (x dx : Addr) (b : V) (t : Addr) (am wy : V) (o : Obj) (xs : List V) (fs : List Fl), vs = [.ref x, b, .ref t, am, wy] ∧ H x = some (.ins Cn dx []) ∧ H t = some (.frz o (.tup xs)) ∧ Pln o ∧ Paired (FileAt H) xs fs ∧ fs.length ≤ 20 ∧
  ∀ G gs, Exx x H G → G x = some (.ins Cn dx gs) → gs.lookup (Str.ofString "books") = some b → Q .non G
/-- a bench under way -/
def Sb (x dx Cn : Addr) (b : V) (H : Hp) (n : Nat) (G : Hp) : Prop := Exx x H G ∧ ∃ gs, G x = some (.ins Cn dx gs) ∧ gs.length ≤ n ∧ gs.lookup (Str.ofString "books") = some b
theorem Sb.put {x dx : Addr} {b : V} {H G G1 : Hp} {n : Nat} {f : Str} {v : V} {gs : List (Str × V)} (h : Exx x H G) (e : Ex G G1) (hl : gs.length ≤ n) (hb : gs.lookup (Str.ofString "books") = some b) (hf : Str.ofString "books" ≠ f) : Sb x dx Cn b H (n + 1) (upd G1 x (.ins Cn dx (putF f v gs))) :=
  ⟨(h.ex e).put, _, upd_same, by have := length_putF f v gs; omega, by rw [lookup_putF, if_neg hf]; exact hb⟩
theorem q_fld {σ : L2.St} {H G : Hp} {x dx : Addr} {b : V} {n : Nat} {f : Str} {tv : TE} {v : V} {tz : TS} {De : Ends} (s0 : σ[0]? = some (some (.ref x))) (S : Sb x dx Cn b H n G) (hv : Ev tv σ G v) (c : Cls K Cn) (na : NoAttr K Cn f) (hf : Str.ofString "books" ≠ f) (hn : n ≤ 100)
    (k : ∀ G, Sb x dx Cn b H (n + 1) G → tz De σ G) : tSeq (sFld K (tVar 0) tv f) tz De σ G := by
  obtain ⟨hx, gs, h1, h2, h3⟩ := S
  exact hv G (Ex.refl _) _ fun G1 e => ⟨_, s0, x, Cn, dx, gs, rfl, e _ _ h1, c, na, by omega, k _ (Sb.put hx e h2 h3 hf)⟩
theorem q_fldD {σ : L2.St} {H G : Hp} {x dx : Addr} {b : V} {n : Nat} {f : Str} {tz : TS} {De : Ends} (s0 : σ[0]? = some (some (.ref x))) (S : Sb x dx Cn b H n G) (c : Cls K Cn) (na : NoAttr K Cn f) (hf : Str.ofString "books" ≠ f) (hn : n ≤ 100)
    (k : ∀ G, Sb x dx Cn b H (n + 1) G → tz De σ G) : tSeq (sFld K (tVar 0) tDNewK f) tz De σ G := by
  obtain ⟨hx, gs, h1, h2, h3⟩ := S
  intro p hp
  have e : Ex G (upd G p (.dK [])) := Ex.new hp
  exact ⟨_, s0, x, Cn, dx, gs, rfl, e _ _ h1, c, na, by omega, k _ (Sb.put hx e h2 h3 hf)⟩
theorem qf_raw {σ : L2.St} {H : Hp} {f : Str} {tv : TE} {tz : TS} {De : Ends} (h : tv σ H fun y H1 => tVar 0 σ H1 fun z H2 => ∃ a C dx gs, z = .ref a ∧ H2 a = some (.ins C dx gs) ∧ Cls K C ∧ NoAttr K C f ∧ gs.length < 1000 ∧ tz De σ (upd H2 a (.ins C dx (putF f y gs)))) : tSeq (sFld K (tVar 0) tv f) tz De σ H := h
theorem ok_benchI {f : Addr} {fd : FuncData} {q : Str} (F : Fun K "__init__" q sBenchI f fd) (T : Gv mg) (hdct : mg "dict" = none) (B : Bnc K mg Cn fN) (hbg : ∃ t, mg "BEGINNING" = some (.int 1 t)) : FnOk P w K mg base CX0 1 f fd ["self", "books", "tree", "aims", "way"] (spBench K Cn) := by
  refine F.ok scBenchI (fun vs H Q E h => ?_) (fun cdv A outer s H vs Q E hr h => ?_)
  · obtain ⟨x, dx, b, t, am, wy, o, xs, fs, rfl, _⟩ := h
    rfl
  · obtain ⟨x, dx, b, t, am, wy, o, xs, fs, rfl, hx, ht, hpl, hp, hl, k⟩ := h
    obtain ⟨tk1, m1⟩ := hbg
    refine ⟨_, pss_cons (ps_fld (pv 0) (pv 1) (by rfl)) (pss_cons (ps_fld (pv 0) (pv 3) (by rfl)) (pss_cons (ps_fld (pv 0) (pv 4) (by rfl)) (pss_cons (ps_fld (pv 0) pe_int (by rfl))
      (pss_cons (ps_fld (pv 0) (pe_glob (v := .int 1) (by rfl) m1 ⟨_, rfl⟩) (by rfl))
      (pss_cons (ps_fld (pv 0) (pe_callTy (call_dictZ rfl) (by rfl) hdct (by decide +kernel) (pa_cons (pv 2) pa_nil)) (by rfl))
      (pss_cons (ps_fld (pv 0) (pe_dc (own := [("path", 5)]) (g := gName 5) (tt := tYes) rfl scBenchI.nd (pi_keys (pe_fld (pv 0) (by rfl))) (blkOk_by (N := nBenchI) (sc := defScope sBenchI) (by decide +kernel))
        (fun _ _ _ _ _ => pg_name (i := 5) scBenchI.nd rfl (Or.inl rfl)) (fun _ _ _ _ _ => pts_nil) (fun _ _ _ _ _ => pv 5) (fun _ _ _ _ _ => pe_glob (v := .int 1) (by rfl) m1 ⟨_, rfl⟩)) (by rfl))
      (pss_cons (ps_fld (pv 0) pe_dnewK (by rfl)) (pss_cons (ps_fld (pv 0) pe_dnewK (by rfl)) (pss_one (ps_fld (pv 0) pe_dnewK (by rfl))))))))))), ?_⟩
    have na := fun f h => B.na f h
    -- books, aims, way, chosen, clock
    refine qf_raw ⟨_, rfl, _, rfl, x, Cn, dx, [], rfl, hx, B.cls, na (Str.ofString "books") (by simp), by decide, ?_⟩
    have S1 : Sb x dx Cn b H 1 (upd H x (.ins Cn dx (putF (Str.ofString "books") b []))) := ⟨(Exx.refl x H).put, _, upd_same, Nat.le_refl _, rfl⟩
    refine q_fld rfl S1 (ev_var (v := am) rfl) B.cls (na (Str.ofString "aims") (by simp)) (by decide) (by decide) fun G2 S2 => ?_
    refine q_fld rfl S2 (ev_var (v := wy) rfl) B.cls (na (Str.ofString "way") (by simp)) (by decide) (by decide) fun G3 S3 => ?_
    refine q_fld (v := .int 0) rfl S3 ev_c B.cls (na (Str.ofString "chosen") (by simp)) (by decide) (by decide) fun G4 S4 => ?_
    refine q_fld (v := .int 1) rfl S4 ev_c B.cls (na (Str.ofString "clock") (by simp)) (by decide) (by decide) fun G5 S5 => ?_
    -- sources
    obtain ⟨X5, gs5, g51, g52, g53⟩ := S5
    have tx : t ≠ x := fun z => by
      rw [z, hx] at ht
      cases ht
    have fx : ∀ v f, FileAt H v f → FileAt G5 v f := fun v f z => by
      obtain ⟨c, rfl, hc⟩ := z
      refine ⟨c, rfl, X5 _ _ (fun z => ?_) hc⟩
      rw [z, hx] at hc
      cases hc
    obtain ⟨ps, kvs, rfl, hkl, hpp⟩ := files_pairs (paired_mono hp fx)
    refine qf_raw ⟨_, rfl, t, o, ps, kvs, rfl, X5 _ _ tx ht, hpl, paired_mono hpp fun _ _ z => st_of z, fun dd od hdd => ?_⟩
    have e5 : Ex G5 (upd G5 dd (.frz od (.dK (mergeK [] kvs)))) := Ex.new hdd
    refine ⟨_, rfl, x, Cn, dx, gs5, rfl, e5 _ _ g51, B.cls, na (Str.ofString "sources") (by simp), by omega, ?_⟩
    have S6 : Sb x dx Cn b H 6 (upd (upd G5 dd (.frz od (.dK (mergeK [] kvs)))) x (.ins Cn dx (putF (Str.ofString "sources") (.ref dd) gs5))) := Sb.put X5 e5 g52 g53 (by decide)
    have dx6 : dd ≠ x := fun z => by
      rw [z, g51] at hdd
      cases hdd
    have hdd6 : (upd (upd G5 dd (.frz od (.dK (mergeK [] kvs)))) x (.ins Cn dx (putF (Str.ofString "sources") (.ref dd) gs5))) dd = some (.frz od (.dK (mergeK [] kvs))) := by
      rw [upd_ne dx6]
      exact upd_same
    have lk6 : (putF (Str.ofString "sources") (.ref dd) gs5).lookup (Str.ofString "sources") = some (.ref dd) := by rw [lookup_putF, if_pos rfl]
    have hx6 : (upd (upd G5 dd (.frz od (.dK (mergeK [] kvs)))) x (.ins Cn dx (putF (Str.ofString "sources") (.ref dd) gs5))) x = some (.ins Cn dx (putF (Str.ofString "sources") (.ref dd) gs5)) := upd_same
    generalize upd (upd G5 dd (.frz od (.dK (mergeK [] kvs)))) x (.ins Cn dx (putF (Str.ofString "sources") (.ref dd) gs5)) = G6 at S6 hdd6 hx6 ⊢
    have hml : (mergeK [] kvs).length ≤ 20 := by
      have := length_mergeK kvs []
      simp only [List.length_nil, Nat.zero_add] at this
      omega
    -- their moments
    refine qf_raw ⟨_, rfl, x, Cn, dx, _, _, rfl, hx6, B.cls, na (Str.ofString "sources") (by simp), lk6, dd, od, rfl, .inl ⟨_, hdd6, fun D hD => walk_w walk_keys (fun i F => Exx D G6 F ∧ ∃ l, F D = some (.dK l) ∧ l.length ≤ i) ⟨fun a o' n z => by rw [upd_ne n]; exact z, [], upd_same, Nat.le_refl _⟩ (fun i F _ p => p.1 _ _ (fun z => by rw [z, hD] at hdd6; cases hdd6) hdd6) (fun i y F F' hi p yy => ?_) (fun F p => ?_)⟩⟩
    · obtain ⟨rfl, kk, v, _, rfl⟩ := yy
      obtain ⟨x6, l, l1, l2⟩ := p
      refine ⟨rfl, ?_⟩
      unfold tYes
      dsimp only
      rw [if_pos rfl]
      exact ⟨_, rfl, l, kk, rfl, l1, sz_lt (by omega), fun a o' n z => by rw [upd_ne n]; exact x6 _ _ n z, _, upd_same, by have := length_putK l kk (.int 1); omega⟩
    · obtain ⟨x6, _⟩ := p
      have eF : Ex G6 F := fun a o' z => x6 a o' (fun e => by rw [e, hD] at z; cases z) z
      obtain ⟨X6, gs6, g61, g62, g63⟩ := S6
      refine ⟨_, rfl, x, Cn, dx, gs6, rfl, eF _ _ g61, B.cls, na (Str.ofString "sources_at") (by simp), by omega, ?_⟩
      have S7 : Sb x dx Cn b H 7 (upd F x (.ins Cn dx (putF (Str.ofString "sources_at") (.ref D) gs6))) := Sb.put X6 eF g62 g63 (by decide)
      refine q_fldD rfl S7 B.cls (na (Str.ofString "left") (by simp)) (by decide) (by decide) fun G8 S8 => ?_
      refine q_fldD rfl S8 B.cls (na (Str.ofString "left_at") (by simp)) (by decide) (by decide) fun G9 S9 => ?_
      obtain ⟨X9, gs9, g91, g92, g93⟩ := S9
      intro p hp
      have e9 : Ex G9 (upd G9 p (.dK [])) := Ex.new hp
      refine ⟨_, rfl, x, Cn, dx, gs9, rfl, e9 _ _ g91, B.cls, na (Str.ofString "kept") (by simp), by omega, ?_⟩
      obtain ⟨Xa, gsa, ga1, _, ga3⟩ := Sb.put (f := Str.ofString "kept") (v := .ref p) X9 e9 g92 g93 (by decide)
      exact k _ _ Xa ga1 ga3
end
end Bt
namespace Bt
open PySem PySem.Spec PyProof.Rows L2 Bk Bm Evl Be Cr Kr Bp Bl TL
abbrev sBuiI : Stmt := inClass (top 115) 0
abbrev sBuiDo : Stmt := inClass (top 115) 4
abbrev kBench : Str := Str.ofString "_bench"
/-- the class Builder, at Cq -/
structure Bqs (K : PySem.W.Frag) (mg : Str → Option Value) (Cq fQ fD : Addr) : Prop where
  g : mg "Builder" = some (.ref Cq)
  cls : Cls K Cq
  mkr : Mk K Cq fQ
  na : NoAttr K Cq kBench
  do_ : Meth K Cq "do" fD
theorem Rz.go {X : Addr} {o : Option V} {H H1 : Hp} {E : XK} (h : Rz X o H E) (e : Ex H H1) : Rz X o H1 E := by
  cases o with
  | none => exact fun G e1 => h G (e.trans e1)
  | some u => exact RaiseI.go h e
section
variable {K : PySem.W.Frag} {C Cb Ct Ca Cw Cn Cq : Addr} {H G : Hp}
/-- what is wrong with books, a tree, aims -/
inductive W3 (K : PySem.W.Frag) (C Cb Ct Ca : Addr) (H : Hp) : V → V → V → Addr → Option V → Prop
  | books {b t am u : V} (h : Bv K C H b (some u)) : W3 K C Cb Ct Ca H b t am Cb (some u)
  | tree {b t am u : V} (h : Bv K C H b none) (ht : Tr K H t (some u)) : W3 K C Cb Ct Ca H b t am Ct (some u)
  | aims {t am : V} {ba : Addr} {M : List Str} {xs : List V} (h : BsAt H C M ba xs) (ht : Tr K H t none) (ha : Av K H M am false) : W3 K C Cb Ct Ca H (.ref ba) t am Ca none
theorem W3.mono {b t am : V} {X : Addr} {o : Option V} (e : Ex H G) (h : W3 K C Cb Ct Ca H b t am X o) : W3 K C Cb Ct Ca G b t am X o := by
  cases h with
  | books h => exact .books (h.mono e)
  | tree h ht => exact .tree (h.mono e) (ht.mono e)
  | aims h ht ha => exact .aims (h.mono e) (ht.mono e) (ha.mono e)
theorem BsAt.bv {M : List Str} {ba : Addr} {xs : List V} (h : BsAt H C M ba xs) : Bv K C H (.ref ba) none :=
  .ok h.at_ h.one h.few fun x hx => by
    obtain ⟨c, t, ys, ps, h1, h2, _⟩ := h.all x hx
    exact ⟨c, _, h1, h2⟩
/-- a drawn tree -/
def Tq (H : Hp) (t : V) : Prop := ∃ (q : Addr) (o : Obj) (ts : List V) (fs : List Fl), t = .ref q ∧ H q = some (.frz o (.tup ts)) ∧ Pln o ∧ Paired (FileAt H) ts fs ∧ TreeOk fs
theorem Tq.mono {t : V} (e : Ex H G) (h : Tq H t) : Tq G t := by
  obtain ⟨q, o, ts, fs, h1, h2, h3, h4, h5⟩ := h
  exact ⟨q, o, ts, fs, h1, e _ _ h2, h3, paired_mono h4 fun v f z => by
    obtain ⟨c, h1, h2⟩ := z
    exact ⟨c, h1, e _ _ h2⟩, h5⟩
theorem Tq.tr {t : V} (h : Tq H t) : Tr K H t none := by
  obtain ⟨q, o, ts, fs, rfl, h2, h3, h4, h5⟩ := h
  exact good_tr h2 (.inr ⟨_, rfl⟩) h4 h5
/-- arguments that are good -/
structure GA (K : PySem.W.Frag) (C : Addr) (H : Hp) (M : List Str) (ba : Addr) (xs : List V) (t am : V) : Prop where
  b : BsAt H C M ba xs
  t : Tq H t
  a : Av K H M am true
theorem GA.mono {M : List Str} {ba : Addr} {xs : List V} {t am : V} (e : Ex H G) (h : GA K C H M ba xs t am) : GA K C G M ba xs t am := ⟨h.b.mono e, h.t.mono e, h.a.mono e⟩
/-- a way, or none -/
def Wy (K : PySem.W.Frag) (H : Hp) (v : V) (r : Bool) : Prop := ∃ d, (∀ G, Ex H G → Dp K G v d) ∧ SeqAt.shaped d = true ∧ wayB d = r
theorem Wy.mono {v : V} {r : Bool} (e : Ex H G) (h : Wy K H v r) : Wy K G v r := by
  obtain ⟨d, h1, h2⟩ := h
  exact ⟨d, fun G' e' => h1 G' (e.trans e'), h2⟩
/-- a builder by the books b -/
def BuAt (H : Hp) (Cq Cn y : Addr) (b : V) : Prop := ∃ dy bn dn gs, H y = some (.ins Cq dy [(kBench, .ref bn)]) ∧ H bn = some (.ins Cn dn gs) ∧ gs.lookup (Str.ofString "books") = some b
theorem BuAt.mono {y : Addr} {b : V} (e : Ex H G) (h : BuAt H Cq Cn y b) : BuAt G Cq Cn y b := by
  obtain ⟨dy, bn, dn, gs, h1, h2, h3⟩ := h
  exact ⟨dy, bn, dn, gs, e _ _ h1, e _ _ h2, h3⟩
end
section
variable {P : Program} {w : World} {K : PySem.W.Frag} {mg : Str → Option Value} {base : Heap} {C fI pR fG fL fE Cb Ct Ca Cw Cs Cn fN Cq fQ fD : Addr}
abbrev aBui : List Str := ["self", "books", "tree", "aims", "way"]
theorem scBuiI : FnScope aBui aBui (defScope sBuiI) := ⟨rfl, rfl, rfl, by decide +kernel, rfl, by decide +kernel, by decide +kernel⟩
def spBui (K : PySem.W.Frag) (C Cb Ct Ca Cw Cn Cq : Addr) : Sp := fun vs H Q E => ∃ x dx b t am wy, vs = [.ref x, b, t, am, wy] ∧ H x = some (.ins Cq dx []) ∧
  ((∃ X o, W3 K C Cb Ct Ca H b t am X o ∧ Rz X o H E) ∨ (∃ M ba xs, b = .ref ba ∧ GA K C H M ba xs t am ∧ ((Wy K H wy false ∧ Rz Cw none H E) ∨ (Wy K H wy true ∧ ∀ G, Exx x H G → BuAt G Cq Cn x b → Q .non G))))
theorem ok_buiI {f : Addr} {fd fdN : FuncData} {q : Str} (F : Fun K "__init__" q sBuiI f fd) (cB : Cal P w K mg base (L2.CX P w) 3 "check_books" ["value"] (spCkBooks K C Cb)) (cT : Cal P w K mg base (L2.CX P w) 4 "check_tree" ["value"] (spCkTree (K := K) Ct))
    (cA : Cal P w K mg base (L2.CX P w) 5 "check_aims" ["value", "books"] (spCkAims K C Ca)) (cW : Cal P w K mg base (L2.CX P w) 1 "check_way" ["value"] (spCkWay K Cw)) (BN : Bnc K mg Cn fN) (FN : FnOk P w K mg base CX0 1 fN fdN aBui (spBench K Cn)) (bN : Binds K fdN aBui []) (BQ : Bqs K mg Cq fQ fD) :
    FnOk P w K mg base (L2.CX P w) 6 f fd aBui (spBui K C Cb Ct Ca Cw Cn Cq) := by
  refine F.okX scBuiI (fun vs H Q E h => ?_) (fun cdv A outer s H vs Q E hr h => ?_)
  · obtain ⟨x, dx, b, t, am, wy, rfl, _⟩ := h
    rfl
  · obtain ⟨x, dx, b, t, am, wy, rfl, hx, h⟩ := h
    refine ⟨_, pss_cons (ps_expr (pe_call cB.F (hr.mono (by decide)) (by rfl) cB.g cB.kp cB.b .nil (lets (takes_of rfl rfl rfl rfl)) (pa_cons (pv 1) pa_nil)))
      (pss_cons (ps_expr (pe_call cT.F (hr.mono (by decide)) (by rfl) cT.g cT.kp cT.b .nil (lets (takes_of rfl rfl rfl rfl)) (pa_cons (pv 2) pa_nil)))
      (pss_cons (ps_expr (pe_call cA.F hr (by rfl) cA.g cA.kp cA.b .nil (lets (takes_of rfl rfl rfl rfl)) (pa_cons (pv 3) (pa_cons (pv 1) pa_nil))))
      (pss_cons (ps_expr (pe_call cW.F (hr.mono (by decide)) (by rfl) cW.g cW.kp cW.b .nil (lets (takes_of rfl rfl rfl rfl)) (pa_cons (pv 4) pa_nil)))
      (pss_one (ps_fld (pv 0) (pe_make BN.mkr FN (hr.mono (by decide)) (by rfl) BN.g bN .nil pass0 (pa_cons (pv 1) (pa_cons (pv 2) (pa_cons (pv 3) (pa_cons (pv 4) pa_nil))))) (by rfl)))))), ?_⟩
    rcases h with ⟨X, o, w3, k⟩ | ⟨M, ba, xs, rfl, ga, h⟩
    · cases w3 with
      | @books _ _ _ u h => exact ⟨_, rfl, b, _, rfl, h, fun z => (by cases z), fun v hv => by cases hv; exact k⟩
      | @tree _ _ _ u h ht => exact ⟨_, rfl, b, _, rfl, h, fun _ H1 e1 => ⟨_, rfl, t, _, rfl, ht.mono e1, fun z => (by cases z), fun v hv => by cases hv; exact RaiseI.go k e1⟩, fun v hv => by cases hv⟩
      | @aims _ _ ba M xs h ht ha => exact ⟨_, rfl, _, _, rfl, h.bv, fun _ H1 e1 => ⟨_, rfl, t, _, rfl, ht.mono e1, fun _ H2 e2 => ⟨_, rfl, _, rfl, am, ba, xs, M, false, rfl, h.mono (e1.trans e2), ha.mono (e1.trans e2), fun z => (by cases z), fun _ G eG => k G ((e1.trans e2).trans eG)⟩, fun v hv => by cases hv⟩, fun v hv => by cases hv⟩
    · refine ⟨_, rfl, _, _, rfl, ga.b.bv, fun _ H1 e1 => ⟨_, rfl, t, _, rfl, (ga.t.mono e1).tr, fun _ H2 e2 => ⟨_, rfl, _, rfl, am, ba, xs, M, true, rfl, ga.b.mono (e1.trans e2), ga.a.mono (e1.trans e2), fun _ H3 e3 => ?_, fun z => by cases z⟩, fun v hv => by cases hv⟩, fun v hv => by cases hv⟩
      have e := (e1.trans e2).trans e3
      rcases h with ⟨⟨d, dp, sh, hd⟩, k⟩ | ⟨⟨d, dp, sh, hd⟩, k⟩
      · exact ⟨_, rfl, wy, d, rfl, fun G eG => dp G (e.trans eG), sh, fun z => (by rw [hd] at z; cases z), fun _ G eG => k G (e.trans eG)⟩
      · refine ⟨_, rfl, wy, d, rfl, fun G eG => dp G (e.trans eG), sh, fun _ H4 e4 => ?_, fun z => by rw [hd] at z; cases z⟩
        have eA := e.trans e4
        refine ⟨_, rfl, _, rfl, _, rfl, _, rfl, fun y dy hy hdy ne => ?_⟩
        have e5 : Ex H4 (upd (upd H4 dy (.own y)) y (.ins Cn dy [])) := (Ex.new hdy).trans (Ex.new (by rw [upd_ne ne.symm]; exact hy))
        obtain ⟨q, o, ts, fs, rfl, hq, hpl, hpf, okt⟩ := ga.t.mono (eA.trans e5)
        have hl8 := tree_len okt
        refine ⟨y, dy, .ref ba, q, am, wy, o, ts, fs, rfl, upd_same, hq, hpl, hpf, by omega, fun G gs xG hG hb => ⟨rfl, _, rfl, x, Cq, dx, [], rfl, ?_, BQ.cls, BQ.na, by decide, ?_⟩⟩
        · have h4 := eA _ _ hx
          refine xG _ _ (fun z => ?_) (e5 _ _ h4)
          rw [z, hy] at h4
          cases h4
        · have h4 := eA _ _ hx
          have nyx : y ≠ x := fun z => by
            rw [← z, hy] at h4
            cases h4
          refine k _ (fun a o' n z => ?_) ⟨dx, y, dy, gs, upd_same, ?_, hb⟩
          · rw [upd_ne n]
            have h4' := eA _ _ z
            refine xG _ _ (fun z' => ?_) (e5 _ _ h4')
            rw [z', hy] at h4'
            cases h4'
          · rw [upd_ne nyx]
            exact hG
end
end Bt
namespace Bt
open PySem PySem.Spec PyProof.Rows L2 Bk Bm Evl Be Cr Kr Bp Bl TL
section
variable {P : Program} {w : World} {K : PySem.W.Frag} {mg : Str → Option Value} {base : Heap} {C fI pR fG fL fE Cb Ct Ca Cw Cs Cn fN Cq fQ fD : Addr}
theorem scDo : FnScope ["self", "step"] ["self", "step"] (defScope sBuiDo) := ⟨rfl, rfl, rfl, by decide +kernel, rfl, by decide +kernel, by decide +kernel⟩
def spDo (K : PySem.W.Frag) (C Cs Cn Cq : Addr) : Sp := fun vs H Q E => ∃ y st b M xs, vs = [.ref y, st] ∧ BuAt H Cq Cn y (.ref b) ∧ BsAt H C M b xs ∧ OS K H M (xs.length : Int) st ∧ Rz Cs none H E
theorem ok_do {f : Addr} {fd : FuncData} {q : Str} (F : Fun K "do" q sBuiDo f fd) (c : Xc K mg "BadStep" Cs) (cI : Cal P w K mg base CX0 5 "is_step" ["value", "books"] (spIsStep K C)) (BN : Bnc K mg Cn fN) (BQ : Bqs K mg Cq fQ fD) :
    FnOk P w K mg base (L2.CX P w) 6 f fd ["self", "step"] (spDo K C Cs Cn Cq) := by
  refine F.okX scDo (fun vs H Q E h => ?_) (fun cdv A outer s H vs Q E hr h => ?_)
  · obtain ⟨y, st, b, M, xs, rfl, _⟩ := h
    rfl
  · obtain ⟨y, st, b, M, xs, rfl, ⟨dy, bn, dn, gs, h1, h2, h3⟩, bs, os, k⟩ := h
    refine ⟨_, pss_cons (ps_if (pt_not (pt_val (pe_call cI.F hr (by rfl) cI.g cI.kp cI.b .nil pass0 (pa_cons (pv 1) (pa_cons (pe_fld (pe_fld (pv 0) (by rfl)) (by rfl)) pa_nil))))) (pss_one (ps_raise rfl (takes_of rfl rfl rfl rfl) (pmk_own0 c (by rfl)))) pss_nil) pss_never, ?_⟩
    have nb := BN.na (Str.ofString "books") (by simp)
    have ev : Ev (tCall (spIsStep K C) [] E0 (tCons (tVar 1) (tCons (tFld K (tFld K (tVar 0) kBench) (Str.ofString "books")) tNil))) (L2.start ["self", "step"] [.ref y, st]) H (.bl false) := fun H1 e1 Q' q' =>
      ⟨_, rfl, _, rfl, y, Cq, dy, _, .ref bn, rfl, e1 _ _ h1, BQ.cls, BQ.na, rfl, bn, Cn, dn, gs, .ref b, rfl, e1 _ _ h2, BN.cls, nb, h3, st, b, xs, M, false, rfl, bs.mono e1, (os.mono e1).stv, q'⟩
    exact q_when (b := true) (et_not (et_B ev)) (fun _ H1 e1 => k H1 e1) (fun z => by cases z)
end
/-! o.m(e, ..) where a raise is told at the slots as they stand -/
section
variable {X : Cx} {CX : CXT} {k : Nat} {f C : Addr} {fd : FuncData} {ps : List Str} {sp : Sp} {E : L2.St → XK} {m : Str} {pos apos : Pos} {e o : Expr} {es : List Expr} {to : TE} {t : TA} {pl : Sem Bool}
def tMth (C : Addr) (m : Str) (sp : Sp) (E : L2.St → XK) (to : TE) (t : TA) : TE := fun τ G Q => to τ G fun z G1 => ∃ y dy gs, z = .ref y ∧ G1 y = some (.ins C dy gs) ∧ gs.lookup m = none ∧ t τ G1 fun ws G2 => sp (z :: ws) G2 Q (E τ)
theorem pe_mth (fo : FnOk X.prog X.w X.K X.mg X.base CX k f fd ps sp) (c : Cls X.K C) (hm : Meth X.K C m f) (hr : Room k X.A) (hb : Binds X.K fd ps []) (pas : ∀ τ, PassesAt CX X τ (E τ)) (ho : PE X o to) (hs : PA X (e :: es) t)
    (one : starEach (e :: es) X.env = (false, eval e X.env) :: starEach es X.env := by rfl) (two : (backTo pos (starEach es X.env)).any (·.1) = false := by rfl)
    (way : eval (.Call (.Attribute o m apos) (e :: es) [] pos) X.env = (do
      let z ← eval o X.env
      standAt apos.atName
      let (g, z1) ← holding [z] (getMethod z m pl)
      callWith pos g z1 (backTo pos (starEach (e :: es) X.env)) (backToKw pos (keywordEach [] X.env))) := by rfl) :
    PE X (.Call (.Attribute o m apos) (e :: es) [] pos) (tMth C m sp E to t) := by
  constructor
  intro pins s τ G Q J h
  refine PySem.W.methodCall_KW (pl := pl) (thn (ho.run pins s τ G _ J h) ?_) way
  rintro u s1 ⟨z, G1, J1, ru, y, dy, gs, rfl, hy, nl, q⟩
  cases (show u = Value.ref y from ru)
  refine getmeth_ok J1 hy c hm nl (PySem.W.callWith_K (first := [.ref y]) (h₀ := X.base) J.ok.mod.kin hm.kp (thn (hs.run pos pins s1 τ G1 _ J1 q) ?_) one two)
  rintro us s2 ⟨ws, G2, J2, rs, q2⟩
  exact ⟨J2.kIn, run_fnS (us := .ref y :: us) (vs := .ref y :: ws) fo hr hb (pas τ) J2 (.cons rfl rs) q2⟩
end
end Bt
namespace Bt
open PySem PySem.Spec PyProof.Rows L2 Bk Bm Evl Be Cr Kr Bp Bl TL
abbrev sCkSteps : Stmt := top 145
abbrev sBsI : Stmt := inClass (top 19) 0
/-- a value where steps are told -/
inductive Sts (K : PySem.W.Frag) (H : Hp) (M : List Str) (many : Int) : V → Option V → Prop
  | no {v : V} {n : String} (k : Kd K H v n) (h : n ≠ "tuple") : Sts K H M many v (some .non)
  | len {a : Addr} {xs : List V} (h : H a = some (.tup xs)) (hl : 8 < xs.length) (hz : xs.length ≤ 100) : Sts K H M many (.ref a) (some .non)
  | bad {a : Addr} {xs : List V} {i : Nat} {v : V} (h : H a = some (.tup xs)) (h8 : xs.length ≤ 8) (hb : ∀ x ∈ xs.take i, StV K H M many x true) (hi : xs[i]? = some v) (hv : StV K H M many v false) : Sts K H M many (.ref a) (some (.int (i : Int)))
  | ok {a : Addr} {xs : List V} (h : H a = some (.tup xs)) (h8 : xs.length ≤ 8) (hb : ∀ x ∈ xs, StV K H M many x true) : Sts K H M many (.ref a) none
theorem Sts.mono {K : PySem.W.Frag} {H G : Hp} {M : List Str} {many : Int} {v : V} {o : Option V} (e : Ex H G) (h : Sts K H M many v o) : Sts K G M many v o := by
  cases h with
  | no k h => exact .no (k.mono e) h
  | len h hl hz => exact .len (e _ _ h) hl hz
  | bad h h8 hb hi hv => exact .bad (e _ _ h) h8 (fun x hx => (hb x hx).mono e) hi (hv.mono e)
  | ok h h8 hb => exact .ok (e _ _ h) h8 (fun x hx => (hb x hx).mono e)
section
variable {P : Program} {w : World} {K : PySem.W.Frag} {mg : Str → Option Value} {base : Heap} {C fI pR fG fL fE Cb fB : Addr}
theorem scBsI : FnScope ["self", "index"] ["self", "index"] (defScope sBsI) := ⟨rfl, rfl, rfl, by decide +kernel, rfl, by decide +kernel, by decide +kernel⟩
theorem ok_bsI {f C : Addr} {fd : FuncData} {q : Str} (F : Fun K "__init__" q sBsI f fd) : FnOk P w K mg base CX0 1 f fd ["self", "index"] (spXi K C) := by
  refine F.ok scBsI (fun vs H Q E h => ?_) (fun cdv A outer s H vs Q E hr h => ?_)
  · obtain ⟨x, v, rfl, _⟩ := h
    rfl
  · obtain ⟨a, v, rfl, ha, o, n, k⟩ := h
    refine ⟨_, pss_one (ps_ost (pv 0) (pv 1)), ?_⟩
    exact ⟨_, rfl, _, rfl, a, C, rfl, o, n, .inl ⟨ha, fun dx hd hne => k dx hd hne⟩⟩
def spCkSteps (K : PySem.W.Frag) (C Cb : Addr) : Sp := fun vs H Q E => ∃ v b xs M o, vs = [v, .ref b] ∧ BsAt H C M b xs ∧ Sts K H M (xs.length : Int) v o ∧ (o = none → RetV .non H Q) ∧ (∀ u, o = some u → RaiseI Cb u H E)
theorem scCkSteps : FnScope ["value", "books", "index", "thing"] ["value", "books"] (defScope sCkSteps) := ⟨rfl, rfl, rfl, by decide +kernel, rfl, by decide +kernel, by decide +kernel⟩
theorem ok_ckSteps {f : Addr} {fd fdI : FuncData} (F : Fun K "check_steps" "check_steps" sCkSteps f fd) (T : Gv mg) (hmb : ∃ t, mg "MOST_STEPS" = some (.int 8 t)) (c : Xi K mg "BadSteps" Cb fB) (FI : FnOk P w K mg base CX0 1 fB fdI ["self", "index"] (spXi K Cb)) (bI : Binds K fdI ["self", "index"] [])
    (cS : Cal P w K mg base CX0 5 "is_step" ["value", "books"] (spIsStep K C)) : FnOk P w K mg base (L2.CX P w) 6 f fd ["value", "books"] (spCkSteps K C Cb) := by
  refine F.okX scCkSteps (fun vs H Q E h => ?_) (fun cdv A outer s H vs Q E hr h => ?_)
  · obtain ⟨v, b, xs, M, o, rfl, _⟩ := h
    rfl
  · obtain ⟨v, b, ys, M, o, rfl, B, bv, k1, k2⟩ := h
    obtain ⟨t1, m1⟩ := hmb
    refine ⟨_, pss_cons (ps_if (pw_or (pt_not (pt_val (pe_callB call_isi (by rfl) T.isi boot_isinstance (pa_cons (pv 0) (pa_cons (pe_bltn (v := .ty "tuple") (by rfl) T.tup (by decide +kernel) rfl) pa_nil)))))
        (pw_or1 (pt_cmpR op_gt (pe_callB call_len_seq (by rfl) T.len PySem.boot_len (pa_cons (pv 0) pa_nil)) (pe_glob (v := .int 8) (by rfl) m1 ⟨_, rfl⟩) (nomark _)))).pt
        (pss_one (ps_raise rfl (takes_of rfl rfl rfl rfl) (pmk_xi c FI bI hr (by decide) (by rfl) pe_non))) pss_nil)
      (pss_one (ps_for (passes_of rfl) rfl (pi_enumT (by rfl) T.enu (pa_cons (pv 0) pa_nil)) (pg_tup rfl (pgs_cons (pg_name (i := 2) scCkSteps.nd rfl (Or.inl rfl)) (pgs_cons (pg_name (i := 3) scCkSteps.nd rfl (Or.inl rfl)) pgs_nil)))
        (pss_one (ps_if (pt_not (pt_val (pe_call cS.F hr (by rfl) cS.g cS.kp cS.b .nil pass0 (pa_cons (pv 3) (pa_cons (pv 1) pa_nil)))))
          (pss_one (ps_raise rfl (takes_of rfl rfl rfl rfl) (pmk_xi c FI bI hr (by decide) (by rfl) (pv 2)))) pss_nil)))), ?_⟩
    have isS : ∀ {σ : L2.St} {G : Hp} {x : V} {r : Bool}, σ[3]? = some (some x) → σ[1]? = some (some (.ref b)) → Ex H G → StV K G M (ys.length : Int) x r → EvT (tNot (tB (tCall (spIsStep K C) [] E0 (tCons (tVar 3) (tCons (tVar 1) tNil))))) σ G (!r) := fun s3 s1 e hb =>
      et_not (et_B (ev_call (ea_cons (ev_var s3) (ea_cons (ev_var s1) ea_nil)) fun H1 e1 Q' q' E' => ⟨_, b, ys, M, _, rfl, B.mono (e.trans e1), hb.mono e1, q'⟩))
    cases bv with
    | no kd hn =>
      refine q_when (b := true) (et_is (et_or (a := true) (b := true) (et_is (et_not (et_B (ev_isi (ev_var rfl) ev_c kd (.inr rfl)))) (by rw [decide_eq_false hn]; rfl)) fun hb => (by cases hb)) rfl) (fun _ H1 e1 => ?_) (fun hb => by cases hb)
      exact xi_make c ev_c (RaiseI.go (k2 _ rfl) e1)
    | @len a xs h hl hz =>
      refine q_when (b := true) (et_is (et_or (a := false) (b := true) (et_is (et_not (et_B (ev_isi (ev_var rfl) ev_c (kd_tup h) (.inr rfl)))) rfl) fun _ => et_is (et_test (ev_op (ev_lenT (ev_var rfl) (st_of h)) ev_c rv_I0)) (by simp; omega)) rfl) (fun _ H1 e1 => ?_) (fun hb => by cases hb)
      exact xi_make c ev_c (RaiseI.go (k2 _ rfl) e1)
    | @bad a xs i v h h8 hb hi hv =>
      refine q_when (b := false) (et_is (et_or (a := false) (b := false) (et_is (et_not (et_B (ev_isi (ev_var rfl) ev_c (kd_tup h) (.inr rfl)))) rfl) fun _ => et_is (et_test (ev_op (ev_lenT (ev_var rfl) (st_of h)) ev_c rv_I0)) (by simp; omega)) rfl) (fun hb => by cases hb) (fun _ H1 e1 => ?_)
      refine ⟨_, rfl, a, xs, rfl, st_of (e1 _ _ h), for_enumT (K := K) (a := a) (xs := xs) (fun j τ G => ∃ u v, τ = [some (.ref a), some (.ref b), u, v] ∧ Ex H G ∧ j ≤ i) ⟨none, none, rfl, e1, Nat.zero_le _⟩ (fun j τ G _ q => by obtain ⟨_, _, _, q, _⟩ := q; exact st_of (q _ _ h)) ?_ ?_⟩
      · rintro j x τ G T0 hj ⟨u, v2, rfl, eG, hji⟩ hT
        have e2 : Ex H (upd G T0 (.tup [.int (j : Nat), x])) := eG.trans (Ex.new hT)
        refine ⟨T0, _, rfl, SqT.of upd_same, rfl, _, _, rfl, _, _, rfl, rfl, ?_⟩
        show tIfS _ _ tNext _ ([some (.ref a), some (.ref b), some (.int (j : Int)), some x] : L2.St) _
        rcases Nat.lt_or_eq_of_le hji with hlt | rfl
        · have hx : x ∈ xs.take i := List.mem_of_getElem? (i := j) (by rw [List.getElem?_take_of_lt hlt]; exact hj)
          refine s_when (b := false) (isS rfl rfl e2 ((hb x hx).mono e2)) (fun z => by cases z) (fun _ H3 e3 => ?_)
          exact ⟨_, _, rfl, e2.trans e3, hlt⟩
        · rw [hi] at hj
          cases hj
          refine s_when (b := true) (isS rfl rfl e2 (hv.mono e2)) (fun _ H3 e3 => ?_) (fun z => by cases z)
          exact xi_make c (ev_var rfl) (RaiseI.go (k2 _ rfl) (e2.trans e3))
      · rintro τ G ⟨u, v2, rfl, eG, hji⟩
        have := (List.getElem?_eq_some_iff.mp hi).1
        omega
    | @ok a xs h h8 hb =>
      refine q_when (b := false) (et_is (et_or (a := false) (b := false) (et_is (et_not (et_B (ev_isi (ev_var rfl) ev_c (kd_tup h) (.inr rfl)))) rfl) fun _ => et_is (et_test (ev_op (ev_lenT (ev_var rfl) (st_of h)) ev_c rv_I0)) (by simp; omega)) rfl) (fun hb => by cases hb) (fun _ H1 e1 => ?_)
      refine ⟨_, rfl, a, xs, rfl, st_of (e1 _ _ h), for_enumT (K := K) (a := a) (xs := xs) (fun j τ G => ∃ u v, τ = [some (.ref a), some (.ref b), u, v] ∧ Ex H G) ⟨none, none, rfl, e1⟩ (fun j τ G _ q => by obtain ⟨_, _, _, q⟩ := q; exact st_of (q _ _ h)) ?_ ?_⟩
      · rintro j x τ G T0 hj ⟨u, v2, rfl, eG⟩ hT
        have e2 : Ex H (upd G T0 (.tup [.int (j : Nat), x])) := eG.trans (Ex.new hT)
        refine ⟨T0, _, rfl, SqT.of upd_same, rfl, _, _, rfl, _, _, rfl, rfl, ?_⟩
        show tIfS _ _ tNext _ ([some (.ref a), some (.ref b), some (.int (j : Int)), some x] : L2.St) _
        refine s_when (b := false) (isS rfl rfl e2 ((hb x (List.mem_of_getElem? hj)).mono e2)) (fun z => by cases z) (fun _ H3 e3 => ?_)
        exact ⟨_, _, rfl, e2.trans e3⟩
      · rintro τ G ⟨u, v2, rfl, eG⟩
        exact k1 rfl G eG
end
end Bt
namespace Bt
open PySem PySem.Spec PyProof.Rows L2 Bk Bm Evl Be Cr Kr Bp Bl TL
abbrev sShopI : Stmt := inClass (top 140) 0
abbrev sShopG : Stmt := inClass (top 140) 1
abbrev sShopE : Stmt := inClass (top 140) 2
abbrev kB : Str := Str.ofString "_books"
abbrev kT : Str := Str.ofString "_tree"
abbrev kA : Str := Str.ofString "_aims"
abbrev kS : Str := Str.ofString "_steps"
/-- the class Shop, at Cp -/
structure Shs (K : PySem.W.Frag) (mg : Str → Option Value) (Cp fP pP fG fE : Addr) : Prop where
  g : mg "Shop" = some (.ref Cp)
  cls : Cls K Cp
  mkr : Mk K Cp fP
  nb : NoAttr K Cp kB
  nt : NoAttr K Cp kT
  na : NoAttr K Cp kA
  ns : NoAttr K Cp kS
  prop : PropOf K Cp "steps" pP fG
  eq : PySem.W.findIn K (.ref Cp) "__eq__" = some (some (.ref fE))
  eqF : PySem.W.isFn K (.ref fE) = true
  nf : PySem.W.notFirst K Cp (.type "tuple") = true
  ha : PySem.W.findIn K (.ref Cp) "__class__" = some (some (.builtin "object.__class__"))
  hn : PySem.W.specialIn K (.builtin "object.__class__") "__get__" = some (some (.builtin "getset_descriptor.__get__"))
  htk : PySem.W.takesIn K (.builtin "object.__class__") = some true
  hm : PySem.W.mroIn K Cp (.type "object") = some true
  kt : PySem.W.kitOne K (.type "tuple") (.ref Cp) = some false
/-- a shop -/
def ShAt (H : Hp) (Cp a : Addr) (b t am st : V) : Prop := ∃ dx gs, H a = some (.ins Cp dx gs) ∧ gs.lookup kB = some b ∧ gs.lookup kT = some t ∧ gs.lookup kA = some am ∧ gs.lookup kS = some st
theorem ShAt.mono {H G : Hp} {Cp a : Addr} {b t am st : V} (e : Ex H G) (h : ShAt H Cp a b t am st) : ShAt G Cp a b t am st := by
  obtain ⟨dx, gs, h1, h⟩ := h
  exact ⟨dx, gs, e _ _ h1, h⟩
abbrev aShop : List Str := ["self", "books", "tree", "aims", "steps"]
section
variable {P : Program} {w : World} {K : PySem.W.Frag} {mg : Str → Option Value} {base : Heap} {C Cb Ct Ca Cs Cp fP pP fG fE : Addr}
theorem scShopI : FnScope aShop aShop (defScope sShopI) := ⟨rfl, rfl, rfl, by decide +kernel, rfl, by decide +kernel, by decide +kernel⟩
def spShop (K : PySem.W.Frag) (C Cs Cp : Addr) : Sp := fun vs H Q E => ∃ x dx M ba xs t am st o, vs = [.ref x, .ref ba, t, am, st] ∧ H x = some (.ins Cp dx []) ∧ GA K C H M ba xs t am ∧ Sts K H M (xs.length : Int) st o ∧
  (o = none → ∀ G, Exx x H G → ShAt G Cp x (.ref ba) t am st → Q .non G) ∧ (∀ u, o = some u → RaiseI Cs u H E)
theorem ok_shopI {f : Addr} {fd : FuncData} {q : Str} (F : Fun K "__init__" q sShopI f fd) (B : Shs K mg Cp fP pP fG fE) (cB : Cal P w K mg base (L2.CX P w) 3 "check_books" ["value"] (spCkBooks K C Cb)) (cT : Cal P w K mg base (L2.CX P w) 4 "check_tree" ["value"] (spCkTree (K := K) Ct))
    (cA : Cal P w K mg base (L2.CX P w) 5 "check_aims" ["value", "books"] (spCkAims K C Ca)) (cS : Cal P w K mg base (L2.CX P w) 6 "check_steps" ["value", "books"] (spCkSteps K C Cs)) : FnOk P w K mg base (L2.CX P w) 7 f fd aShop (spShop K C Cs Cp) := by
  refine F.okX scShopI (fun vs H Q E h => ?_) (fun cdv A outer s H vs Q E hr h => ?_)
  · obtain ⟨x, dx, M, ba, xs, t, am, st, o, rfl, _⟩ := h
    rfl
  · obtain ⟨x, dx, M, ba, xs, t, am, st, o, rfl, hx, ga, sts, k1, k2⟩ := h
    refine ⟨_, pss_cons (ps_expr (pe_call cB.F (hr.mono (by decide)) (by rfl) cB.g cB.kp cB.b .nil (lets (takes_of rfl rfl rfl rfl)) (pa_cons (pv 1) pa_nil)))
      (pss_cons (ps_expr (pe_call cT.F (hr.mono (by decide)) (by rfl) cT.g cT.kp cT.b .nil (lets (takes_of rfl rfl rfl rfl)) (pa_cons (pv 2) pa_nil)))
      (pss_cons (ps_expr (pe_call cA.F (hr.mono (by decide)) (by rfl) cA.g cA.kp cA.b .nil (lets (takes_of rfl rfl rfl rfl)) (pa_cons (pv 3) (pa_cons (pv 1) pa_nil))))
      (pss_cons (ps_expr (pe_call cS.F hr (by rfl) cS.g cS.kp cS.b .nil (lets (takes_of rfl rfl rfl rfl)) (pa_cons (pv 4) (pa_cons (pv 1) pa_nil))))
      (pss_cons (ps_fld (pv 0) (pv 1) (by rfl)) (pss_cons (ps_fld (pv 0) (pv 2) (by rfl)) (pss_cons (ps_fld (pv 0) (pv 3) (by rfl)) (pss_one (ps_fld (pv 0) (pv 4) (by rfl))))))))), ?_⟩
    refine ⟨_, rfl, _, _, rfl, ga.b.bv, fun _ H1 e1 => ⟨_, rfl, t, _, rfl, (ga.t.mono e1).tr, fun _ H2 e2 => ⟨_, rfl, _, rfl, am, ba, xs, M, true, rfl, ga.b.mono (e1.trans e2), ga.a.mono (e1.trans e2), fun _ H3 e3 => ?_, fun z => by cases z⟩, fun v hv => by cases hv⟩, fun v hv => by cases hv⟩
    have e := (e1.trans e2).trans e3
    refine ⟨_, rfl, _, rfl, st, ba, xs, M, o, rfl, ga.b.mono e, sts.mono e, fun ho H4 e4 => ?_, fun u hu => (k2 u hu).go e⟩
    have eA := e.trans e4
    refine ⟨_, rfl, _, rfl, x, Cp, dx, [], rfl, eA _ _ hx, B.cls, B.nb, by decide, ?_⟩
    refine ⟨_, rfl, _, rfl, x, Cp, dx, _, rfl, upd_same, B.cls, B.nt, by show 1 < 1000; decide, ?_⟩
    refine ⟨_, rfl, _, rfl, x, Cp, dx, _, rfl, upd_same, B.cls, B.na, by show 2 < 1000; decide, ?_⟩
    refine ⟨_, rfl, _, rfl, x, Cp, dx, _, rfl, upd_same, B.cls, B.ns, by show 3 < 1000; decide, ?_⟩
    refine k1 ho _ (fun a' o' n z => ?_) ⟨dx, _, upd_same, rfl, rfl, rfl, rfl⟩
    rw [upd_ne n, upd_ne n, upd_ne n, upd_ne n]
    exact eA _ _ z
/-! ### steps -/
def spShopG (Cp : Addr) : Sp := fun vs H Q _ => ∃ a b t am st, vs = [.ref a] ∧ ShAt H Cp a b t am st ∧ RetV st H Q
theorem scShopG : FnScope ["self"] ["self"] (defScope sShopG) := ⟨rfl, rfl, rfl, by decide +kernel, rfl, by decide +kernel, by decide +kernel⟩
theorem ev_shf {σ : L2.St} {H : Hp} {te : TE} {a dx : Addr} {gs : List (Str × V)} {k : Str} {v : V} (B : Shs K mg Cp fP pP fG fE) (n : NoAttr K Cp k) (h : Ev te σ H (.ref a)) (b : H a = some (.ins Cp dx gs)) (hl : gs.lookup k = some v) : Ev (tFld K te k) σ H v := fun H1 e Q q => h H1 e _ fun H2 e2 =>
  ⟨a, Cp, dx, _, v, rfl, (e.trans e2) _ _ b, B.cls, n, hl, q H2 e2⟩
theorem ok_shopG {f : Addr} {fd : FuncData} {q : Str} (F : Fun K "steps" q sShopG f fd) (B : Shs K mg Cp fP pP fG fE) : FnOk P w K mg base CX0 1 f fd ["self"] (spShopG Cp) := by
  refine F.ok scShopG (fun vs H Q E h => ?_) (fun cdv A outer s H vs Q E hr h => ?_)
  · obtain ⟨a, b, t, am, st, rfl, _⟩ := h
    rfl
  · obtain ⟨a, b, t, am, st, rfl, ⟨dx, gs, h1, h2, h3, h4, h5⟩, k⟩ := h
    refine ⟨_, pss_one (ps_ret (pe_fld (pv 0) (by rfl))), ?_⟩
    exact s_ret (ev_shf B B.ns (ev_var rfl) h1 h5) k
/-! ### == -/
theorem ty_sh {H : Hp} {a : Addr} {b t am st : V} (B : Shs K mg Cp fP pP fG fE) (h : ShAt H Cp a b t am st) : TyX K H (.ref a) (.ref Cp) := by
  obtain ⟨dx, gs, h, _⟩ := h
  exact .base (.ins h B.cls B.ha B.hn B.htk B.hm)
theorem ev_isS {σ : L2.St} {H : Hp} {te tx : TE} {a : Addr} {b t am st : V} (B : Shs K mg Cp fP pP fG fE) (h : Ev te σ H (.ref a)) (hc : Ev tx σ H (.ref Cp)) (s : ShAt H Cp a b t am st) : Ev (tCB (rIsi K) (tCons te (tCons tx tNil))) σ H (.bl true) := fun H1 e Q q =>
  h H1 e _ fun H2 e2 => hc H2 (e.trans e2) _ fun H3 e3 => ⟨.ref a, .ref Cp, .ref Cp, .ref Cp, true, rfl, .own Cp, ty_sh B (s.mono ((e.trans e2).trans e3)), kt_self, q H3 (e2.trans e3)⟩
/-- the same reference -/
def Dsame : Eqv := fun x y _ => ∃ a, x = .ref a ∧ y = .ref a
theorem eqg_same {X : Cx} {n : Nat} : EqG X n Dsame := by
  intro A pins s σ H x y u v sb I rx ry d
  obtain ⟨a, rfl, rfl⟩ := d
  cases rx
  cases ry
  exact SeqAt.EqAt.same (A := A) (s := s) (.ref a) X.prog X.w X.xe _ ⟨rfl, H, I, fun _ _ h => h⟩
theorem mon_same : Mon Dsame := fun _ _ _ _ _ h => h
/-- what two shops of the same books tell -/
def spShopE (K : PySem.W.Frag) (Cp : Addr) : Sp := fun vs H Q _ => ∃ a b bo t am st, vs = [.ref a, .ref b] ∧ ShAt H Cp a bo t am st ∧
  ((∃ xs, H b = some (.tup xs) ∧ RetV (.bl false) H Q) ∨ ∃ (ba : Addr) (xs : List V) (t2 am2 st2 : V) (dt dt2 da ds ds2 : PyData), bo = .ref ba ∧ SqT K H ba xs ∧ (∀ x ∈ xs, ∃ c, x = .ref c) ∧ ShAt H Cp b bo t2 am2 st2 ∧
    (∀ G, Ex H G → Dp K G t dt ∧ Dp K G t2 dt2 ∧ Dp K G am da ∧ Dp K G am2 da ∧ Dp K G st ds ∧ Dp K G st2 ds2) ∧ SeqAt.shaped dt = true ∧ SeqAt.shaped dt2 = true ∧ SeqAt.shaped da = true ∧ SeqAt.shaped ds = true ∧ SeqAt.shaped ds2 = true ∧
    PyData.eqv da da = true ∧ RetV (.bl (PyData.eqv dt dt2 && PyData.eqv ds ds2)) H Q)
theorem scShopE : FnScope ["self", "other"] ["self", "other"] (defScope sShopE) := ⟨rfl, rfl, rfl, by decide +kernel, rfl, by decide +kernel, by decide +kernel⟩
theorem prs_same (H : Hp) : ∀ {xs : List V}, (∀ x ∈ xs, ∃ c, x = .ref c) → Prs Dsame xs xs H := fun h => ⟨rfl, fun i x y h1 h2 => by
  rw [h1] at h2
  cases h2
  obtain ⟨c, rfl⟩ := h _ (List.mem_of_getElem? h1)
  exact ⟨c, rfl, rfl⟩⟩
theorem ok_shopE {f : Addr} {fd : FuncData} {q : Str} (F : Fun K "__eq__" q sShopE f fd) (T : Gv mg) (B : Shs K mg Cp fP pP fG fE) : FnOk P w K mg base CX0 2 f fd ["self", "other"] (spShopE K Cp) := by
  refine F.ok scShopE (fun vs H Q E h => ?_) (fun cdv A outer s H vs Q E hr h => ?_)
  · obtain ⟨a, b, bo, t, am, st, rfl, _⟩ := h
    rfl
  · obtain ⟨a, b, bo, t, am, st, rfl, sa, h⟩ := h
    have hu : (A.deeper (envOfC q (defScope sShopE) s.heap.objs.size f cdv)).units + 64 < cLine := by have := hr.un; omega
    refine ⟨_, pss_one (ps_ret (pe_and (pe_callB call_isi (by rfl) T.isi boot_isinstance (pa_cons (pv 1) (pa_cons (pe_glob (v := .ref Cp) (by rfl) B.g rfl) pa_nil)))
      (pe_and (pe_cmpR (op_eqG (rcG_tup mon_same (eqg_same (n := 0))) hr) (pe_fld (pv 0) (by rfl)) (pe_fld (pv 1) (by rfl)) (nomark _))
      (pe_and (pe_cmpR (op_eqD hu) (pe_fld (pv 0) (by rfl)) (pe_fld (pv 1) (by rfl)) (nomark _))
      (pe_and (pe_cmpR (op_eqD hu) (pe_fld (pv 0) (by rfl)) (pe_fld (pv 1) (by rfl)) (nomark _))
      (pe_one (pe_cmpR (op_eqD hu) (pe_fld (pv 0) (by rfl)) (pe_fld (pv 1) (by rfl)) (nomark _)))))))), ?_⟩
    rcases h with ⟨xs, hb, k⟩ | ⟨ba, xs, t2, am2, st2, dt, dt2, da, ds, ds2, rfl, hba, hxs, sb, dp, s1, s2, s3, s4, s5, eqa, k⟩
    · refine s_ret (v := .bl false) (ev_is (ev_and (a := false) (b := false) (fun H1 e1 Q q => ⟨_, rfl, .ref b, .ref Cp, .type "tuple", .ref Cp, false, rfl, .own Cp, .base (.tup (e1 _ _ hb)), B.kt, q H1 (Ex.refl _)⟩) (fun z => by cases z)) rfl) k
    · obtain ⟨dx, gs, h1, h2, h3, h4, h5⟩ := id sa
      obtain ⟨dx', gs', g1, g2, g3, g4, g5⟩ := id sb
      refine s_ret (v := .bl (PyData.eqv dt dt2 && PyData.eqv ds ds2)) (ev_is (ev_and (a := true) (b := PyData.eqv dt dt2 && PyData.eqv ds ds2) (ev_isS B (ev_var rfl) ev_c sb) fun _ =>
        ev_is (ev_and (a := true) (b := PyData.eqv dt dt2 && PyData.eqv ds ds2) (ev_op (ev_shf B B.nb (ev_var rfl) h1 h2) (ev_shf B B.nb (ev_var rfl) g1 g2) fun H1 e1 Q q => ⟨⟨ba, ba, xs, xs, rfl, rfl, ex_t e1 hba, ex_t e1 hba, prs_same _ hxs⟩, fun H2 e2 => q H2 e2⟩) fun _ =>
        ev_is (ev_and (a := PyData.eqv dt dt2) (b := PyData.eqv ds ds2) (ev_op (ev_shf B B.nt (ev_var rfl) h1 h3) (ev_shf B B.nt (ev_var rfl) g1 g3) fun H1 e1 Q q => ⟨dt, dt2, (dp H1 e1).1, (dp H1 e1).2.1, s1, s2, q H1 (Ex.refl _)⟩) fun _ =>
        ev_is (ev_and (a := true) (b := PyData.eqv ds ds2) (ev_op (ev_shf B B.na (ev_var rfl) h1 h4) (ev_shf B B.na (ev_var rfl) g1 g4) fun H1 e1 Q q => ⟨da, da, (dp H1 e1).2.2.1, (dp H1 e1).2.2.2.1, s3, s3, by rw [eqa]; exact q H1 (Ex.refl _)⟩) fun _ =>
        ev_op (ev_shf B B.ns (ev_var rfl) h1 h5) (ev_shf B B.ns (ev_var rfl) g1 g5) fun H1 e1 Q q => ⟨ds, ds2, (dp H1 e1).2.2.2.2.1, (dp H1 e1).2.2.2.2.2, s4, s5, q H1 (Ex.refl _)⟩) rfl) rfl) rfl) rfl) k
end
end Bt
namespace Bt
open PySem PySem.Spec PyProof.Rows L2 Bk Bm Evl Be Cr Kr Bp Bl TL
abbrev sCkShop : Stmt := top 146
abbrev sCkRow : Stmt := top 147
abbrev sFW : Stmt := top 141
abbrev sFol : Stmt := top 142
section
variable {K : PySem.W.Frag} {Cp Csh Cw Cro : Addr} {H G : Hp}
/-- a value that is no row -/
inductive Rw (K : PySem.W.Frag) (H : Hp) (n : Int) : V → Prop
  | no {v : V} {k : String} (h : Kd K H v k) (hn : k ≠ "tuple") : Rw K H n v
  | one {a : Addr} {v : V} (h : H a = some (.tup [v])) (hv : Nv v) (hr : inR 0 (n - 1) v = false) : Rw K H n (.ref a)
theorem Rw.mono {n : Int} {v : V} (e : Ex H G) (h : Rw K H n v) : Rw K G n v := by
  cases h with
  | no h hn => exact .no (h.mono e) hn
  | one h hv hr => exact .one (e _ _ h) hv hr
/-- what is wrong of a shop, a way, a row -/
inductive WS (K : PySem.W.Frag) (Cp Csh Cw Cro : Addr) (H : Hp) : V → V → V → Addr → Prop
  | shop {s wy ro : V} {n : String} (h : Kd K H s n) : WS K Cp Csh Cw Cro H s wy ro Csh
  | way {a : Addr} {b t am st wy ro : V} (s : ShAt H Cp a b t am st) (h : Wy K H wy false) : WS K Cp Csh Cw Cro H (.ref a) wy ro Cw
  | row {a sp : Addr} {xs : List V} {b t am wy ro : V} (s : ShAt H Cp a b t am (.ref sp)) (hs : SqT K H sp xs) (h : Wy K H wy true) (hr : Rw K H (xs.length : Int) ro) : WS K Cp Csh Cw Cro H (.ref a) wy ro Cro
/-- of a shop and two ways -/
inductive WA (K : PySem.W.Frag) (Cp Csh Cw : Addr) (H : Hp) : V → V → V → Addr → Prop
  | shop {s wy wz : V} {n : String} (h : Kd K H s n) : WA K Cp Csh Cw H s wy wz Csh
  | one {a : Addr} {b t am st wy wz : V} (s : ShAt H Cp a b t am st) (h : Wy K H wy false) : WA K Cp Csh Cw H (.ref a) wy wz Cw
  | two {a : Addr} {b t am st wy wz : V} (s : ShAt H Cp a b t am st) (h : Wy K H wy true) (h2 : Wy K H wz false) : WA K Cp Csh Cw H (.ref a) wy wz Cw
theorem WS.mono {s wy ro : V} {X : Addr} (e : Ex H G) (h : WS K Cp Csh Cw Cro H s wy ro X) : WS K Cp Csh Cw Cro G s wy ro X := by
  cases h with
  | shop h => exact .shop (h.mono e)
  | way s h => exact .way (s.mono e) (h.mono e)
  | row s hs h hr => exact .row (s.mono e) (ex_t e hs) (h.mono e) (hr.mono e)
theorem WA.mono {s wy ro : V} {X : Addr} (e : Ex H G) (h : WA K Cp Csh Cw H s wy ro X) : WA K Cp Csh Cw G s wy ro X := by
  cases h with
  | shop h => exact .shop (h.mono e)
  | one s h => exact .one (s.mono e) (h.mono e)
  | two s h h2 => exact .two (s.mono e) (h.mono e) (h2.mono e)
end
section
variable {P : Program} {w : World} {K : PySem.W.Frag} {mg : Str → Option Value} {base : Heap} {Cp fP pP fG fE Csh Cw Cro : Addr}
def spCkShop (K : PySem.W.Frag) (Cp Csh : Addr) : Sp := fun vs H Q E => ∃ v, vs = [v] ∧ ((∃ n, Kd K H v n ∧ Rz0 Csh H E) ∨ (∃ a b t am st, v = .ref a ∧ ShAt H Cp a b t am st ∧ RetV .non H Q))
theorem scCkShop : FnScope ["value"] ["value"] (defScope sCkShop) := ⟨rfl, rfl, rfl, by decide +kernel, rfl, by decide +kernel, by decide +kernel⟩
theorem ok_ckShop {f : Addr} {fd : FuncData} (F : Fun K "check_shop" "check_shop" sCkShop f fd) (T : Gv mg) (c : Xc K mg "BadShop" Csh) (B : Shs K mg Cp fP pP fG fE) (h1 : PySem.W.isClsIn K Cp = true) (h2 : PySem.W.typeIn K (.ref Cp) = some (.type "type")) :
    FnOk P w K mg base (L2.CX P w) 2 f fd ["value"] (spCkShop K Cp Csh) := by
  refine F.okX scCkShop (fun vs H Q E h => ?_) (fun cdv A outer s H vs Q E hr h => ?_)
  · obtain ⟨v, rfl, _⟩ := h
    rfl
  · obtain ⟨v, rfl, h⟩ := h
    refine ⟨_, pss_one (ps_if (pt_not (pt_val (pe_callB call_isi (by rfl) T.isi boot_isinstance (pa_cons (pv 0) (pa_cons (pe_glob (v := .ref Cp) (by rfl) B.g rfl) pa_nil))))) (pss_one (ps_raise rfl (takes_of rfl rfl rfl rfl) (pmk_own0 c (by rfl)))) pss_nil), ?_⟩
    rcases h with ⟨n, kd, k⟩ | ⟨a, b, t, am, st, rfl, sh, k⟩
    · refine s_if (b := true) (et_is (et_not (et_B (ev_isN h1 h2 (ev_var rfl) ev_c kd))) rfl) (fun _ H1 e1 => ?_) (fun z => by cases z)
      exact k H1 e1
    · refine s_if (b := false) (et_is (et_not (et_B (ev_isS B (ev_var rfl) ev_c sh))) rfl) (fun z => by cases z) (fun _ H1 e1 => ?_)
      exact k H1 e1
theorem Wy.ck {H H1 : Hp} {v : V} {r : Bool} {Q : VK} {E : XK} (h : Wy K H v r) (e : Ex H H1) (k1 : r = true → RetV .non H1 Q) (k2 : r = false → Rz0 Cw H1 E) : spCkWay K Cw [v] H1 Q E := by
  obtain ⟨d, dp, sh, hd⟩ := h
  exact ⟨v, d, rfl, fun G eG => dp G (e.trans eG), sh, fun z => k1 (by rw [← hd]; exact z), fun z => k2 (by rw [← hd]; exact z)⟩
/-! ### two of them -/
def spW2 (K : PySem.W.Frag) (Cp Csh Cw : Addr) : Sp := fun vs H Q E => ∃ s wy X, vs = [s, wy] ∧ WA K Cp Csh Cw H s wy wy X ∧ Rz0 X H E
theorem scFW : FnScope ["shop", "way"] ["shop", "way"] (defScope sFW) := ⟨rfl, rfl, rfl, by decide +kernel, rfl, by decide +kernel, by decide +kernel⟩
theorem two_go {σ : L2.St} {H : Hp} {s wy : V} {X : Addr} {E : XK} (s0 : σ[0]? = some (some s)) (s1 : σ[1]? = some (some wy)) (h : WA K Cp Csh Cw H s wy wy X) (k : Rz0 X H E) {tz : TS} {De : Ends} :
    tSeq (tDrop (tCall (spCkShop K Cp Csh) [] E (tCons (tVar 0) tNil))) (tSeq (tDrop (tCall (spCkWay K Cw) [] E (tCons (tVar 1) tNil))) tz) De σ H := by
  cases h with
  | shop h => exact ⟨_, s0, s, rfl, .inl ⟨_, h, k⟩⟩
  | one sh h => exact ⟨_, s0, _, rfl, .inr ⟨_, _, _, _, _, rfl, sh, fun H1 e1 => ⟨_, s1, h.ck e1 (fun z => by cases z) fun _ G e => k G (e1.trans e)⟩⟩⟩
  | two sh h h2 => exact ⟨_, s0, _, rfl, .inr ⟨_, _, _, _, _, rfl, sh, fun H1 e1 => ⟨_, s1, h2.ck e1 (fun z => by cases z) fun _ G e => k G (e1.trans e)⟩⟩⟩
theorem ok_fw {k : Nat} (hk : 2 ≤ k) {f : Addr} {fd : FuncData} (F : Fun K "first_wrong" "first_wrong" sFW f fd) (cS : Cal P w K mg base (L2.CX P w) 2 "check_shop" ["value"] (spCkShop K Cp Csh)) (cW : Cal P w K mg base (L2.CX P w) 1 "check_way" ["value"] (spCkWay K Cw)) : FnOk P w K mg base (L2.CX P w) (k + 1) f fd ["shop", "way"] (spW2 K Cp Csh Cw) := by
  refine F.okX scFW (fun vs H Q E h => ?_) (fun cdv A outer s H vs Q E hr h => ?_)
  · obtain ⟨s, wy, X, rfl, _⟩ := h
    rfl
  · obtain ⟨s, wy, X, rfl, wa, kk⟩ := h
    refine ⟨_, pss_cons (ps_expr (pe_call cS.F (hr.mono (by omega)) (by rfl) cS.g cS.kp cS.b .nil (lets (takes_of rfl rfl rfl rfl)) (pa_cons (pv 0) pa_nil)))
      (pss_cons (ps_expr (pe_call cW.F (hr.mono (by omega)) (by rfl) cW.g cW.kp cW.b .nil (lets (takes_of rfl rfl rfl rfl)) (pa_cons (pv 1) pa_nil))) pss_never), ?_⟩
    exact two_go rfl rfl wa kk
/-! ### three of them -/
def spW3 (K : PySem.W.Frag) (Cp Csh Cw Cro : Addr) : Sp := fun vs H Q E => ∃ s wy ro X, vs = [s, wy, ro] ∧ WS K Cp Csh Cw Cro H s wy ro X ∧ Rz0 X H E
def spWA (K : PySem.W.Frag) (Cp Csh Cw : Addr) : Sp := fun vs H Q E => ∃ s wy wz X, vs = [s, wy, wz] ∧ WA K Cp Csh Cw H s wy wz X ∧ Rz0 X H E
theorem ev_propS {σ : L2.St} {H : Hp} {te : TE} {a : Addr} {b t am st : V} (h : Ev te σ H (.ref a)) (s : ShAt H Cp a b t am st) : Ev (tProp Cp (spShopG Cp) [] E0 te) σ H st := fun H1 e Q q => h H1 e _ fun H2 e2 => by
  have s2 := s.mono (e.trans e2)
  obtain ⟨dx, gs, h1, _⟩ := id s2
  exact ⟨a, dx, gs, rfl, h1, a, b, t, am, st, rfl, s2, fun H3 e3 => q H3 (e2.trans e3)⟩
theorem scCkRow : FnScope ["shop", "way", "value", "thing"] ["shop", "way", "value"] (defScope sCkRow) := ⟨rfl, rfl, rfl, by decide +kernel, rfl, by decide +kernel, by decide +kernel⟩
theorem ok_ckRow {f : Addr} {fd fdG : FuncData} (F : Fun K "check_row" "check_row" sCkRow f fd) (T : Gv mg) (c : Xc K mg "BadRow" Cro) (B : Shs K mg Cp fP pP fG fE) (FG : FnOk P w K mg base CX0 1 fG fdG ["self"] (spShopG Cp)) (bG : Binds K fdG ["self"] [])
    (cS : Cal P w K mg base (L2.CX P w) 2 "check_shop" ["value"] (spCkShop K Cp Csh)) (cW : Cal P w K mg base (L2.CX P w) 1 "check_way" ["value"] (spCkWay K Cw)) (cF : Cal P w K mg base CX0 1 "is_from_to" ["value", "least", "most"] spFrom) : FnOk P w K mg base (L2.CX P w) 3 f fd ["shop", "way", "value"] (spW3 K Cp Csh Cw Cro) := by
  refine F.okX scCkRow (fun vs H Q E h => ?_) (fun cdv A outer s H vs Q E hr h => ?_)
  · obtain ⟨s, wy, wz, X, rfl, _⟩ := h
    rfl
  · obtain ⟨s, wy, ro, X, rfl, ws, kk⟩ := h
    have hr1 : Room 1 _ := hr.mono (by decide)
    refine ⟨_, pss_cons (ps_expr (pe_call cS.F (hr.mono (by omega)) (by rfl) cS.g cS.kp cS.b .nil (lets (takes_of rfl rfl rfl rfl)) (pa_cons (pv 0) pa_nil)))
      (pss_cons (ps_expr (pe_call cW.F (hr.mono (by omega)) (by rfl) cW.g cW.kp cW.b .nil (lets (takes_of rfl rfl rfl rfl)) (pa_cons (pv 1) pa_nil)))
      (pss_one (ps_if (pw_or (pt_not (pt_val (pe_callB call_isi (by rfl) T.isi boot_isinstance (pa_cons (pv 2) (pa_cons (pe_bltn (v := .ty "tuple") (by rfl) T.tup (by decide +kernel) rfl) pa_nil)))))
        (pw_or1 (pt_not (pt_val (pe_callB (cr_all rfl) (by rfl) T.all boot_all (pa_cons (pe_lc (own := [("thing", 3)]) (g := gName 3) (tt := tYes) rfl scCkRow.nd (pi_tup (pv 2)) (blkOk_by (N := ["shop", "way", "value", "thing"]) (sc := defScope sCkRow) (by decide +kernel))
          (fun _ _ _ _ _ => pg_name (i := 3) scCkRow.nd rfl (Or.inl rfl)) (fun _ _ _ _ _ => pts_nil)
          (fun _ _ _ _ _ => pe_call cF.F hr1 (by rfl) cF.g cF.kp cF.b .nil pass0 (pa_cons (pv 3) (pa_cons pe_int (pa_cons (pe_op op_sub (pe_callB (r := rLenS K) call_len_seq (by rfl) T.len PySem.boot_len (pa_cons (pe_prop (pv 0) B.cls B.prop FG hr bG .nil pass0 (by rfl)) pa_nil)) pe_int) pa_nil))))) pa_nil)))))).pt
        (pss_one (ps_raise rfl (takes_of rfl rfl rfl rfl) (pmk_own0 c (by rfl)))) pss_nil))), ?_⟩
    cases ws with
    | shop h => exact ⟨_, rfl, s, rfl, .inl ⟨_, h, kk⟩⟩
    | way sh h => exact ⟨_, rfl, _, rfl, .inr ⟨_, _, _, _, _, rfl, sh, fun H1 e1 => ⟨_, rfl, h.ck e1 (fun z => by cases z) fun _ G e => kk G (e1.trans e)⟩⟩⟩
    | @row a sp xs b t am _ _ sh hs h hro =>
      refine ⟨_, rfl, _, rfl, .inr ⟨_, _, _, _, _, rfl, sh, fun H1 e1 => ⟨_, rfl, h.ck e1 (fun _ H2 e2 => ?_) fun z => by cases z⟩⟩⟩
      have e12 := e1.trans e2
      dsimp only
      cases hro with
      | no kd hn =>
        refine s_when (b := true) (et_is (et_or (a := true) (b := true) (et_is (et_not (et_B (ev_isi (ev_var rfl) ev_c (kd.mono e12) (.inr rfl)))) (by rw [decide_eq_false hn]; rfl)) fun hb => (by cases hb)) rfl) (fun _ H3 e3 => ?_) (fun hb => by cases hb)
        exact kk _ (e12.trans e3)
      | @one ra v hra hv hin =>
        refine s_when (b := true) (et_is (et_or (a := false) (b := true) (et_is (et_not (et_B (ev_isi (ev_var rfl) ev_c (kd_tup (e12 _ _ hra)) (.inr rfl)))) rfl) fun _ => et_is (et_not (et_B (ev_all (bs := [inR 0 ((xs.length : Int) - 1) v]) ?_))) ?_) rfl) (fun _ H3 e3 => ?_) (fun hb => by cases hb)
        · refine el_lcT (K := K) (xs := [v]) (fun x => .bl (inR 0 ((xs.length : Int) - 1) x)) (ev_var rfl) (st_of (e12 _ _ hra)) (by simp) fun x H3 e3 hx => ?_
          rw [List.mem_singleton.mp hx]
          exact ev_call (ea_cons (ev_var rfl) (ea_cons ev_c (ea_cons (ev_op (ev_lenT (ev_propS (ev_var rfl) (sh.mono (e12.trans e3))) (ex_t (e12.trans e3) hs)) ev_c rv_I0) ea_nil))) fun H4 e4 Q' q' E' => ⟨v, 0, (xs.length : Int) - 1, rfl, hv, q'⟩
        · rw [show [inR 0 ((xs.length : Int) - 1) v].all id = inR 0 ((xs.length : Int) - 1) v by simp, hin]
          rfl
        · exact kk _ (e12.trans e3)
theorem scFol : FnScope ["shop", "way", "row", "bench", "number"] ["shop", "way", "row"] (defScope sFol) := ⟨rfl, rfl, rfl, by decide +kernel, rfl, by decide +kernel, by decide +kernel⟩
theorem ok_fol {f : Addr} {fd : FuncData} (F : Fun K "follow" "follow" sFol f fd) (cR : Cal P w K mg base (L2.CX P w) 3 "check_row" ["shop", "way", "value"] (spW3 K Cp Csh Cw Cro)) : FnOk P w K mg base (L2.CX P w) 5 f fd ["shop", "way", "row"] (spW3 K Cp Csh Cw Cro) := by
  refine F.okX scFol (fun vs H Q E h => ?_) (fun cdv A outer s H vs Q E hr h => ?_)
  · obtain ⟨s, wy, wz, X, rfl, _⟩ := h
    rfl
  · obtain ⟨s, wy, ro, X, rfl, ws, kk⟩ := h
    refine ⟨_, pss_cons (ps_expr (pe_call cR.F (hr.mono (by omega)) (by rfl) cR.g cR.kp cR.b .nil (lets (takes_of rfl rfl rfl rfl)) (pa_cons (pv 0) (pa_cons (pv 1) (pa_cons (pv 2) pa_nil))))) pss_never, ?_⟩
    exact ⟨_, rfl, _, rfl, _, rfl, s, wy, ro, X, rfl, ws, kk⟩
end
end Bt
namespace Bt
open PySem PySem.Spec PyProof.Rows L2 Bk Bm Evl Be Cr Kr Bp Bl TL
abbrev sCkPath : Stmt := top 46
abbrev sCkFolder : Stmt := top 47
abbrev sCkWords : Stmt := top 48
abbrev sTextAt : Stmt := top 31
abbrev sNamesIn : Stmt := top 32
abbrev sPut : Stmt := top 33
abbrev sTakenP : Stmt := top 34
/-- good files in their order -/
structure GF (fs : List Fl) : Prop where
  ok : ∀ f ∈ fs, okF f ∧ pathB f.1 = true ∧ textB f.2 = true
  up : ∀ (i : Nat) (f : Fl), fs[i]? = some f → follow f.1 (fs.take i) = true
  few : fs.length ≤ 20
/-- a good tree stands at a, a plain tuple -/
def GT (H : Hp) (a : Addr) (fs : List Fl) : Prop := (∃ o xs, H a = some (.frz o (.tup xs)) ∧ Pln o ∧ Paired (FileAt H) xs fs) ∧ GF fs
section
variable {H H' : Hp} {a : Addr} {fs : List Fl} {K : PySem.W.Frag}
theorem GT.mono (e : Ex H H') (h : GT H a fs) : GT H' a fs := by
  obtain ⟨⟨o, xs, h1, h2, h3⟩, g⟩ := h
  exact ⟨⟨o, xs, e _ _ h1, h2, paired_mono h3 fun _ _ z => z.mono e⟩, g⟩
end
/-- the dict of a tree's files -/
def kvF (f : Fl) : Key × V := (Sum.inr f.1, V.str f.2)
section
variable {H H' : Hp} {a : Addr} {fs : List Fl} {K : PySem.W.Frag}
theorem GT.seq (h : GT H a fs) : ∃ xs, SqT K H a xs ∧ Paired (FileAt H) xs fs ∧ Kd K H (.ref a) "tuple" := by
  obtain ⟨⟨o, xs, h1, h2, h3⟩, g⟩ := h
  exact ⟨xs, .inl (.inr ⟨o, h1⟩), h3, .fTuple h1, by decide⟩
end
theorem merge_id : ∀ (more kvs : List (Key × V)), (∀ p ∈ more, ∀ q ∈ kvs, q.1 ≠ p.1) → (more.map (·.1)).Nodup → mergeK kvs more = kvs ++ more
  | [], kvs, _, _ => by simp [mergeK]
  | p :: r, kvs, h, nd => by
    have hp : putK kvs p.1 p.2 = kvs ++ [p] := by
      unfold putK
      rw [if_neg (by
        intro z
        obtain ⟨q, hq, e⟩ := List.any_eq_true.mp z
        exact h p List.mem_cons_self q hq (by simpa using e))]
    have nd' := List.nodup_cons.mp (show (p.1 :: r.map (·.1)).Nodup from nd)
    show mergeK (putK kvs p.1 p.2) r = _
    rw [hp, merge_id r (kvs ++ [p]) (fun q hq z hz => ?_) nd'.2]
    · simp
    · rcases List.mem_append.mp hz with hz | hz
      · exact h q (List.mem_cons_of_mem _ hq) z hz
      · rw [List.mem_singleton.mp hz]
        intro e
        exact nd'.1 (by rw [e]; exact List.mem_map.mpr ⟨q, hq, rfl⟩)
theorem GF.nodup {fs : List Fl} (g : GF fs) : ((fs.map kvF).map (·.1)).Nodup := by
  rw [List.map_map]
  have asc : ∀ (n : Nat) (gs : List Fl), gs = fs.take n → (gs.map fun f => (kvF f).1).Nodup ∧ ∀ l, gs.getLast? = some l → ∀ f ∈ gs, ¬ l.1.cps.toList < f.1.cps.toList := by
    intro n
    induction n with
    | zero =>
      intro gs e
      rw [List.take_zero] at e
      subst e
      exact ⟨List.nodup_nil, fun l z => by cases z⟩
    | succ n ih =>
      intro gs e
      obtain ⟨i1, i2⟩ := ih _ rfl
      cases hn : fs[n]? with
      | none =>
        rw [List.take_succ, hn] at e
        have e' : gs = fs.take n := by simpa using e
        subst e'
        exact ⟨i1, i2⟩
      | some f =>
        rw [List.take_succ, hn] at e
        have e' : gs = fs.take n ++ [f] := e
        subst e'
        have up := g.up n f hn
        have above : ∀ h ∈ fs.take n, h.1.cps.toList < f.1.cps.toList := by
          intro h hh
          unfold follow at up
          cases hl : (fs.take n).getLast? with
          | none =>
            rw [List.getLast?_eq_none_iff] at hl
            rw [hl] at hh
            cases hh
          | some l =>
            rw [hl] at up
            have lt : l.1.cps.toList < f.1.cps.toList := by
              have h0 : (decide (l.1.cps.toList < f.1.cps.toList) && !((fs.take n).any fun g => within f.1 g.1)) = true := up
              simp only [Bool.and_eq_true, decide_eq_true_eq] at h0
              exact h0.1
            exact List.lt_of_le_of_lt (List.not_lt.mp (i2 l hl h hh)) lt
        refine ⟨?_, fun l hl h hh => ?_⟩
        · rw [List.map_append]
          refine List.nodup_append.mpr ⟨i1, List.nodup_cons.mpr ⟨by simp, List.nodup_nil⟩, fun x hx y hy => ?_⟩
          obtain ⟨h, hh, rfl⟩ := List.mem_map.mp hx
          rw [List.mem_singleton.mp hy]
          intro z
          have z' : h.1 = f.1 := by injection z
          have := above h hh
          rw [z'] at this
          exact List.lt_irrefl _ this
        · rw [List.getLast?_append] at hl
          have el : f = l := by simpa using hl
          subst el
          rcases List.mem_append.mp hh with hh | hh
          · exact fun z => List.lt_irrefl _ (List.lt_trans (above h hh) z)
          · rw [List.mem_singleton.mp hh]
            exact List.lt_irrefl _
  have := (asc fs.length fs (List.take_length).symm).1
  exact this
section
variable {P : Program} {w : World} {K : PySem.W.Frag} {mg : Str → Option Value} {base : Heap}
/-- a check of one small value: nothing, or the error -/
def spCk (C : Addr) (ok : V → Bool) : Sp := fun vs H Q E => ∃ v, vs = [v] ∧ Sm H v ∧ (ok v = true → RetV .non H Q) ∧ (ok v = false → ∀ H', Ex H H' → E (.ref C) none H')
theorem scCkPath : FnScope ["value"] ["value"] (defScope sCkPath) := ⟨rfl, rfl, rfl, by decide +kernel, rfl, by decide +kernel, by decide +kernel⟩
theorem ok_ckPath {f C : Addr} {fd : FuncData} (F : Fun K "check_path" "check_path" sCkPath f fd) (c : Xc K mg "BadPath" C) (cP : Cal P w K mg base CX0 2 "is_path" ["value"] (spPath (K := K))) :
    FnOk P w K mg base (L2.CX P w) 3 f fd ["value"] (spCk C isPathV) := by
  refine F.okX scCkPath (fun vs H Q E h => ?_) (fun cdv A outer s H vs Q E hr h => ?_)
  · obtain ⟨x, rfl, _⟩ := h
    rfl
  · obtain ⟨v, rfl, sm, k1, k2⟩ := h
    refine ⟨_, pss_one (ps_if (pt_not (pt_val (pe_call cP.F hr (by rfl) cP.g cP.kp cP.b .nil pass0 (pa_cons (pv 0) pa_nil)))) (pss_one (ps_raise rfl (takes_of rfl rfl rfl rfl) (pmk_own0 c (by rfl)))) pss_nil), ?_⟩
    refine s_if (et_not (et_B (ev_call (ea_cons (ev_var rfl) ea_nil) (spv_path sm)))) (fun hb H1 e1 => ?_) (fun hb H1 e1 => ?_)
    · exact k2 (by simpa using hb) H1 e1
    · exact k1 (by simpa using hb) H1 e1
theorem scCkFolder : FnScope ["value"] ["value"] (defScope sCkFolder) := ⟨rfl, rfl, rfl, by decide +kernel, rfl, by decide +kernel, by decide +kernel⟩
theorem ok_ckFolder {f C : Addr} {fd : FuncData} (F : Fun K "check_folder" "check_folder" sCkFolder f fd) (c : Xc K mg "BadFolder" C) (cP : Cal P w K mg base CX0 3 "is_folder" ["value"] spFolder) :
    FnOk P w K mg base (L2.CX P w) 4 f fd ["value"] (spCk C isFolderV) := by
  refine F.okX scCkFolder (fun vs H Q E h => ?_) (fun cdv A outer s H vs Q E hr h => ?_)
  · obtain ⟨x, rfl, _⟩ := h
    rfl
  · obtain ⟨v, rfl, sm, k1, k2⟩ := h
    refine ⟨_, pss_one (ps_if (pt_not (pt_val (pe_call cP.F hr (by rfl) cP.g cP.kp cP.b .nil pass0 (pa_cons (pv 0) pa_nil)))) (pss_one (ps_raise rfl (takes_of rfl rfl rfl rfl) (pmk_own0 c (by rfl)))) pss_nil), ?_⟩
    refine s_if (et_not (et_B (ev_call (ea_cons (ev_var rfl) ea_nil) fun H1 e Q q E => ⟨v, rfl, sm.mono e, q⟩))) (fun hb H1 e1 => ?_) (fun hb H1 e1 => ?_)
    · exact k2 (by simpa using hb) H1 e1
    · exact k1 (by simpa using hb) H1 e1
theorem scCkWords : FnScope ["value"] ["value"] (defScope sCkWords) := ⟨rfl, rfl, rfl, by decide +kernel, rfl, by decide +kernel, by decide +kernel⟩
theorem ok_ckWords {f C : Addr} {fd : FuncData} (F : Fun K "check_words" "check_words" sCkWords f fd) (c : Xc K mg "BadWords" C) (cP : Cal P w K mg base CX0 2 "is_text" ["value"] (spText (K := K))) :
    FnOk P w K mg base (L2.CX P w) 3 f fd ["value"] (spCk C isTextV) := by
  refine F.okX scCkWords (fun vs H Q E h => ?_) (fun cdv A outer s H vs Q E hr h => ?_)
  · obtain ⟨x, rfl, _⟩ := h
    rfl
  · obtain ⟨v, rfl, sm, k1, k2⟩ := h
    refine ⟨_, pss_one (ps_if (pt_not (pt_val (pe_call cP.F hr (by rfl) cP.g cP.kp cP.b .nil pass0 (pa_cons (pv 0) pa_nil)))) (pss_one (ps_raise rfl (takes_of rfl rfl rfl rfl) (pmk_own0 c (by rfl)))) pss_nil), ?_⟩
    refine s_if (et_not (et_B (ev_call (ea_cons (ev_var rfl) ea_nil) (spv_text sm)))) (fun hb H1 e1 => ?_) (fun hb H1 e1 => ?_)
    · exact k2 (by simpa using hb) H1 e1
    · exact k1 (by simpa using hb) H1 e1
theorem scTextAt : FnScope ["tree", "path"] ["tree", "path"] (defScope sTextAt) := ⟨rfl, rfl, rfl, by decide +kernel, rfl, by decide +kernel, by decide +kernel⟩
theorem scNamesIn : FnScope ["tree", "folder"] ["tree", "folder"] (defScope sNamesIn) := ⟨rfl, rfl, rfl, by decide +kernel, rfl, by decide +kernel, by decide +kernel⟩
/-- refused: the tree, or (behind a good tree) the second one -/
def spR2 (Ct C2 : Addr) (ok : V → Bool) : Sp := fun vs H Q E => ∃ t o x, vs = [t, x] ∧ Tr K H t o ∧
  ((∃ u, o = some u ∧ RaiseI Ct u H E) ∨ (o = none ∧ Sm H x ∧ ok x = false ∧ ∀ H', Ex H H' → E (.ref C2) none H'))
theorem ok_textAt {f Ct Cp : Addr} {fd : FuncData} (F : Fun K "text_at" "text_at" sTextAt f fd) (cT : Cal P w K mg base (L2.CX P w) 4 "check_tree" ["value"] (spCkTree (K := K) Ct)) (cP : Cal P w K mg base (L2.CX P w) 3 "check_path" ["value"] (spCk Cp isPathV)) :
    FnOk P w K mg base (L2.CX P w) 5 f fd ["tree", "path"] (spR2 (K := K) Ct Cp isPathV) := by
  refine F.okX scTextAt (fun vs H Q E h => ?_) (fun cdv A outer s H vs Q E hr h => ?_)
  · obtain ⟨t, o, x, rfl, _⟩ := h
    rfl
  · obtain ⟨t, o, x, rfl, tr, h⟩ := h
    refine ⟨_, pss_cons (ps_expr (pe_call cT.F hr (by rfl) cT.g cT.kp cT.b .nil (lets (takes_of rfl rfl rfl rfl)) (pa_cons (pv 0) pa_nil)))
      (pss_cons (ps_expr (pe_call cP.F (hr.mono (by decide)) (by rfl) cP.g cP.kp cP.b .nil (lets (takes_of rfl rfl rfl rfl)) (pa_cons (pv 1) pa_nil))) pss_never), ?_⟩
    refine ⟨_, rfl, t, o, rfl, tr, fun ho H1 e1 => ?_, fun u hu => ?_⟩
    · rcases h with ⟨u, hu, _⟩ | ⟨_, sm, bad, k⟩
      · rw [hu] at ho; cases ho
      · exact ⟨_, rfl, x, rfl, sm.mono e1, fun z => (by rw [bad] at z; cases z), fun _ H' e' => k H' (e1.trans e')⟩
    · rcases h with ⟨u', hu', k⟩ | ⟨hn, _⟩
      · rw [hu'] at hu
        cases hu
        exact k
      · rw [hn] at hu; cases hu
theorem ok_namesIn {f Ct Cp : Addr} {fd : FuncData} (F : Fun K "names_in" "names_in" sNamesIn f fd) (cT : Cal P w K mg base (L2.CX P w) 4 "check_tree" ["value"] (spCkTree (K := K) Ct)) (cP : Cal P w K mg base (L2.CX P w) 4 "check_folder" ["value"] (spCk Cp isFolderV)) :
    FnOk P w K mg base (L2.CX P w) 5 f fd ["tree", "folder"] (spR2 (K := K) Ct Cp isFolderV) := by
  refine F.okX scNamesIn (fun vs H Q E h => ?_) (fun cdv A outer s H vs Q E hr h => ?_)
  · obtain ⟨t, o, x, rfl, _⟩ := h
    rfl
  · obtain ⟨t, o, x, rfl, tr, h⟩ := h
    refine ⟨_, pss_cons (ps_expr (pe_call cT.F hr (by rfl) cT.g cT.kp cT.b .nil (lets (takes_of rfl rfl rfl rfl)) (pa_cons (pv 0) pa_nil)))
      (pss_cons (ps_expr (pe_call cP.F hr (by rfl) cP.g cP.kp cP.b .nil (lets (takes_of rfl rfl rfl rfl)) (pa_cons (pv 1) pa_nil))) pss_never), ?_⟩
    refine ⟨_, rfl, t, o, rfl, tr, fun ho H1 e1 => ?_, fun u hu => ?_⟩
    · rcases h with ⟨u, hu, _⟩ | ⟨_, sm, bad, k⟩
      · rw [hu] at ho; cases ho
      · exact ⟨_, rfl, x, rfl, sm.mono e1, fun z => (by rw [bad] at z; cases z), fun _ H' e' => k H' (e1.trans e')⟩
    · rcases h with ⟨u', hu', k⟩ | ⟨hn, _⟩
      · rw [hu'] at hu
        cases hu
        exact k
      · rw [hn] at hu; cases hu
end
end Bt
namespace Bt
open PySem PySem.Spec PyProof.Rows L2 Bk Bm Evl Be Cr Kr Bp Bl TL
theorem GF.merge {fs : List Fl} (g : GF fs) : mergeK [] (fs.map kvF) = fs.map kvF := by
  rw [merge_id _ [] (fun _ _ _ h => by cases h) g.nodup]
  rfl
section
variable {σ : L2.St} {H : Hp} {K : PySem.W.Frag} {te : TE}
/-- the addresses of a tree's files -/
theorem refs_files {H : Hp} {xs : List V} {fs : List Fl} (h : Paired (FileAt H) xs fs) : ∃ ps : List Addr, xs = ps.map V.ref ∧ Paired (fun p kv => SqT K H p [kV kv.1, kv.2]) ps (fs.map kvF) := by
  induction h with
  | nil => exact ⟨[], rfl, .nil⟩
  | cons r _ ih =>
    obtain ⟨b, rfl, hb⟩ := r
    obtain ⟨ps, e, hp⟩ := ih
    exact ⟨b :: ps, by rw [List.map_cons, e], .cons (st_of hb) hp⟩
theorem dict_go {H : Hp} {a : Addr} {fs : List Fl} {Q : VK} (gt : GT H a fs) (k : ∀ d H', H d = none → Ex H H' → H' d = some (.dK (fs.map kvF)) → Q (.ref d) H') : rDictT K [.ref a] H Q := by
  obtain ⟨⟨o, xs, h1, h2, h3⟩, g⟩ := gt
  obtain ⟨ps, rfl, hp⟩ := refs_files (K := K) h3
  refine ⟨a, o, ps, fs.map kvF, rfl, h1, h2, hp, fun d hd => ?_⟩
  rw [g.merge]
  exact k d _ hd (Ex.new hd) upd_same
/-- dict(e) of a tree -/
theorem dict_ev {te : TE} {a : Addr} {fs : List Fl} (h : Ev te σ H (.ref a)) (gt : GT H a fs) : ∀ H1, Ex H H1 → ∀ Q : VK, (∀ d H', H1 d = none → Ex H1 H' → H' d = some (.dK (fs.map kvF)) → Q (.ref d) H') → tCB (rDictT K) (tCons te tNil) σ H1 Q := fun H1 e Q q =>
  h H1 e _ fun H2 e2 => dict_go (gt.mono (e.trans e2)) fun d H' hd e3 h3 => q d H' (fresh_back e2 hd) (e2.trans e3) h3
theorem has_files (fs : List Fl) (p : Str) : (valV (fs.map kvF) (Sum.inr p)).isSome = fs.any fun f => decide (f.1 = p) := by
  rw [← valV_any, List.any_map]
  congr 1
  funext f
  show decide ((Sum.inr f.1 : Key) = Sum.inr p) = decide (f.1 = p)
  exact decide_eq_decide.mpr ⟨fun h => by injection h, fun h => by rw [h]⟩
/-- p not in dict(e) -/
theorem ev_notin {td ty : TE} {a : Addr} {fs : List Fl} {p : Str} (hy : Ev ty σ H (.str p)) (h : ∀ H1, Ex H H1 → Ev td σ H1 (.ref a)) (gt : GT H a fs) : Ev (tDNotIn ty (tCB (rDictT K) (tCons td tNil))) σ H (.bl (!(fs.any fun f => decide (f.1 = p)))) := fun H1 e Q q =>
  hy H1 e _ fun H2 e2 => dict_ev (h H2 (e.trans e2)) (gt.mono (e.trans e2)) H2 (Ex.refl _) _ fun d H3 hd e3 h3 => ⟨d, _, rfl, DGet.k (k := Sum.inr p) h3, by rw [has_files]; exact q H3 (e2.trans e3)⟩
theorem dictZ_go {H : Hp} {a : Addr} {fs : List Fl} {Q : VK} (gt : GT H a fs) (k : ∀ d od H', H d = none → Ex H H' → H' d = some (.frz od (.dK (fs.map kvF))) → Q (.ref d) H') : rDictZ K [.ref a] H Q := by
  obtain ⟨⟨o, xs, h1, h2, h3⟩, g⟩ := gt
  obtain ⟨ps, rfl, hp⟩ := refs_files (K := K) h3
  refine ⟨a, o, ps, fs.map kvF, rfl, h1, h2, hp, fun d od hd => ?_⟩
  rw [g.merge]
  exact k d od _ hd (Ex.new hd) upd_same
theorem dictZ_ev {te : TE} {a : Addr} {fs : List Fl} {Q : VK} (h : Ev te σ H (.ref a)) (gt : GT H a fs) (k : ∀ d od H', H d = none → Ex H H' → H' d = some (.frz od (.dK (fs.map kvF))) → Q (.ref d) H') : tCB (rDictZ K) (tCons te tNil) σ H Q :=
  h H (Ex.refl _) _ fun H2 e2 => dictZ_go (gt.mono e2) fun d od H' hd e3 h3 => k d od H' (fresh_back e2 hd) (e2.trans e3) h3
/-- over the keys of a dict that stands, no test -/
theorem el_keysN {j : Nat} {d : Addr} {od : Obj} {kvs : List (Key × V)} {tl : TE} (val : Key → V) (h : Ev tl σ H (.ref d)) (hd : H d = some (.frz od (.dK kvs))) (hz : kvs.length ≤ 40000)
    (he : ∀ (k : Key) (v : V) H1, Ex H H1 → (k, v) ∈ kvs → Ev te (σ.set j (some (kV k))) H1 (val k)) :
    EvL (tLc (iKeys tl) (gName j) tYes te [j]) σ H (kvs.map fun kv => val kv.1) := fun H0 e Q q => h H0 e _ fun H1 e1 => ⟨d, od, rfl, .inl ⟨kvs, (e.trans e1) _ _ hd, fun D hD =>
  lc_it (walk_keys (kvs := kvs)) (fun i G => Ex H1 G ∧ G D = some (.lst ((kvs.take i).map fun kv => val kv.1))) ⟨Ex.new hD, by rw [upd_same]; rfl⟩ (fun i G _ p => ((e.trans e1).trans p.1) _ _ hd) (by
    rintro i v G G' hi ⟨s1, hd2⟩ ⟨rfl, k, v', hl, rfl⟩
    have ee : (wipe σ [j]).set j (some (kV k)) = σ.set j (some (kV k)) := by
      show (σ.set j none).set j (some (kV k)) = _
      rw [List.set_set]
    show wipe ((wipe σ [j]).set j (some (kV k))) [j] = wipe σ [j] ∧ _
    rw [ee]
    refine ⟨by show (σ.set j _).set j none = σ.set j none; rw [List.set_set], ?_⟩
    unfold tYes
    dsimp only
    rw [if_pos rfl]
    refine he k v' G' ((e.trans e1).trans s1) (List.mem_of_getElem? hl) G' (Ex.refl _) _ fun G2 e2 => ⟨_, e2 D _ hd2, sz_lt ?_, (s1.trans e2).mut hD, ?_⟩
    · rw [List.length_map]
      have h3 := List.length_take_le' i kvs
      omega
    · rw [upd_same, List.take_succ, hl]
      simp) (by
    rintro G ⟨s1, hd2⟩
    refine q D G (fresh_back e1 hD) (e1.trans s1) ?_
    rw [hd2, List.take_of_length_le (Nat.le_refl _)])⟩⟩
end
def hasP (fs : List Fl) (p : Str) : Bool := fs.any fun f => decide (f.1 = p)
def clashP (fs : List Fl) (p : Str) : Bool := fs.any fun f => way p f.1
theorem fb_up : ∀ (fs acc : List Fl), (∀ (i : Nat) (f : Fl), fs[i]? = some f → follow f.1 (acc ++ fs.take i) = true) → fb acc (fs.map some) = none
  | [], acc, _ => rfl
  | f :: r, acc, h => by
    have h0 : follow f.1 acc = true := by simpa using h 0 f rfl
    show (if follow f.1 acc = true then fb (acc ++ [f]) (r.map some) else some acc.length) = none
    rw [if_pos h0]
    refine fb_up r (acc ++ [f]) fun i g hg => ?_
    have := h (i + 1) g (by simpa using hg)
    rw [List.append_assoc]
    exact this
theorem GT.tr {K : PySem.W.Frag} {H : Hp} {a : Addr} {fs : List Fl} (h : GT H a fs) : Tr K H (.ref a) none := by
  obtain ⟨⟨o, xs, h1, h2, h3⟩, g⟩ := h
  have hl := paired_len h3
  have t := Tr.tup (K := K) h1 (.inr ⟨o, rfl⟩) (by have := g.few; omega) (itm_files h3 fun f hf => ⟨(g.ok f hf).1, by rw [(g.ok f hf).2.1, (g.ok f hf).2.2]; rfl⟩)
  rw [fb_up fs [] fun i f hf => by simpa using g.up i f hf] at t
  exact t
abbrev nPut : List Str := ["tree", "path", "text", "files", "other"]
section
variable {P : Program} {w : World} {K : PySem.W.Frag} {mg : Str → Option Value} {base : Heap}
theorem scPut : FnScope nPut ["tree", "path", "text"] (defScope sPut) := ⟨rfl, rfl, rfl, by decide +kernel, rfl, by decide +kernel, by decide +kernel⟩
def spPutX (K : PySem.W.Frag) (Cw Cc Cf : Addr) : Sp := fun vs H Q E => ∃ q fs p y, vs = [.ref q, .str p, y] ∧ GT H q fs ∧ pathB p = true ∧ p.length ≤ 1000 ∧
  ((Sm H y ∧ isTextV y = false ∧ Rz0 Cw H E) ∨ (∃ t, y = .str t ∧ textB t = true ∧ t.length ≤ 1000 ∧ hasP fs p = false ∧ ((clashP fs p = true ∧ Rz0 Cc H E) ∨ (clashP fs p = false ∧ fs.length = 20 ∧ Rz0 Cf H E))))
theorem ok_put {f Ct Cp Cw Cc Cf : Addr} {fd : FuncData} (F : Fun K "put" "put" sPut f fd) (T : Gv mg) (tdc : mg "dict" = none) (c1 : Xc K mg "Clash" Cc) (c2 : Xc K mg "Full" Cf) (cT : Cal P w K mg base (L2.CX P w) 4 "check_tree" ["value"] (spCkTree (K := K) Ct))
    (cP : Cal P w K mg base (L2.CX P w) 3 "check_path" ["value"] (spCk Cp isPathV)) (cW : Cal P w K mg base (L2.CX P w) 3 "check_words" ["value"] (spCk Cw isTextV)) (cY : Cal P w K mg base CX0 2 "in_the_way" ["one", "other"] spWay) :
    FnOk P w K mg base (L2.CX P w) 5 f fd ["tree", "path", "text"] (spPutX K Cw Cc Cf) := by
  refine F.okX scPut (fun vs H Q E h => ?_) (fun cdv A outer s H vs Q E hr h => ?_)
  · obtain ⟨a, fs, p, t, rfl, _⟩ := h
    rfl
  · obtain ⟨a, fs, p, y, rfl, gt, hp, hl, hy⟩ := h
    have hr3 : Room 3 _ := hr.mono (by decide)
    have hr2 : Room 2 _ := hr.mono (by decide)
    obtain ⟨t1, m1⟩ := T.mf
    have hu : (A.deeper (envOfC "put" (defScope sPut) s.heap.objs.size f cdv)).units + 1 < cLine := by have := hr.un; omega
    refine ⟨_, pss_cons (ps_expr (pe_call cT.F hr (by rfl) cT.g cT.kp cT.b .nil (lets (takes_of rfl rfl rfl rfl)) (pa_cons (pv 0) pa_nil)))
      (pss_cons (ps_expr (pe_call cP.F hr3 (by rfl) cP.g cP.kp cP.b .nil (lets (takes_of rfl rfl rfl rfl)) (pa_cons (pv 1) pa_nil)))
      (pss_cons (ps_expr (pe_call cW.F (hr.mono (by decide)) (by rfl) cW.g cW.kp cW.b .nil (lets (takes_of rfl rfl rfl rfl)) (pa_cons (pv 2) pa_nil)))
      (pss_cons (ps_set (i := 3) scPut.nd rfl (by first | exact Or.inl rfl | exact Or.inr rfl) (pe_callTy (call_dictZ rfl) (by rfl) tdc (by decide +kernel) (pa_cons (pv 0) pa_nil)))
      (pss_cons (ps_if (pt_cmp (pc_dnotin hu (pv 1) (pv 3)))
        (pss_cons (ps_if (pt_val (pe_callB (cr_any rfl) (by rfl) T.any boot_any (pa_cons (pe_lc (own := [("other", 4)]) (g := gName 4) (tt := tYes) rfl scPut.nd (pi_keys (pv 3)) (blkOk_by (N := nPut) (sc := defScope sPut) (by decide +kernel))
            (fun _ _ _ _ _ => pg_name (i := 4) scPut.nd rfl (Or.inl rfl)) (fun _ _ _ _ _ => pts_nil)
            (fun _ _ _ _ _ => pe_call cY.F hr2 rfl cY.g cY.kp cY.b .nil pass0 (pa_cons (pv 1) (pa_cons (pv 4) pa_nil)))) pa_nil))) (pss_one (ps_raise rfl (takes_of rfl rfl rfl rfl) (pmk_own0 c1 (by rfl)))) pss_nil)
        (pss_one (ps_if (pt_cmpR op_eq (pe_callB call_lenD (by rfl) T.len PySem.boot_len (pa_cons (pe_thaw (pv 3)) pa_nil)) (pe_glob (v := .int 20) (by rfl) m1 ⟨_, rfl⟩) (nomark _)) (pss_one (ps_raise rfl (takes_of rfl rfl rfl rfl) (pmk_own0 c2 (by rfl)))) pss_nil))) pss_nil) pss_never)))), ?_⟩
    refine ⟨_, rfl, _, none, rfl, gt.tr, fun _ H1 e1 => ⟨_, rfl, _, rfl, .str p hl, fun _ H2 e2 => ?_, fun z => absurd (show isPathV (.str p) = true from hp) (by rw [z]; decide)⟩, fun u hu => by cases hu⟩
    rcases hy with ⟨sm, bad, k⟩ | ⟨t, rfl, ht, htl, hno, hh⟩
    · exact ⟨_, rfl, _, rfl, sm.mono (e1.trans e2), fun z => (by rw [bad] at z; cases z), fun _ G e3 => k G ((e1.trans e2).trans e3)⟩
    refine ⟨_, rfl, _, rfl, .str t htl, fun _ H3 e3 => ?_, fun z => absurd (show isTextV (.str t) = true from ht) (by rw [z]; decide)⟩
    have e13 := (e1.trans e2).trans e3
    refine q_raw (dictZ_ev (ev_var rfl) (gt.mono e13) fun d od H4 hd e4 h4 => ?_)
    have e14 := e13.trans e4
    have hd0 : H d = none := fresh_back e13 hd
    have g := gt.2
    have few := g.few
    have kl : (fs.map kvF).length ≤ 20 := by rw [List.length_map]; exact few
    show tSeq (tIfS _ _ _) _ _ ([some (.ref a), some (.str p), some (.str t), some (.ref d), none] : L2.St) H4
    refine q_when (b := true) (et_test fun H5 e5 Q' q' => ⟨_, rfl, _, rfl, d, _, rfl, .inl ⟨_, Sum.inr p, .inr ⟨_, e5 _ _ h4⟩, rfl, rfl⟩, ?_⟩) (fun hb H5 e5 => ?_) (fun z => by cases z)
    · rw [has_files, show (fs.any fun f => decide (f.1 = p)) = false from hno]
      exact q' H5 (Ex.refl _)
    · have big := el_keysN (te := tCall spWay [] E0 (tCons (tVar 1) (tCons (tVar 4) tNil))) (σ := [some (.ref a), some (.str p), some (.str t), some (.ref d), none]) (H := H5) (j := 4) (tl := tVar 3)
        (fun k => match k with | Sum.inr x => .bl (way p x) | _ => .non) (ev_var (i := 3) rfl) (e5 _ _ h4) (by omega) (fun k v H6 e6 hm => by
          obtain ⟨f, hf, ef⟩ := List.mem_map.mp hm
          have ek : k = Sum.inr f.1 := (congrArg Prod.fst ef).symm
          subst ek
          have okf := (g.ok f hf).1.1
          exact ev_call (ea_cons (ev_var rfl) (ea_cons (ev_var rfl) ea_nil)) fun H7 e7 Q' q' E' => ⟨p, f.1, rfl, by omega, by omega, q'⟩)
      refine q_when (b := clashP fs p) (et_B (ev_is (ev_any (K := K) (bs := fs.map fun f => way p f.1) (ev_isL big ?_)) ?_)) (fun hc H6 e6 => ?_) (fun hc H6 e6 => ?_)
      · rw [List.map_map, List.map_map]
        rfl
      · simp [clashP, List.any_map]
      · rcases hh with ⟨_, k2⟩ | ⟨z, _⟩
        · exact k2 H6 ((e14.trans e5).trans e6)
        · rw [z] at hc; cases hc
      · rcases hh with ⟨z, _⟩ | ⟨_, h20, k3⟩
        · rw [z] at hc; cases hc
        have e16 := (e14.trans e5).trans e6
        refine ⟨_, rfl, d, _, rfl, .inl ⟨od, e6 _ _ (e5 _ _ h4), hd0, ?_⟩⟩
        refine ⟨d, _, rfl, upd_same, rfl, _, rfl, ?_⟩
        rw [List.length_map, show decide (V.int ((fs.length : Nat) : Int) = V.int 20) = true from decide_eq_true (by rw [h20]; rfl)]
        exact k3 _ (e16.mut hd0)
theorem scTakenP : FnScope ["tree", "path", "file"] ["tree", "path"] (defScope sTakenP) := ⟨rfl, rfl, rfl, by decide +kernel, rfl, by decide +kernel, by decide +kernel⟩
def spTakenX (Ca : Addr) : Sp := fun vs H Q E => ∃ a fs p, vs = [.ref a, .str p] ∧ GT H a fs ∧ pathB p = true ∧ p.length ≤ 1000 ∧ hasP fs p = false ∧ Rz0 Ca H E
theorem ok_takenX {f Ct Cp Ca : Addr} {fd : FuncData} (F : Fun K "taken" "taken" sTakenP f fd) (T : Gv mg) (tdc : mg "dict" = none) (c : Xc K mg "Absent" Ca) (cT : Cal P w K mg base (L2.CX P w) 4 "check_tree" ["value"] (spCkTree (K := K) Ct)) (cP : Cal P w K mg base (L2.CX P w) 3 "check_path" ["value"] (spCk Cp isPathV)) :
    FnOk P w K mg base (L2.CX P w) 5 f fd ["tree", "path"] (spTakenX Ca) := by
  refine F.okX scTakenP (fun vs H Q E h => ?_) (fun cdv A outer s H vs Q E hr h => ?_)
  · obtain ⟨a, fs, p, rfl, _⟩ := h
    rfl
  · obtain ⟨a, fs, p, rfl, gt, hp, hl, hno, k⟩ := h
    have hr3 : Room 3 _ := hr.mono (by decide)
    have hu : (A.deeper (envOfC "taken" (defScope sTakenP) s.heap.objs.size f cdv)).units + 1 < cLine := by have := hr.un; omega
    refine ⟨_, pss_cons (ps_expr (pe_call cT.F hr (by rfl) cT.g cT.kp cT.b .nil (lets (takes_of rfl rfl rfl rfl)) (pa_cons (pv 0) pa_nil)))
      (pss_cons (ps_expr (pe_call cP.F hr3 (by rfl) cP.g cP.kp cP.b .nil (lets (takes_of rfl rfl rfl rfl)) (pa_cons (pv 1) pa_nil)))
      (pss_cons (ps_if (pt_cmp (pc_dnotin hu (pv 1) (pe_callTy (call_dictT rfl) (by rfl) tdc (by decide +kernel) (pa_cons (pv 0) pa_nil)))) (pss_one (ps_raise rfl (takes_of rfl rfl rfl rfl) (pmk_own0 c (by rfl)))) pss_nil) pss_never)), ?_⟩
    refine ⟨_, rfl, _, none, rfl, gt.tr, fun _ H1 e1 => ⟨_, rfl, _, rfl, .str p hl, fun _ H2 e2 => ?_, fun z => absurd (show isPathV (.str p) = true from hp) (by rw [z]; decide)⟩, fun u hu => by cases hu⟩
    have e12 := e1.trans e2
    dsimp only
    show tSeq (tIfS _ _ _) _ _ ([some (.ref a), some (.str p), none] : L2.St) H2
    refine q_when (b := true) ?_ ?_ ?_
    · exact et_B (ev_is (ev_notin (K := K) (ev_var rfl) (fun H3 e3 => ev_var rfl) (gt.mono e12)) (by rw [show (fs.any fun f => decide (f.1 = p)) = false from hno]; rfl))
    · exact fun _ H3 e3 => k H3 (e12.trans e3)
    · exact fun z => by cases z
end
end Bt
/-! what records and looks ask at their beginning: no look yet -/
namespace Kr
open PySem PySem.Spec PyProof.Rows L2 Bk Bm Evl Be
end Kr
namespace Bt
open PySem PySem.Spec PyProof.Rows L2 Bk Bm Evl Be Cr Kr Bp Bl TL
abbrev sNext : Stmt := top 71
abbrev sStopped : Stmt := top 72
abbrev sPlaces : Stmt := top 73
abbrev sIsRec : Stmt := top 119
abbrev sIsLook : Stmt := top 120
abbrev sCkRule : Stmt := top 122
abbrev sCkRec : Stmt := top 123
abbrev zS : Str := Str.ofString "z"
/-- a rule, as far as its first look is told -/
def NR (H : Hp) (a : Addr) : Prop := ∃ m k ts, H a = some (.tup (.str m :: .str k :: ts)) ∧ ((k = Str.ofString "join" ∧ ∃ (b : Addr) (ys : List Str), ts = [.ref b] ∧ H b = some (.tup (ys.map V.str)) ∧ ys.length ≤ 100 ∧ ∀ y ∈ ys, y ≠ zS) ∨ (k ≠ Str.ofString "join" ∧ ∃ y r, ts = .str y :: r ∧ y ≠ zS))
theorem NR.mono {H G : Hp} {a : Addr} (e : Ex H G) (h : NR H a) : NR G a := by
  obtain ⟨m, k, ts, h1, h2⟩ := h
  refine ⟨m, k, ts, e _ _ h1, ?_⟩
  rcases h2 with ⟨h3, b, ys, h4, h5, h6⟩ | h2
  · exact .inl ⟨h3, b, ys, h4, e _ _ h5, h6⟩
  · exact .inr h2
/-- a place -/
def Pc (H : Hp) (x : V) : Prop := ∃ p w wh, x = .ref p ∧ H p = some (.tup [.str w, .str wh]) ∧ wh ≠ zS
theorem Pc.mono {H G : Hp} {x : V} (e : Ex H G) (h : Pc H x) : Pc G x := by
  obtain ⟨p, w, wh, h1, h2, h3⟩ := h
  exact ⟨p, w, wh, h1, e _ _ h2, h3⟩
/-- a rule that is no join -/
def NJ (H : Hp) (a : Addr) : Prop := ∃ m k ts, H a = some (.tup (.str m :: .str k :: ts)) ∧ k ≠ Str.ofString "join"
theorem NJ.mono {H G : Hp} {a : Addr} (e : Ex H G) (h : NJ H a) : NJ G a := by
  obtain ⟨m, k, ts, h1, h2⟩ := h
  exact ⟨m, k, ts, e _ _ h1, h2⟩
section
variable {P : Program} {w : World} {K : PySem.W.Frag} {mg : Str → Option Value} {base : Heap}
theorem scStopped : FnScope ["looks"] ["looks"] (defScope sStopped) := ⟨rfl, rfl, rfl, by decide +kernel, rfl, by decide +kernel, by decide +kernel⟩
def spStopped : Sp := fun vs H Q _ => ∃ l, vs = [.ref l] ∧ H l = some (.tup []) ∧ RetV (.bl false) H Q
theorem ok_stopped {f : Addr} {fd : FuncData} (F : Fun K "is_stopped" "is_stopped" sStopped f fd) (T : Gv mg) : FnOk P w K mg base CX0 1 f fd ["looks"] spStopped := by
  refine F.ok scStopped (fun vs H Q E h => ?_) (fun cdv A outer s H vs Q E hr h => ?_)
  · obtain ⟨l, rfl, _⟩ := h
    rfl
  · obtain ⟨l, rfl, hl, k⟩ := h
    refine ⟨_, pss_one (ps_ret (pe_and (pe_cmpR op_gt (pe_callB call_len_seq (by rfl) T.len PySem.boot_len (pa_cons (pv 0) pa_nil)) pe_int (nomark _)) (pe_one pe_no))), ?_⟩
    refine s_ret (v := .bl false) ?_ k
    exact ev_is (ev_and (a := false) (b := false) (ev_is (ev_op (ev_lenT (ev_var rfl) (st_of hl)) ev_c rv_I0) rfl) (fun h => by cases h)) rfl
abbrev nPl : List Str := ["rule", "looks", "kind", "paths", "path"]
theorem scPlaces : FnScope nPl ["rule", "looks"] (defScope sPlaces) := ⟨rfl, rfl, rfl, by decide +kernel, rfl, by decide +kernel, by decide +kernel⟩
def spPlaces : Sp := fun vs H Q _ => ∃ a l, vs = [.ref a, .ref l] ∧ NR H a ∧ H l = some (.tup []) ∧ ∀ q xs H', Ex H H' → H' q = some (.lst xs) → xs.length ≤ 100 → (∀ x ∈ xs, Pc H' x) → (NJ H a → xs ≠ []) → Q (.ref q) H'
theorem ok_places {f : Addr} {fd : FuncData} (F : Fun K "places_known" "places_known" sPlaces f fd) (T : Gv mg) : FnOk P w K mg base CX0 1 f fd ["rule", "looks"] (spPlaces) := by
  refine F.ok scPlaces (fun vs H Q E h => ?_) (fun cdv A outer s H vs Q E hr h => ?_)
  · obtain ⟨a, l, rfl, _⟩ := h
    rfl
  · obtain ⟨a, l, rfl, nr, hl, k⟩ := h
    refine ⟨_, pss_cons (ps_set (i := 2) scPlaces.nd rfl (Or.inl rfl) (pe_ix (r := rIxT K) ix_tup (pv 0) pe_int (fun _ _ => rfl)))
      (pss_cons (ps_if (pt_cmpR op_eq (pv 2) pe_str (nomark _)) (pss_one (ps_ret (pe_lst (pa_cons (pe_tup (pa_cons pe_str (pa_cons (pe_ix (r := rIxT K) ix_tup (pv 0) pe_int (fun _ _ => rfl)) pa_nil))) pa_nil)))) pss_nil)
      (pss_cons (ps_set (i := 3) scPlaces.nd rfl (Or.inl rfl) (pe_ifExp (pt_cmpR op_eq (pv 2) pe_str (nomark _)) (pe_callTy call_list_of (by rfl) T.lst (by decide +kernel) (pa_cons (pe_ix (r := rIxT K) ix_tup (pv 0) pe_int (fun _ _ => rfl)) pa_nil)) (pe_lst (pa_cons (pe_ix (r := rIxT K) ix_tup (pv 0) pe_int (fun _ _ => rfl)) pa_nil))))
      (pss_cons (ps_if (pw_and (pt_truth (pv 1) (by intro _; rfl)) (pw_and1 pt_no)).pt pss_never pss_nil)
      (pss_cons (ps_if (pw_and (pt_truth (pv 1) (by intro _; rfl)) (pw_and1 pt_no)).pt pss_never pss_nil)
      (pss_one (ps_ret (pe_lc (own := [("path", 4)]) (g := gName 4) (tt := tYes) rfl scPlaces.nd (pi_list (pv 3)) (blkOk_by (N := nPl) (sc := defScope sPlaces) (by decide +kernel))
        (fun _ _ _ _ _ => pg_name (i := 4) scPlaces.nd rfl (Or.inl rfl)) (fun _ _ _ _ _ => pts_nil) (fun _ _ _ _ _ => pe_tup (pa_cons pe_str (pa_cons (pv 4) pa_nil)))))))))), ?_⟩
    obtain ⟨m, kd, ts, ha, hk⟩ := nr
    -- the end, over a list of paths
    have fin : ∀ (p : Addr) (ys : List Str) (G : Hp), Ex H G → G p = some (.lst (ys.map V.str)) → ys.length ≤ 100 → (∀ y ∈ ys, y ≠ zS) → (NJ H a → ys ≠ []) →
        tSeq (tIfS (tAnd (fun σ H Q => tVar 1 σ H fun x H' => ∃ k, TruV K x H' k ∧ Q k H') tNoT) tNever tNext) (tSeq (tIfS (tAnd (fun σ H Q => tVar 1 σ H fun x H' => ∃ k, TruV K x H' k ∧ Q k H') tNoT) tNever tNext)
          (tRet (tLc (iList K (tVar 3)) (gName 4) tYes (tTup (tCons (tC (.str (Str.ofString "path"))) (tCons (tVar 4) tNil))) [4]))) { nx := fun _ H' => Q .non H', rt := Q } ([some (.ref a), some (.ref l), some (.str kd), some (.ref p), none] : L2.St) G := by
      intro p ys G eG hp hn hz hnj
      have hlG := eG _ _ hl
      have skip : ∀ (De : Ends) (σ : L2.St), σ[1]? = some (some (.ref l)) → De.nx σ G → tIfS (tAnd (fun σ H Q => tVar 1 σ H fun x H' => ∃ k, TruV K x H' k ∧ Q k H') tNoT) tNever tNext De σ G := by
        intro De σ s1 h
        refine ⟨_, s1, false, .inr (.inl ⟨[], st_of hlG, rfl⟩), ?_⟩
        dsimp only
        rw [if_neg (by decide), if_neg (by decide)]
        exact h
      refine skip _ _ rfl (skip _ _ rfl ?_)
      refine ⟨_, rfl, p, rfl, ⟨ys.map V.str, sq_of hp⟩, fun D hD => walk_w (walk_list (K := K) (a := p) (xs := ys.map V.str)) (fun i F => Ex G F ∧ ∃ zs, F D = some (.lst zs) ∧ zs.length = i ∧ ∀ x ∈ zs, Pc F x)
        ⟨Ex.new hD, [], upd_same, rfl, fun _ z => by cases z⟩ (fun i F _ q => sq_of (q.1 _ _ hp)) (fun i x F F' hi q y => ?_) (fun F q => ?_)⟩
      · obtain ⟨eF, zs, hFD, hzl, hzp⟩ := q
        obtain ⟨rfl, hx⟩ := y
        obtain ⟨y, hy, rfl⟩ : ∃ y, ys[i]? = some y ∧ x = V.str y := by
          rw [List.getElem?_map] at hx
          cases e : ys[i]? with
          | none => rw [e] at hx; cases hx
          | some m => rw [e] at hx; exact ⟨m, rfl, (Option.some.inj hx).symm⟩
        refine ⟨rfl, ?_⟩
        unfold tYes
        dsimp only
        rw [if_pos rfl]
        refine ⟨_, rfl, by show 2 ≤ sizeLine; decide, fun q hq => ?_⟩
        have eq1 := Ex.new (o := .tup [V.str (Str.ofString "path"), V.str y]) hq
        have hD2 := eq1 _ _ hFD
        refine ⟨zs, hD2, sz_lt (by rw [List.length_map] at hi; omega), (eF.trans eq1).mut hD, zs ++ [.ref q], upd_same, by rw [List.length_append, hzl]; rfl, fun x hx => ?_⟩
        have up : ∀ {x : V}, Pc (upd F' q (.tup [V.str (Str.ofString "path"), V.str y])) x → Pc (upd (upd F' q (.tup [V.str (Str.ofString "path"), V.str y])) D (.lst (zs ++ [.ref q]))) x := by
          intro x h
          obtain ⟨p, w, wh, h1, h2, h3⟩ := h
          exact ⟨p, w, wh, h1, by rw [upd_ne (ne_of h2 hD2 (by intro z; cases z))]; exact h2, h3⟩
        rcases List.mem_append.mp hx with hx | hx
        · exact up ((hzp x hx).mono eq1)
        · have := List.mem_singleton.mp hx
          subst this
          exact up ⟨q, _, _, rfl, upd_same, hz y (List.mem_of_getElem? hy)⟩
      · obtain ⟨eF, zs, hFD, hzl, hzp⟩ := q
        exact k D zs F (eG.trans eF) hFD (by rw [hzl, List.length_map]; exact hn) hzp fun nj z => hnj nj (by rw [z] at hzl; simpa using hzl.symm)
    refine q_asg (v := .str kd) (ev_op (ev_var (i := 0) rfl) ev_c (rv_ixT (st_of ha) (atI_nat (j := 1) rfl))) fun H1 e1 => ?_
    show tSeq _ _ _ ([some (.ref a), some (.ref l), some (.str kd), none, none] : L2.St) H1
    have ha1 := e1 _ _ ha
    refine q_when (b := decide (kd = Str.ofString "names")) (et_test (ev_is (ev_op (ev_var rfl) ev_c (rv_eq rfl)) (by simp))) (fun hb H2 e2 => ?_) (fun hb H2 e2 => ?_)
    · have hkn : kd = Str.ofString "names" := by simpa using hb
      rcases hk with ⟨rfl, _⟩ | ⟨_, y, r, rfl, hy⟩
      · exact absurd hkn (by decide +kernel)
      · refine ev_op (z := .str y) (ev_var (i := 0) rfl) ev_c (rv_ixT (st_of (e2 _ _ ha1)) (atI_nat (j := 2) rfl)) H2 (Ex.refl _) _ fun H3 e3 => ⟨by show 2 ≤ sizeLine; decide, fun q hq => ⟨by show 1 ≤ sizeLine; decide, fun d hd => ?_⟩⟩
        exact k d _ _ ((e1.trans e2).trans (e3.trans ((Ex.new hq).trans (Ex.new hd)))) upd_same (by show 1 ≤ 100; decide) (fun x hx => by
          have := List.mem_singleton.mp hx
          subst this
          exact ⟨q, _, _, rfl, Ex.new hd _ _ upd_same, hy⟩) (fun _ => by simp)
    · have e12 := e1.trans e2
      rcases hk with ⟨rfl, b, ys, rfl, hb2, hn, hz⟩ | ⟨hkj, y, r, rfl, hy⟩
      · refine q_raw ?_
        refine et_test (b := true) (ev_is (ev_op (ev_var rfl) ev_c (rv_eq rfl)) (by simp)) H2 (Ex.refl _) _ fun H2' e2' => ?_
        dsimp only
        rw [if_pos rfl]
        replace e2 := e2.trans e2'
        replace e12 := e1.trans e2
        refine ev_op (z := .ref b) (ev_var (i := 0) rfl) ev_c (rv_ixT (st_of (e2 _ _ ha1)) (atI_nat (j := 2) rfl)) H2' (Ex.refl _) _ fun H3 e3 => ⟨b, ys.map V.str, rfl, .inr (st_of ((e12.trans e3) _ _ hb2)), fun p hp => ?_⟩
        exact fin p ys _ (e12.trans (e3.trans (Ex.new hp))) upd_same hn hz fun ⟨m', k', ts', z, nj⟩ => by rw [ha] at z; injection z with z; injection z with z; injection z with _ z; injection z with z _; injection z with z; exact absurd z.symm nj
      · refine q_raw ?_
        refine et_test (b := false) (ev_is (ev_op (ev_var rfl) ev_c (rv_eq rfl)) (by simp [hkj])) H2 (Ex.refl _) _ fun H2' e2' => ?_
        dsimp only
        rw [if_neg (by decide)]
        replace e2 := e2.trans e2'
        replace e12 := e1.trans e2
        refine ev_op (z := .str y) (ev_var (i := 0) rfl) ev_c (rv_ixT (st_of (e2 _ _ ha1)) (atI_nat (j := 2) rfl)) H2' (Ex.refl _) _ fun H3 e3 => ⟨by show 1 ≤ sizeLine; decide, fun p hp => ?_⟩
        exact fin p [y] _ (e12.trans (e3.trans (Ex.new hp))) upd_same (by show 1 ≤ 100; decide) (fun z hz => by
          have := List.mem_singleton.mp hz
          subst this
          exact hy) (fun _ => by simp)
end
end Bt
namespace Bt
open PySem PySem.Spec PyProof.Rows L2 Bk Bm Evl Be Cr Kr Bp Bl TL
section
variable {P : Program} {w : World} {K : PySem.W.Frag} {mg : Str → Option Value} {base : Heap}
/-! ### next_place -/
theorem scNext : FnScope ["rule", "looks", "places"] ["rule", "looks"] (defScope sNext) := ⟨rfl, rfl, rfl, by decide +kernel, rfl, by decide +kernel, by decide +kernel⟩
def spNext : Sp := fun vs H Q _ => ∃ a l, vs = [.ref a, .ref l] ∧ NR H a ∧ H l = some (.tup []) ∧ (¬ NJ H a → ∀ H', Ex H H' → Q .non H') ∧ ∀ x H', Ex H H' → Pc H' x → Q x H'
theorem ok_next {f : Addr} {fd : FuncData} (F : Fun K "next_place" "next_place" sNext f fd) (T : Gv mg) (cS : Cal P w K mg base CX0 1 "is_stopped" ["looks"] spStopped) (cP : Cal P w K mg base CX0 1 "places_known" ["rule", "looks"] spPlaces) :
    FnOk P w K mg base CX0 2 f fd ["rule", "looks"] spNext := by
  refine F.ok scNext (fun vs H Q E h => ?_) (fun cdv A outer s H vs Q E hr h => ?_)
  · obtain ⟨a, l, rfl, _⟩ := h
    rfl
  · obtain ⟨a, l, rfl, nr, hl, k1, k2⟩ := h
    refine ⟨_, pss_cons (ps_if (pt_val (pe_call cS.F hr (by rfl) cS.g cS.kp cS.b .nil pass0 (pa_cons (pv 1) pa_nil))) pss_never pss_nil)
      (pss_cons (ps_set (i := 2) scNext.nd rfl (Or.inl rfl) (pe_call cP.F hr (by rfl) cP.g cP.kp cP.b .nil pass0 (pa_cons (pv 0) (pa_cons (pv 1) pa_nil))))
      (pss_one (ps_ret (pe_ifExp (pt_cmpR op_lt (pe_callB call_len_seq (by rfl) T.len PySem.boot_len (pa_cons (pv 1) pa_nil)) (pe_callB call_len_seq (by rfl) T.len PySem.boot_len (pa_cons (pv 2) pa_nil)) (nomark _))
        (pe_ix (r := rIxL K) ix_list (pv 2) (pe_callB call_len_seq (by rfl) T.len PySem.boot_len (pa_cons (pv 1) pa_nil)) (fun _ _ => rfl)) pe_non)))), ?_⟩
    refine q_when (b := false) (et_B (ev_call (ea_cons (ev_var rfl) ea_nil) fun H1 e1 Q' q' E' => ⟨l, rfl, e1 _ _ hl, q'⟩)) (fun z => by cases z) (fun _ H1 e1 => ?_)
    refine q_raw ?_
    refine ⟨_, rfl, _, rfl, a, l, rfl, nr.mono e1, e1 _ _ hl, fun q xs H2 e2 hq hn hp hne => ?_⟩
    show tRet _ _ ([some (.ref a), some (.ref l), some (.ref q)] : L2.St) H2
    have e12 := e1.trans e2
    have hl2 := e12 _ _ hl
    have len1 : ∀ G, Ex H2 G → Ev (tCB (rLenS K) (tCons (tVar 1) tNil)) ([some (.ref a), some (.ref l), some (.ref q)] : L2.St) G (.int ((0 : Nat) : Int)) := fun G e => ev_is (ev_lenT (ev_var rfl) (st_of (e _ _ hl2))) rfl
    cases xs with
    | nil =>
      refine et_test (b := false) (ev_is (ev_op (len1 _ (Ex.refl _)) (ev_len (ev_var rfl) (sq_of hq)) rv_I0) rfl) H2 (Ex.refl _) _ fun H3 e3 => ?_
      dsimp only
      rw [if_neg (by decide)]
      exact k1 (fun nj => hne (nj.mono e1) rfl) _ (e12.trans e3)
    | cons x r =>
      refine et_test (b := true) (ev_is (ev_op (len1 _ (Ex.refl _)) (ev_len (ev_var rfl) (sq_of hq)) rv_I0) (by simp)) H2 (Ex.refl _) _ fun H3 e3 => ?_
      dsimp only
      rw [if_pos rfl]
      refine ev_op (z := x) (ev_var (i := 2) rfl) (len1 _ e3) (rv_ixL (sq_of (e3 _ _ hq)) (atI_nat (j := 0) rfl)) H3 (Ex.refl _) _ fun H4 e4 => ?_
      exact k2 x H4 ((e12.trans e3).trans e4) ((hp x List.mem_cons_self).mono (e3.trans e4))
/-! ### is_record of no look -/
theorem rv_isN {x : V} {H : Hp} : RV (fun x y H Q => y = V.non ∧ Q (.bl (decide (x = V.non))) H) x .non H (.bl (decide (x = V.non))) := fun H1 _ Q q => ⟨rfl, q H1 (Ex.refl _)⟩
abbrev nIsRec : List Str := ["rule", "value", "at", "look", "place"]
theorem scIsRec : FnScope nIsRec ["rule", "value"] (defScope sIsRec) := ⟨rfl, rfl, rfl, by decide +kernel, rfl, by decide +kernel, by decide +kernel⟩
def spIsRec0 (K : PySem.W.Frag) : Sp := fun vs H Q _ => ∃ a l, vs = [.ref a, .ref l] ∧ NR H a ∧ NJ H a ∧ H l = some (.tup []) ∧ RetV (.bl false) H Q
theorem ok_isRec0 {f : Addr} {fd : FuncData} (F : Fun K "is_record" "is_record" sIsRec f fd) (T : Gv mg) (cN : Cal P w K mg base CX0 2 "next_place" ["rule", "looks"] spNext) : FnOk P w K mg base CX0 3 f fd ["rule", "value"] (spIsRec0 K) := by
  refine F.ok scIsRec (fun vs H Q E h => ?_) (fun cdv A outer s H vs Q E hr h => ?_)
  · obtain ⟨a, v, rfl, _⟩ := h
    rfl
  · obtain ⟨a, l, rfl, nr, nj, hl, k⟩ := h
    refine ⟨_, pss_cons (ps_if (pt_not (pt_val (pe_callB call_isi (by rfl) T.isi boot_isinstance (pa_cons (pv 1) (pa_cons (pe_bltn (v := .ty "tuple") (by rfl) T.tup (by decide +kernel) rfl) pa_nil))))) (pss_one (ps_ret pe_bl)) pss_nil)
      (pss_cons (ps_for PassesOwn.never rfl (pi_enumT (by rfl) T.enu (pa_cons (pv 1) pa_nil)) (pg_tup rfl (pgs_cons (pg_name (i := 2) scIsRec.nd rfl (Or.inl rfl)) (pgs_cons (pg_name (i := 3) scIsRec.nd rfl (Or.inl rfl)) pgs_nil)))
        pss_never)
      (pss_one (ps_ret (pe_cmpR op_isN (pe_call cN.F hr (by rfl) cN.g cN.kp cN.b .nil pass0 (pa_cons (pv 0) (pa_cons (pv 1) pa_nil))) pe_non (nomark _))))), ?_⟩
    refine q_when (b := false) (et_is (et_not (et_B (ev_isi (ev_var rfl) ev_c (kd_tup hl) (.inr rfl)))) (by simp)) (fun z => by cases z) (fun _ H1 e1 => ?_)
    have hl1 := e1 _ _ hl
    refine ⟨_, rfl, l, [], rfl, st_of hl1, for_enumT (K := K) (a := l) (xs := []) (fun i τ G => τ = [some (.ref a), some (.ref l), none, none, none] ∧ Ex H1 G)
      ⟨rfl, Ex.refl _⟩ (fun i τ G _ q => st_of (q.2 _ _ hl1)) (fun i y τ G T0 hi => by simp at hi) (fun τ G q => ?_)⟩
    obtain ⟨rfl, eG⟩ := q
    have e2 := e1.trans eG
    refine ⟨_, rfl, _, rfl, a, l, rfl, nr.mono e2, e2 _ _ hl, fun z => absurd (nj.mono e2) z, fun x H2 e3 pc => ?_⟩
    obtain ⟨q, wd, wh, rfl, _⟩ := pc
    exact ⟨rfl, k H2 (e2.trans e3)⟩
end
end Bt
namespace Bt
open PySem PySem.Spec PyProof.Rows L2 Bk Bm Evl Be Cr Kr Bp Bl TL
abbrev sRightR : Stmt := top 117
abbrev sToldBy : Stmt := top 118
abbrev sStoreI : Stmt := inClass (top 128) 0
abbrev sTrueE : Stmt := top 130
abbrev sCkEnt : Stmt := top 131
abbrev sPlanOf : Stmt := top 135
abbrev sCkLen : Stmt := top 137
abbrev sBnI : Stmt := inClass (top 22) 0
abbrev sBeI : Stmt := inClass (top 23) 0
/-- raised, with a field or without -/
def RzA (C : Addr) (H : Hp) (E : XK) : Prop := ∀ oe G, Ex H G → E (.ref C) oe G
theorem RzA.mono {C : Addr} {H H1 : Hp} {E : XK} (h : RzA C H E) (e : Ex H H1) : RzA C H1 E := fun oe G e1 => h oe G (e.trans e1)
theorem RzA.z {C : Addr} {H : Hp} {E : XK} (h : RzA C H E) : Rz0 C H E := fun G e => h none G e
theorem RzA.i {C : Addr} {H : Hp} {E : XK} (h : RzA C H E) (v : V) : RaiseI C v H E := fun d G e _ _ => h (some d) G e
theorem RzA.r {C : Addr} {H : Hp} {E : XK} (h : RzA C H E) (o : Option V) : Rz C o H E := by
  cases o with
  | none => exact h.z
  | some v => exact h.i v
section
variable {P : Program} {w : World} {K : PySem.W.Frag} {mg : Str → Option Value} {base : Heap} {C fI pR fG fL fE Cr Crc Cn Ck Ce fN fE2 Cl : Addr}
/-! ### check_rule, check_record -/
theorem scCkRule : FnScope ["value"] ["value"] (defScope sCkRule) := ⟨rfl, rfl, rfl, by decide +kernel, rfl, by decide +kernel, by decide +kernel⟩
def spCkRule (K : PySem.W.Frag) (Cr : Addr) : Sp := fun vs H Q E => ∃ v b, vs = [v] ∧ Ru K H v b ∧ (b = true → RetV .non H Q) ∧ (b = false → Rz0 Cr H E)
theorem ok_ckRule {f : Addr} {fd : FuncData} (F : Fun K "check_rule" "check_rule" sCkRule f fd) (c : Xc K mg "BadRule" Cr) (cR : Cal P w K mg base CX0 5 "is_rule" ["value"] (spRule (K := K))) : FnOk P w K mg base (L2.CX P w) 6 f fd ["value"] (spCkRule K Cr) := by
  refine F.okX scCkRule (fun vs H Q E h => ?_) (fun cdv A outer s H vs Q E hr h => ?_)
  · obtain ⟨v, b, rfl, _⟩ := h
    rfl
  · obtain ⟨v, b, rfl, ru, k1, k2⟩ := h
    refine ⟨_, pss_one (ps_if (pt_not (pt_val (pe_call cR.F hr (by rfl) cR.g cR.kp cR.b .nil pass0 (pa_cons (pv 0) pa_nil)))) (pss_one (ps_raise rfl (takes_of rfl rfl rfl rfl) (pmk_own0 c (by rfl)))) pss_nil), ?_⟩
    refine s_if (b := !b) (et_not (et_B (ev_call (ea_cons (ev_var rfl) ea_nil) fun H1 e1 Q' q' E' => ⟨v, b, rfl, ru.mono e1, q'⟩))) (fun hb H1 e1 => ?_) (fun hb H1 e1 => ?_)
    · exact k2 (by simpa using hb) H1 e1
    · exact k1 (by simpa using hb) H1 e1
theorem scCkRec : FnScope ["rule", "value"] ["rule", "value"] (defScope sCkRec) := ⟨rfl, rfl, rfl, by decide +kernel, rfl, by decide +kernel, by decide +kernel⟩
def spCkRec0 (K : PySem.W.Frag) (Crc : Addr) : Sp := fun vs H Q E => ∃ a l, vs = [.ref a, .ref l] ∧ NR H a ∧ NJ H a ∧ H l = some (.tup []) ∧ Rz0 Crc H E
theorem ok_ckRec0 {f : Addr} {fd : FuncData} (F : Fun K "check_record" "check_record" sCkRec f fd) (c : Xc K mg "BadRecord" Crc) (cR : Cal P w K mg base CX0 3 "is_record" ["rule", "value"] (spIsRec0 K)) : FnOk P w K mg base (L2.CX P w) 4 f fd ["rule", "value"] (spCkRec0 K Crc) := by
  refine F.okX scCkRec (fun vs H Q E h => ?_) (fun cdv A outer s H vs Q E hr h => ?_)
  · obtain ⟨a, v, rfl, _⟩ := h
    rfl
  · obtain ⟨a, l, rfl, nr, nj, hl, k⟩ := h
    refine ⟨_, pss_one (ps_if (pt_not (pt_val (pe_call cR.F hr (by rfl) cR.g cR.kp cR.b .nil pass0 (pa_cons (pv 0) (pa_cons (pv 1) pa_nil))))) (pss_one (ps_raise rfl (takes_of rfl rfl rfl rfl) (pmk_own0 c (by rfl)))) pss_nil), ?_⟩
    refine s_if (b := true) (et_is (et_not (et_B (ev_call (ea_cons (ev_var rfl) (ea_cons (ev_var rfl) ea_nil)) fun H1 e1 Q' q' E' => ⟨a, l, rfl, nr.mono e1, nj.mono e1, e1 _ _ hl, q'⟩))) rfl) (fun _ H1 e1 => ?_) (fun z => by cases z)
    exact k H1 e1
/-! ### right_record, told_by -/
theorem scRightR : FnScope ["rule", "value"] ["rule", "value"] (defScope sRightR) := ⟨rfl, rfl, rfl, by decide +kernel, rfl, by decide +kernel, by decide +kernel⟩
theorem scToldBy : FnScope ["rule", "record"] ["rule", "record"] (defScope sToldBy) := ⟨rfl, rfl, rfl, by decide +kernel, rfl, by decide +kernel, by decide +kernel⟩
def spRightR (K : PySem.W.Frag) (Cr : Addr) : Sp := fun vs H Q E => ∃ v x, vs = [v, x] ∧ Ru K H v false ∧ Rz0 Cr H E
theorem ok_rightR {f : Addr} {fd : FuncData} (F : Fun K "right_record" "right_record" sRightR f fd) (cC : Cal P w K mg base (L2.CX P w) 6 "check_rule" ["value"] (spCkRule K Cr)) : FnOk P w K mg base (L2.CX P w) 7 f fd ["rule", "value"] (spRightR K Cr) := by
  refine F.okX scRightR (fun vs H Q E h => ?_) (fun cdv A outer s H vs Q E hr h => ?_)
  · obtain ⟨v, x, rfl, _⟩ := h
    rfl
  · obtain ⟨v, x, rfl, ru, k⟩ := h
    refine ⟨_, pss_cons (ps_expr (pe_call cC.F hr (by rfl) cC.g cC.kp cC.b .nil (lets (takes_of rfl rfl rfl rfl)) (pa_cons (pv 0) pa_nil))) pss_never, ?_⟩
    exact ⟨_, rfl, v, false, rfl, ru, fun z => (by cases z), fun _ => k⟩
def spToldBy (K : PySem.W.Frag) (Crc : Addr) : Sp := fun vs H Q E => ∃ a l, vs = [.ref a, .ref l] ∧ Ru K H (.ref a) true ∧ NR H a ∧ NJ H a ∧ H l = some (.tup []) ∧ Rz0 Crc H E
theorem ok_toldBy {f : Addr} {fd : FuncData} (F : Fun K "told_by" "told_by" sToldBy f fd) (cC : Cal P w K mg base (L2.CX P w) 6 "check_rule" ["value"] (spCkRule K Cr)) (cX : Cal P w K mg base (L2.CX P w) 4 "check_record" ["rule", "value"] (spCkRec0 K Crc)) : FnOk P w K mg base (L2.CX P w) 7 f fd ["rule", "record"] (spToldBy K Crc) := by
  refine F.okX scToldBy (fun vs H Q E h => ?_) (fun cdv A outer s H vs Q E hr h => ?_)
  · obtain ⟨v, x, rfl, _⟩ := h
    rfl
  · obtain ⟨a, l, rfl, ru, nr, nj, hl, k⟩ := h
    refine ⟨_, pss_cons (ps_expr (pe_call cC.F hr (by rfl) cC.g cC.kp cC.b .nil (lets (takes_of rfl rfl rfl rfl)) (pa_cons (pv 0) pa_nil)))
      (pss_cons (ps_expr (pe_call cX.F (hr.mono (by decide)) (by rfl) cX.g cX.kp cX.b .nil (lets (takes_of rfl rfl rfl rfl)) (pa_cons (pv 0) (pa_cons (pv 1) pa_nil)))) pss_never), ?_⟩
    exact ⟨_, rfl, _, true, rfl, ru, fun _ H1 e1 => ⟨_, rfl, _, rfl, a, l, rfl, nr.mono e1, nj.mono e1, e1 _ _ hl, fun G e => k G (e1.trans e)⟩, fun z => by cases z⟩
/-! ### BadNumber, BadEntries -/
structure Xn (K : PySem.W.Frag) (mg : Str → Option Value) (x : Str) (C fI : Addr) : Prop where
  g : mg x = some (.ref C)
  o : OexC K C
  n : PySem.W.findIn K (.ref C) "n" = some none
  i : PySem.W.findIn K (.ref C) "__init__" = some (some (.ref fI))
  t : PySem.W.typeIn K (.ref fI) = some (.type "function")
def spXn (K : PySem.W.Frag) (C : Addr) : Sp := fun vs H Q _ => ∃ a v, vs = [.ref a, v] ∧ H a = some (exo a C none) ∧ OexC K C ∧ PySem.W.findIn K (.ref C) "n" = some none ∧
  ∀ dx, H dx = none → dx ≠ a → Q .non (upd (upd H dx (exd dx [(("n" : Str), v)])) a (exo a C (some dx)))
theorem scBnI : FnScope ["self", "n"] ["self", "n"] (defScope sBnI) := ⟨rfl, rfl, rfl, by decide +kernel, rfl, by decide +kernel, by decide +kernel⟩
theorem ok_bnI {f C : Addr} {fd : FuncData} {q : Str} (F : Fun K "__init__" q sBnI f fd) : FnOk P w K mg base CX0 1 f fd ["self", "n"] (spXn K C) := by
  refine F.ok scBnI (fun vs H Q E h => ?_) (fun cdv A outer s H vs Q E hr h => ?_)
  · obtain ⟨x, v, rfl, _⟩ := h
    rfl
  · obtain ⟨a, v, rfl, ha, o, n, k⟩ := h
    refine ⟨_, pss_one (ps_ost (pv 0) (pv 1)), ?_⟩
    exact ⟨_, rfl, _, rfl, a, C, rfl, o, n, .inl ⟨ha, fun dx hd hne => k dx hd hne⟩⟩
theorem pmk_xn {X : Cx} {C fI : Addr} {fd : FuncData} {x : Str} {e : Expr} {te : TE} {p pos : Pos} {k : Nat} (c : Xn X.K X.mg x C fI) (F : FnOk X.prog X.w X.K X.mg X.base CX0 1 fI fd ["self", "n"] (spXn X.K C)) (b : Binds X.K fd ["self", "n"] [])
    (hr : Room k X.A) (hk : 2 ≤ k) (hg : Gl X x) (he : PE X e te) (hdb : (x == ("__debug__" : Str)) = false := by decide)
    (hs : starEach (e :: []) X.env = (false, eval e X.env) :: starEach [] X.env := by rfl) (hpl : (backTo pos (starEach [] X.env)).any (·.1) = false := by rfl) :
    PMk X (.Call (.Name x p) [e] [] pos) (tMkO C (spXn X.K C) [] (tCons te tNil)) :=
  pmk_oex c.o c.i c.t F (hr.mono hk) b .nil pass0 hg c.g (pa_cons he pa_nil hs) hdb hs hpl
theorem xn_make {C fI : Addr} {x : Str} {te : TE} {σ : L2.St} {H : Hp} {v : V} {Q : XK} (c : Xn K mg x C fI) (he : Ev te σ H v) (k : ∀ d H', Ex H H' → Q (.ref C) (some d) H') : tMkO C (spXn K C) [] (tCons te tNil) σ H Q :=
  he H (Ex.refl _) _ fun H1 e1 => ⟨by show 1 ≤ 1000; decide, fun a ha => ⟨a, v, rfl, upd_same, c.o, c.n, fun dx hd hne => by
    have hdn : H1 dx = none := by rw [upd_ne hne] at hd; exact hd
    refine ⟨rfl, dx, [(("n" : Str), v)], upd_same, ?_, hdn, ?_⟩
    · rw [upd_ne hne, upd_same]
    · refine k dx _ (e1.trans fun b o hb => ?_)
      have nb : b ≠ a := ne_of_none hb ha
      rw [upd_ne (ne_of_none hb hdn), del_ne nb, upd_ne nb, upd_ne (ne_of_none hb hdn), upd_ne nb]
      exact hb⟩⟩
theorem scBeI : FnScope ["self", "index"] ["self", "index"] (defScope sBeI) := ⟨rfl, rfl, rfl, by decide +kernel, rfl, by decide +kernel, by decide +kernel⟩
theorem ok_beI {f C : Addr} {fd : FuncData} {q : Str} (F : Fun K "__init__" q sBeI f fd) : FnOk P w K mg base CX0 1 f fd ["self", "index"] (spXi K C) := by
  refine F.ok scBeI (fun vs H Q E h => ?_) (fun cdv A outer s H vs Q E hr h => ?_)
  · obtain ⟨x, v, rfl, _⟩ := h
    rfl
  · obtain ⟨a, v, rfl, ha, o, n, k⟩ := h
    refine ⟨_, pss_one (ps_ost (pv 0) (pv 1)), ?_⟩
    exact ⟨_, rfl, _, rfl, a, C, rfl, o, n, .inl ⟨ha, fun dx hd hne => k dx hd hne⟩⟩
end
end Bt
namespace Bt
open PySem PySem.Spec PyProof.Rows L2 Bk Bm Evl Be Cr Kr Bp Bl TL
section
variable {P : Program} {w : World} {K : PySem.W.Frag} {mg : Str → Option Value} {base : Heap} {C fI pR fG fL fE Cn Ck Ce fN fX Cl Cb Ct W : Addr}
/-! ### stores -/
theorem scTrueE : FnScope ["value", "text"] ["value"] (defScope sTrueE) := ⟨rfl, rfl, rfl, by decide +kernel, rfl, by decide +kernel, by decide +kernel⟩
def spTrueE0 (K : PySem.W.Frag) : Sp := fun vs H Q _ => ∃ v n, vs = [v] ∧ Kd K H v n ∧ n ≠ "tuple" ∧ RetV (.bl false) H Q
theorem ok_trueE0 {f : Addr} {fd : FuncData} (F : Fun K "true_entry" "true_entry" sTrueE f fd) (T : Gv mg) : FnOk P w K mg base CX0 1 f fd ["value"] (spTrueE0 K) := by
  refine F.ok scTrueE (fun vs H Q E h => ?_) (fun cdv A outer s H vs Q E hr h => ?_)
  · obtain ⟨v, n, rfl, _⟩ := h
    rfl
  · obtain ⟨v, n, rfl, kd, hn, k⟩ := h
    refine ⟨_, pss_cons (ps_if (pw_or (pt_not (pt_val (pe_callB call_isi (by rfl) T.isi boot_isinstance (pa_cons (pv 0) (pa_cons (pe_bltn (v := .ty "tuple") (by rfl) T.tup (by decide +kernel) rfl) pa_nil)))))
        (pw_or pt_no (pw_or pt_no (pw_or1 pt_no)))).pt (pss_one (ps_ret pe_bl)) pss_nil) pss_never, ?_⟩
    refine q_when (b := true) (et_is (et_or (a := true) (b := true) (et_is (et_not (et_B (ev_isi (ev_var rfl) ev_c kd (.inr rfl)))) (by rw [decide_eq_false hn]; rfl)) fun hb => (by cases hb)) rfl) (fun _ H1 e1 => ?_) (fun hb => by cases hb)
    exact k H1 e1
abbrev nCkEnt : List Str := ["value", "index", "thing"]
theorem scCkEnt : FnScope nCkEnt ["value"] (defScope sCkEnt) := ⟨rfl, rfl, rfl, by decide +kernel, rfl, by decide +kernel, by decide +kernel⟩
def spCkEnt (K : PySem.W.Frag) (Ce : Addr) : Sp := fun vs H Q E => ∃ a x n, vs = [.ref a] ∧ H a = some (.tup [x]) ∧ (∀ G, Ex H G → Kd K G x n) ∧ n ≠ "tuple" ∧ RzA Ce H E
theorem ok_ckEnt {f : Addr} {fd fdI : FuncData} (F : Fun K "check_entries" "check_entries" sCkEnt f fd) (T : Gv mg) (hmb : ∃ t, mg "MOST_ENTRIES" = some (.int 40 t)) (c : Xi K mg "BadEntries" Ce fX) (FI : FnOk P w K mg base CX0 1 fX fdI ["self", "index"] (spXi K Ce)) (bI : Binds K fdI ["self", "index"] [])
    (cE : Cal P w K mg base CX0 1 "true_entry" ["value"] (spTrueE0 K)) : FnOk P w K mg base (L2.CX P w) 3 f fd ["value"] (spCkEnt K Ce) := by
  refine F.okX scCkEnt (fun vs H Q E h => ?_) (fun cdv A outer s H vs Q E hr h => ?_)
  · obtain ⟨a, x, n, rfl, _⟩ := h
    rfl
  · obtain ⟨a, x, n, rfl, ha, kd, hn, k⟩ := h
    obtain ⟨t1, m1⟩ := hmb
    refine ⟨_, pss_cons (ps_if (pw_or (pt_not (pt_val (pe_callB call_isi (by rfl) T.isi boot_isinstance (pa_cons (pv 0) (pa_cons (pe_bltn (v := .ty "tuple") (by rfl) T.tup (by decide +kernel) rfl) pa_nil)))))
        (pw_or1 (pt_cmpR op_gt (pe_callB call_len_seq (by rfl) T.len PySem.boot_len (pa_cons (pv 0) pa_nil)) (pe_glob (v := .int 40) (by rfl) m1 ⟨_, rfl⟩) (nomark _)))).pt pss_never pss_nil)
      (pss_one (ps_for (passes_of rfl) rfl (pi_enumT (by rfl) T.enu (pa_cons (pv 0) pa_nil)) (pg_tup rfl (pgs_cons (pg_name (i := 1) scCkEnt.nd rfl (Or.inl rfl)) (pgs_cons (pg_name (i := 2) scCkEnt.nd rfl (Or.inl rfl)) pgs_nil)))
        (pss_one (ps_if (pw_or (pt_not (pt_val (pe_call cE.F (hr.mono (by decide)) (by rfl) cE.g cE.kp cE.b .nil pass0 (pa_cons (pv 2) pa_nil)))) (pw_or1 pt_no)).pt
          (pss_one (ps_raise rfl (takes_of rfl rfl rfl rfl) (pmk_xi c FI bI hr (by decide) (by rfl) (pv 1)))) pss_nil)))), ?_⟩
    refine q_when (b := false) (et_is (et_or (a := false) (b := false) (et_is (et_not (et_B (ev_isi (ev_var rfl) ev_c (kd_tup ha) (.inr rfl)))) rfl) fun _ => et_is (et_test (ev_op (ev_lenT (ev_var rfl) (st_of ha)) ev_c rv_I0)) (by simp)) rfl) (fun hb => by cases hb) (fun _ H1 e1 => ?_)
    have ha1 := e1 _ _ ha
    refine ⟨_, rfl, a, [x], rfl, st_of ha1, for_enumT (K := K) (a := a) (xs := [x]) (fun i τ G => i = 0 ∧ τ = [some (.ref a), none, none] ∧ Ex H1 G)
      ⟨rfl, rfl, Ex.refl _⟩ (fun i τ G _ q => st_of (q.2.2 _ _ ha1)) ?_ (fun τ G q => by have := q.1; simp at this)⟩
    rintro i y τ G T0 hi ⟨rfl, rfl, eG⟩ hT
    have hy : y = x := (Option.some.inj hi).symm
    subst hy
    have eT := Ex.new (o := .tup [.int ((0 : Nat) : Int), y]) hT
    refine ⟨T0, _, rfl, SqT.of upd_same, rfl, _, _, rfl, _, _, rfl, rfl, ?_⟩
    dsimp only
    have e2 := (e1.trans eG).trans eT
    show tIfS _ _ _ _ ([some (.ref a), some (.int ((0 : Nat) : Int)), some y] : L2.St) _
    refine s_when (b := true) (et_is (et_or (a := true) (b := true) (et_is (et_not (et_B (ev_call (z := .bl false) (ea_cons (ev_var rfl) ea_nil) fun H3 e3 Q' q' E' => ⟨y, n, rfl, kd _ (e2.trans e3), hn, q'⟩))) rfl) fun hb => (by cases hb)) rfl) (fun _ H3 e3 => ?_) (fun z => by cases z)
    exact xi_make c (ev_var rfl) fun d H4 e4 _ _ => k _ _ ((e2.trans e3).trans e4)
def kinds2 : List Str := [Str.ofString "eldest", Str.ofString "lately"]
structure Kds (K : PySem.W.Frag) (mg : Str → Option Value) (W : Addr) : Prop where
  g : mg "KINDS" = some (.ref W)
  sq : ∀ H, SqT K H W (kinds2.map V.str)
theorem kinds2_sh : SeqAt.shaped (.tuple (kinds2.map PyData.str)) = true := by decide +kernel
def kindB (d : PyData) : Bool := (kinds2.map PyData.str).any fun z => PyData.eqv z d
abbrev nStoreI : List Str := ["self", "room", "kind", "entries", "entry"]
theorem scStoreI : FnScope nStoreI ["self", "room", "kind", "entries"] (defScope sStoreI) := ⟨rfl, rfl, rfl, by decide +kernel, rfl, by decide +kernel, by decide +kernel⟩
def spStoreI (K : PySem.W.Frag) (Cn Ck Ce : Addr) : Sp := fun vs H Q E => ∃ x i s v, vs = [.ref x, .int i, .str s, v] ∧ ((inR 0 20 (.int i) = false ∧ RzA Cn H E) ∨ (inR 0 20 (.int i) = true ∧ SeqAt.shaped (.str s) = true ∧ ((kindB (.str s) = false ∧ RzA Ck H E) ∨
  (kindB (.str s) = true ∧ ∃ a y n, v = .ref a ∧ H a = some (.tup [y]) ∧ (∀ G, Ex H G → Kd K G y n) ∧ n ≠ "tuple" ∧ RzA Ce H E))))
theorem ok_storeI {f : Addr} {fd fdN : FuncData} {q : Str} (F : Fun K "__init__" q sStoreI f fd) (T : Gv mg) (hmr : ∃ t, mg "MOST_ROOM" = some (.int 20 t)) (c : Xn K mg "BadNumber" Cn fN) (FN : FnOk P w K mg base CX0 1 fN fdN ["self", "n"] (spXn K Cn)) (bN : Binds K fdN ["self", "n"] [])
    (ck : Xc K mg "BadKind" Ck) (Kd2 : Kds K mg W) (cF : Cal P w K mg base CX0 1 "is_from_to" ["value", "least", "most"] spFrom) (cE : Cal P w K mg base (L2.CX P w) 3 "check_entries" ["value"] (spCkEnt K Ce)) :
    FnOk P w K mg base (L2.CX P w) 6 f fd ["self", "room", "kind", "entries"] (spStoreI K Cn Ck Ce) := by
  refine F.okX scStoreI (fun vs H Q E h => ?_) (fun cdv A outer s H vs Q E hr h => ?_)
  · obtain ⟨x, i, z, v, rfl, _⟩ := h
    rfl
  · obtain ⟨x, i, z, v, rfl, h⟩ := h
    obtain ⟨t1, m1⟩ := hmr
    have hu : (A.deeper (envOfC q (defScope sStoreI) s.heap.objs.size f cdv)).units + 65 < cLine := by have := hr.un; omega
    refine ⟨_, pss_cons (ps_if (pt_not (pt_val (pe_call cF.F (hr.mono (by decide)) (by rfl) cF.g cF.kp cF.b .nil pass0 (pa_cons (pv 1) (pa_cons pe_int (pa_cons (pe_glob (v := .int 20) (by rfl) m1 ⟨_, rfl⟩) pa_nil))))))
        (pss_one (ps_raise rfl (takes_of rfl rfl rfl rfl) (pmk_xn c FN bN hr (by decide) (by rfl) (pv 1)))) pss_nil)
      (pss_cons (ps_if (pt_cmpR (op_notInDT hu) (pv 2) (pe_glob (v := .ref W) (by rfl) Kd2.g rfl) (by rfl)) (pss_one (ps_raise rfl (takes_of rfl rfl rfl rfl) (pmk_own0 ck (by rfl)))) pss_nil)
      (pss_cons (ps_expr (pe_call cE.F (hr.mono (by decide)) (by rfl) cE.g cE.kp cE.b .nil (lets (takes_of rfl rfl rfl rfl)) (pa_cons (pv 3) pa_nil))) pss_never)), ?_⟩
    have t0 : EvT (tNot (tB (tCall spFrom [] E0 (tCons (tVar 1) (tCons (tC (.int 0)) (tCons (tC (.int 20)) tNil)))))) ([some (.ref x), some (.int i), some (.str z), some v, none] : L2.St) H (!inR 0 20 (.int i)) :=
      et_not (et_B (ev_call (ea_cons (ev_var rfl) (ea_cons ev_c (ea_cons ev_c ea_nil))) fun H1 e1 Q' q' E' => ⟨_, 0, 20, rfl, .inl ⟨i, rfl⟩, q'⟩))
    rcases h with ⟨hi, k⟩ | ⟨hi, sh, h⟩
    · refine q_when (b := true) (et_is t0 (by rw [hi]; rfl)) (fun _ H1 e1 => ?_) (fun hb => by cases hb)
      exact xn_make c (ev_var rfl) fun d H2 e2 => k _ _ (e1.trans e2)
    · refine q_when (b := false) (et_is t0 (by rw [hi]; rfl)) (fun hb => by cases hb) (fun _ H1 e1 => ?_)
      refine q_when (b := !kindB (.str z)) (fun H2 e2 Q' q' => ⟨_, rfl, .str z, _, .str z, .tup (Kd2.sq _) (dpw K H2 kinds2), sh, kinds2_sh, _, rfl, q' H2 (Ex.refl _)⟩) (fun hb H2 e2 => ?_) (fun hb H2 e2 => ?_)
      · rcases h with ⟨_, k⟩ | ⟨hk, _⟩
        · exact k.z H2 (e1.trans e2)
        · rw [hk] at hb; cases hb
      · rcases h with ⟨hk, _⟩ | ⟨_, a, y, n, rfl, ha, kd, hn, k⟩
        · rw [hk] at hb; cases hb
        · have e12 := e1.trans e2
          exact ⟨_, rfl, a, y, n, rfl, e12 _ _ ha, fun G e => kd G (e12.trans e), hn, k.mono e12⟩
/-! ### plan_of -/
theorem scCkLen : FnScope ["book", "value", "thing"] ["book", "value"] (defScope sCkLen) := ⟨rfl, rfl, rfl, by decide +kernel, rfl, by decide +kernel, by decide +kernel⟩
def spCkLen (K : PySem.W.Frag) (C Cl : Addr) : Sp := fun vs H Q E => ∃ b t xs l, vs = [.ref b, .ref l] ∧ BkAt H C b (.ref t) ∧ H t = some (.tup xs) ∧ xs.length = 1 ∧ H l = some (.tup []) ∧ RzA Cl H E
theorem ok_ckLen {f : Addr} {fd fdL : FuncData} (F : Fun K "check_lengths" "check_lengths" sCkLen f fd) (T : Gv mg) (c : Xc K mg "BadLengths" Cl) (B : Bks K mg C fI pR fG fL fE) (FL : FnOk P w K mg base CX0 1 fL fdL ["self"] (spLen (K := K) C)) (bL : Binds K fdL ["self"] []) : FnOk P w K mg base (L2.CX P w) 3 f fd ["book", "value"] (spCkLen K C Cl) := by
  refine F.okX scCkLen (fun vs H Q E h => ?_) (fun cdv A outer s H vs Q E hr h => ?_)
  · obtain ⟨b, t, xs, l, rfl, _⟩ := h
    rfl
  · obtain ⟨b, t, xs, l, rfl, hb, ht, hx, hl, k⟩ := h
    refine ⟨_, pss_cons (ps_if (pw_or (pt_not (pt_val (pe_callB call_isi (by rfl) T.isi boot_isinstance (pa_cons (pv 1) (pa_cons (pe_bltn (v := .ty "tuple") (by rfl) T.tup (by decide +kernel) rfl) pa_nil)))))
        (pw_or1 (pt_cmpR op_ne (pe_callB call_len_seq (by rfl) T.len PySem.boot_len (pa_cons (pv 1) pa_nil)) (pe_callB (call_lenI FL B.len B.lenF bL hr) (by rfl) T.len PySem.boot_len (pa_cons (pv 0) pa_nil)) (nomark _)))).pt
        (pss_one (ps_raise rfl (takes_of rfl rfl rfl rfl) (pmk_own0 c (by rfl)))) pss_nil) pss_never, ?_⟩
    refine q_when (b := true) (et_is (et_or (a := false) (b := true) (et_is (et_not (et_B (ev_isi (ev_var rfl) ev_c (kd_tup hl) (.inr rfl)))) rfl) fun _ => ?_) rfl) (fun _ H1 e1 => ?_) (fun hb => by cases hb)
    · obtain ⟨dx, hbr⟩ := id hb
      refine et_is (et_test (ev_op (x := .int ((([] : List V).length : Nat) : Int)) (y := .int (xs.length : Int)) (ev_lenT (ev_var (i := 1) rfl) (st_of hl)) (fun H2 e2 Q' q' => ⟨_, rfl, b, dx, _, rfl, e2 _ _ hbr, b, t, xs, rfl, hb.mono e2, st_of (e2 _ _ ht), fun G e3 => ⟨_, rfl, by omega, by omega, q' G e3⟩⟩) (rv_ne rfl))) ?_
      rw [hx]
      rfl
    · exact k.z H1 e1
theorem scPlanOf : FnScope ["book", "tree", "lengths"] ["book", "tree", "lengths"] (defScope sPlanOf) := ⟨rfl, rfl, rfl, by decide +kernel, rfl, by decide +kernel, by decide +kernel⟩
def spPlanOf (K : PySem.W.Frag) (C Cl : Addr) : Sp := fun vs H Q E => ∃ b t xs q l, vs = [.ref b, q, .ref l] ∧ BkAt H C b (.ref t) ∧ H t = some (.tup xs) ∧ xs.length = 1 ∧ Tr K H q none ∧ H l = some (.tup []) ∧ RzA Cl H E
theorem ok_planOf {f : Addr} {fd : FuncData} (F : Fun K "plan_of" "plan_of" sPlanOf f fd) (cB : Cal P w K mg base (L2.CX P w) 2 "check_book" ["value"] (spCkB2 K C Cb)) (cT : Cal P w K mg base (L2.CX P w) 4 "check_tree" ["value"] (spCkTree (K := K) Ct))
    (cL : Cal P w K mg base (L2.CX P w) 3 "check_lengths" ["book", "value"] (spCkLen K C Cl)) : FnOk P w K mg base (L2.CX P w) 5 f fd ["book", "tree", "lengths"] (spPlanOf K C Cl) := by
  refine F.okX scPlanOf (fun vs H Q E h => ?_) (fun cdv A outer s H vs Q E hr h => ?_)
  · obtain ⟨b, t, xs, q, l, rfl, _⟩ := h
    rfl
  · obtain ⟨b, t, xs, q, l, rfl, hb, ht, hx, tr, hl, k⟩ := h
    refine ⟨_, pss_cons (ps_expr (pe_call cB.F (hr.mono (by decide)) (by rfl) cB.g cB.kp cB.b .nil (lets (takes_of rfl rfl rfl rfl)) (pa_cons (pv 0) pa_nil)))
      (pss_cons (ps_expr (pe_call cT.F hr (by rfl) cT.g cT.kp cT.b .nil (lets (takes_of rfl rfl rfl rfl)) (pa_cons (pv 1) pa_nil)))
      (pss_cons (ps_expr (pe_call cL.F (hr.mono (by decide)) (by rfl) cL.g cL.kp cL.b .nil (lets (takes_of rfl rfl rfl rfl)) (pa_cons (pv 0) (pa_cons (pv 2) pa_nil)))) pss_never)), ?_⟩
    exact ⟨_, rfl, _, rfl, .inr ⟨b, _, rfl, hb, fun H1 e1 => ⟨_, rfl, q, _, rfl, tr.mono e1, fun _ H2 e2 => ⟨_, rfl, _, rfl, b, t, xs, l, rfl, hb.mono (e1.trans e2), (e1.trans e2) _ _ ht, hx, (e1.trans e2) _ _ hl, k.mono (e1.trans e2)⟩, fun v hv => by cases hv⟩⟩⟩
end
end Bt
namespace Kr
open PySem PySem.Spec PyProof.Rows L2 Bk Bm Evl Be
section
variable {X : Cx} {es : List Expr} {pos : Pos} {t : TA}
/-- (a, b): a tuple that is known to be plain -/
def tTupZ (t : TA) : TE := fun σ H Q => t σ H fun xs H1 => xs.length ≤ sizeLine ∧ ∀ p o, H1 p = none → Pln o → Q (.ref p) (upd H1 p (.frz o (.tup xs)))
theorem pe_tupZ {x1} (h : PA X es t) : PE X (.Tuple es x1 pos) (tTupZ t) := by
  refine ⟨fun pins s σ H Q I hq => ?_⟩
  refine wpAny_Tuple_spliced (thn (h.run pos pins s σ H _ I hq) fun us s1 ⟨xs, H1, I1, r, z, q⟩ => ⟨by rw [← r.length]; exact z, ?_⟩)
  have hf : H1 s1.heap.objs.size = none := I1.hok.fresh (Nat.le_refl _)
  have at_ : (s1.heap.push { cls := .type "tuple", data := .seq us.toArray }).get? s1.heap.objs.size = some { cls := .type "tuple", data := .seq us.toArray } := Heap.get?_push_size _ rfl
  exact ⟨.ref s1.heap.objs.size, upd H1 s1.heap.objs.size (.frz { cls := .type "tuple", data := .seq us.toArray } (.tup xs)), I1.laid (t' := s1.toks) (fun b u e => Heap.get?_push_of_some _ e) (Nat.le_refl _)
    (show ObjOk X.prog X.w _ _ _ (.frz _ (.tup xs)) from ⟨at_, z, us, r, IsTup.new _ _⟩), rfl, q _ _ hf ⟨rfl, rfl⟩⟩
end
end Kr
namespace Bt
open PySem PySem.Spec PyProof.Rows L2 Bk Bm Evl Be Cr Kr Bp Bl TL
abbrev sPaths : Stmt := top 150
abbrev nPaths : List Str := ["_law_kind", "_law_many", "_law_k"]
abbrev kindIs (n : Int) : TT := tTest (tOp rEq (tVar 0) (tC (.int n)))
theorem ev_kind {σ : L2.St} {H : Hp} {k n : Int} {b : Bool} (s0 : σ[0]? = some (some (.int k))) (h : decide (k = n) = b) : EvT (kindIs n) σ H b :=
  et_is (et_test (ev_op (x := .int k) (y := .int n) (ev_var s0) ev_c (rv_eq rfl))) (by
    rw [← h]
    show decide (V.int k = V.int n) = decide (k = n)
    exact decide_eq_decide.mpr ⟨fun z => by injection z, fun z => by rw [z]⟩)
/-- the twenty names -/
def nm20 (i : Nat) : Str := (Str.ofString "z" ++ (toString ((0 + (i : Int)) / 10) : Str)) ++ (toString ((0 + (i : Int)) % 10) : Str)
def fs20 : List Fl := (List.range 20).map fun i => (nm20 i, Str.ofString "")
theorem small20 : ∀ i : Nat, i < 20 → ((0 + (i : Int)) / 10).natAbs.log2 < 1920 ∧ ((0 + (i : Int)) % 10).natAbs.log2 < 1920 ∧ (Str.ofString "z").length + (toString ((0 + (i : Int)) / 10) : Str).length ≤ 100 ∧
    (Str.ofString "z" ++ (toString ((0 + (i : Int)) / 10) : Str)).length + (toString ((0 + (i : Int)) % 10) : Str).length ≤ 100 := by decide +kernel
theorem fs20_ok : ∀ f ∈ fs20, (f.1.length ≤ 1000 ∧ f.2.length ≤ 1000 ∧ PyData.strOk f.1 = true ∧ PyData.strOk f.2 = true) ∧ pathB f.1 = true ∧ textB f.2 = true := by decide +kernel
theorem fs20_up : ∀ i < 20, (match fs20[i]? with | some f => follow f.1 (fs20.take i) | none => true) = true := by decide +kernel
theorem fs20_no : hasP fs20 (Str.ofString "a") = false ∧ clashP fs20 (Str.ofString "a") = false ∧ fs20.length = 20 := by decide +kernel
theorem fs20_gf : GF fs20 := ⟨fs20_ok, fun i f h => by
  have hi : i < 20 := by
    have := (List.getElem?_eq_some_iff.mp h).1
    rw [fs20_no.2.2] at this
    exact this
  have := fs20_up i hi
  rw [h] at this
  exact this, by rw [fs20_no.2.2]; decide⟩
theorem gf_nil : GF [] := ⟨fun _ h => (by cases h), fun i f h => (by simp at h), by decide⟩
def f1 : List Fl := [(Str.ofString "a/b", Str.ofString "")]
theorem f1_ok : ∀ f ∈ f1, (f.1.length ≤ 1000 ∧ f.2.length ≤ 1000 ∧ PyData.strOk f.1 = true ∧ PyData.strOk f.2 = true) ∧ pathB f.1 = true ∧ textB f.2 = true := by decide +kernel
theorem f1_no : hasP f1 (Str.ofString "a") = false ∧ clashP f1 (Str.ofString "a") = true ∧ follow (Str.ofString "a/b") [] = true := by decide +kernel
theorem gf_one : GF f1 := ⟨f1_ok, fun i f h => by
  cases i with
  | zero =>
    have : f = (Str.ofString "a/b", Str.ofString "") := (Option.some.inj h).symm
    subst this
    exact f1_no.2.2
  | succ i => simp [f1] at h, by decide⟩
theorem ok_words : pathB (Str.ofString "a") = true ∧ isPathV (.str (Str.ofString "A")) = false ∧ isFolderV (.str (Str.ofString "A")) = false ∧ textB (Str.ofString "") = true ∧ (Str.ofString "a").length ≤ 1000 ∧ (Str.ofString "A").length ≤ 1000 ∧ (Str.ofString "").length ≤ 1000 ∧ SeqAt.shaped (.str (Str.ofString "a")) = true := by decide +kernel
theorem tr_nil {K : PySem.W.Frag} {H : Hp} {a : Addr} (h : H a = some (.tup [])) : Tr K H (.ref a) none := Tr.tup (os := []) h (.inl rfl) (Nat.zero_le _) .nil
theorem tr_bad {K : PySem.W.Frag} {H : Hp} {a b : Addr} (h : H a = some (.tup [.ref b])) (hb : H b = some (.tup [])) : Tr K H (.ref a) (some (.int ((0 : Nat) : Int))) :=
  Tr.tup (os := [none]) h (.inl rfl) (by show 1 ≤ 20; decide) (.cons (show Itm K H (.ref b) none from Fil.len hb (by simp) (by simp)) .nil)
section
variable {P : Program} {w : World} {K : PySem.W.Frag} {mg : Str → Option Value} {base : Heap} {C fI pR fG fL fE : Addr}
theorem cb_rw2 {te : TE} {r : List V → Hp → VK → Prop} {σ : L2.St} {H : Hp} {Q : VK} (h : te σ H fun x H1 => r [x] H1 Q) : tCB r (tCons te tNil) σ H Q := h
theorem ifs_raw {tt : TT} {tu tw : TS} {De : Ends} {σ : L2.St} {G : Hp} (h : tt σ G fun b H1 => if b = true then tu De σ H1 else tw De σ H1) : tIfS tt tu tw De σ G := h
theorem drp_raw {te : TE} {De : Ends} {σ : L2.St} {G : Hp} (h : te σ G fun _ H1 => De.nx σ H1) : tDrop te De σ G := h
theorem call_raw {sp : Sp} {E : XK} {ta : TA} {σ : L2.St} {G : Hp} {Q : VK} (h : ta σ G fun vs H1 => sp vs H1 Q E) : tCall sp [] E ta σ G Q := by
  simpa [tCall] using h
theorem scPaths : FnScope nPaths ["_law_kind"] (defScope sPaths) := ⟨rfl, rfl, rfl, by decide +kernel, rfl, by decide +kernel, by decide +kernel⟩
def spPaths (L : Nat → Addr) : Sp := fun vs H Q E => ∃ k : Nat, vs = [.int (k : Int)] ∧ k < 10 ∧ RzA (L k) H E
theorem ok_paths {L : Nat → Addr} {f : Addr} {fd fdI : FuncData} (F : Fun K "_law_paths" "_law_paths" sPaths f fd) (T : Gv mg) (B : Bks K mg C fI pR fG fL fE)
    (cN : Cal P w K mg base (L2.CX P w) 5 "names_in" ["tree", "folder"] (spR2 (K := K) (L 0) (L 2) isFolderV)) (cT : Cal P w K mg base (L2.CX P w) 5 "text_at" ["tree", "path"] (spR2 (K := K) (L 0) (L 1) isPathV))
    (cP : Cal P w K mg base (L2.CX P w) 5 "put" ["tree", "path", "text"] (spPutX K (L 3) (L 4) (L 5))) (cA : Cal P w K mg base (L2.CX P w) 5 "taken" ["tree", "path"] (spTakenX (L 6)))
    (FI : FnOk P w K mg base (L2.CX P w) 7 fI fdI ["self", "rules"] (spInit (K := K) C (L 7))) (bI : Binds K fdI ["self", "rules"] [])
    (cM : Cal P w K mg base (L2.CX P w) 3 "made_paths" ["book"] (spNB K (L 8))) (cR : Cal P w K mg base (L2.CX P w) 6 "run" ["book", "tree", "made"] (spWr K C (L 8) (L 0) (L 9))) :
    FnOk P w K mg base (L2.CX P w) 9 f fd ["_law_kind"] (spPaths L) := by
  refine F.okX scPaths (fun vs H Q E h => ?_) (fun cdv A outer s H vs Q E hr h => ?_)
  · obtain ⟨k, rfl, _⟩ := h
    rfl
  · obtain ⟨k, rfl, hk, rz⟩ := h
    refine ⟨_, pss_cons (ps_set (i := 1) scPaths.nd rfl (Or.inl rfl) (pe_callTy call_tuple_ofZ (by rfl) T.tup (by decide +kernel) (pa_cons (pe_lc (own := [("_law_k", 2)]) (g := gName 2) (tt := tYes) rfl scPaths.nd (pi_range1 (by rfl) T.rng (pa_cons pe_int pa_nil)) (blkOk_by (N := nPaths) (sc := defScope sPaths) (by decide +kernel))
        (fun _ _ _ _ _ => pg_name (i := 2) scPaths.nd rfl (Or.inl rfl)) (fun _ _ _ _ _ => pts_nil)
        (fun _ _ _ _ _ => pe_tup (pa_cons (pe_op op_add_str (pe_op op_add_str pe_str (pe_callTy call_str_int (by rfl) T.str (by decide +kernel) (pa_cons (pe_op op_fdiv (pv 2) pe_int) pa_nil))) (pe_callTy call_str_int (by rfl) T.str (by decide +kernel) (pa_cons (pe_op op_mod (pv 2) pe_int) pa_nil))) (pa_cons pe_str pa_nil)))) pa_nil)))
      (pss_one (ps_if (pt_cmpR op_eq (pv 0) pe_int (nomark _)) (pss_one (ps_expr (pe_call cN.F (hr.mono (by decide)) (by rfl) cN.g cN.kp cN.b .nil (lets (takes_of rfl rfl rfl rfl)) (pa_cons (pe_tup (pa_cons (pe_tup pa_nil) pa_nil)) (pa_cons pe_str pa_nil)))))
        (pss_one (ps_if (pt_cmpR op_eq (pv 0) pe_int (nomark _)) (pss_one (ps_expr (pe_call cT.F (hr.mono (by decide)) (by rfl) cT.g cT.kp cT.b .nil (lets (takes_of rfl rfl rfl rfl)) (pa_cons (pe_tup pa_nil) (pa_cons pe_str pa_nil)))))
        (pss_one (ps_if (pt_cmpR op_eq (pv 0) pe_int (nomark _)) (pss_one (ps_expr (pe_call cN.F (hr.mono (by decide)) (by rfl) cN.g cN.kp cN.b .nil (lets (takes_of rfl rfl rfl rfl)) (pa_cons (pe_tup pa_nil) (pa_cons pe_str pa_nil)))))
        (pss_one (ps_if (pt_cmpR op_eq (pv 0) pe_int (nomark _)) (pss_one (ps_expr (pe_call cP.F (hr.mono (by decide)) (by rfl) cP.g cP.kp cP.b .nil (lets (takes_of rfl rfl rfl rfl)) (pa_cons (pe_tupZ pa_nil) (pa_cons pe_str (pa_cons pe_non pa_nil))))))
        (pss_one (ps_if (pt_cmpR op_eq (pv 0) pe_int (nomark _)) (pss_one (ps_expr (pe_call cP.F (hr.mono (by decide)) (by rfl) cP.g cP.kp cP.b .nil (lets (takes_of rfl rfl rfl rfl)) (pa_cons (pe_tupZ (pa_cons (pe_tup (pa_cons pe_str (pa_cons pe_str pa_nil))) pa_nil)) (pa_cons pe_str (pa_cons pe_str pa_nil))))))
        (pss_one (ps_if (pt_cmpR op_eq (pv 0) pe_int (nomark _)) (pss_one (ps_expr (pe_call cP.F (hr.mono (by decide)) (by rfl) cP.g cP.kp cP.b .nil (lets (takes_of rfl rfl rfl rfl)) (pa_cons (pv 1) (pa_cons pe_str (pa_cons pe_str pa_nil))))))
        (pss_one (ps_if (pt_cmpR op_eq (pv 0) pe_int (nomark _)) (pss_one (ps_expr (pe_call cA.F (hr.mono (by decide)) (by rfl) cA.g cA.kp cA.b .nil (lets (takes_of rfl rfl rfl rfl)) (pa_cons (pe_tupZ pa_nil) (pa_cons pe_str pa_nil)))))
        (pss_one (ps_if (pt_cmpR op_eq (pv 0) pe_int (nomark _)) (pss_one (ps_expr (pe_make B.mkr FI hr (by rfl) B.g bI .nil (lets (takes_of rfl rfl rfl rfl)) (pa_cons (pe_tup (pa_cons pe_int pa_nil)) pa_nil))))
        (pss_one (ps_if (pt_cmpR op_eq (pv 0) pe_int (nomark _)) (pss_one (ps_expr (pe_call cM.F (hr.mono (by decide)) (by rfl) cM.g cM.kp cM.b .nil (lets (takes_of rfl rfl rfl rfl)) (pa_cons pe_int pa_nil))))
        (pss_one (ps_expr (pe_call cR.F (hr.mono (by decide)) (by rfl) cR.g cR.kp cR.b .nil (lets (takes_of rfl rfl rfl rfl)) (pa_cons (pe_make B.mkr FI hr (by rfl) B.g bI .nil (lets (takes_of rfl rfl rfl rfl)) (pa_cons (pe_tup pa_nil) pa_nil)) (pa_cons (pe_tup pa_nil) (pa_cons pe_str pa_nil)))))))))))))))))))))))), ?_⟩
    -- the twenty files
    refine q_raw (cb_rw2 ⟨20, rfl, by decide, by decide, fun D hD => walk_w (walk_range (lo := 0) (n := 20)) (fun i F => Ex H F ∧ ∃ zs, F D = some (.lst zs) ∧ Paired (FileAt F) zs (fs20.take i)) ⟨Ex.new hD, [], upd_same, .nil⟩ (fun _ _ _ _ => trivial) (fun i x F F' hi p y => ?_) (fun F p => ?_)⟩)
    · obtain ⟨eF, zs, hFD, pr⟩ := p
      obtain ⟨rfl, rfl⟩ := y
      obtain ⟨s1, s2, s3, s4⟩ := small20 i hi
      refine ⟨rfl, ?_⟩
      unfold tYes
      dsimp only
      rw [if_pos rfl]
      refine ⟨_, rfl, (0 + (i : Int)), 10, rfl, rfl, ⟨by decide, by decide⟩, _, rfl, s1, _, _, rfl, rfl, sz_of (by omega), _, rfl, (0 + (i : Int)), 10, rfl, rfl, (by show (0 : Int) < 10; decide), _, rfl, s2, _, _, rfl, rfl, sz_of (by omega), by show 2 ≤ sizeLine; decide, fun t ht => ?_⟩
      have eT := Ex.new (o := .tup [.str (nm20 i), .str (Str.ofString "")]) ht
      have hD2 := eT _ _ hFD
      have lz := paired_len pr
      rw [List.length_take, fs20_no.2.2] at lz
      refine ⟨zs, hD2, sz_lt (by omega), (eF.trans eT).mut hD, zs ++ [.ref t], upd_same, ?_⟩
      have st : fs20.take (i + 1) = fs20.take i ++ [(nm20 i, Str.ofString "")] := by
        rw [List.take_succ]
        congr 1
        show (((List.range 20).map fun i => (nm20 i, Str.ofString ""))[i]?).toList = _
        rw [List.getElem?_map, List.getElem?_range hi]
        rfl
      rw [st]
      have up : ∀ {v : V} {g : Fl}, FileAt (upd F' t (.tup [.str (nm20 i), .str (Str.ofString "")])) v g → FileAt (upd (upd F' t (.tup [.str (nm20 i), .str (Str.ofString "")])) D (.lst (zs ++ [.ref t]))) v g := by
        intro v g h
        obtain ⟨b, hv, hb⟩ := h
        exact ⟨b, hv, by rw [upd_ne (ne_of hb hD2 (by intro z; cases z))]; exact hb⟩
      exact paired_append (paired_mono pr fun _ _ z => up (z.mono eT)) (.cons (up ⟨t, rfl, upd_same⟩) .nil)
    obtain ⟨eF, zs, hFD, pr⟩ := p
    rw [List.take_of_length_le (by rw [fs20_no.2.2]; exact Nat.le_refl _)] at pr
    refine ⟨D, zs, rfl, sq_of hFD, fun m om hm hpl => ?_⟩
    have e2 : Ex H (upd F m (.frz om (.tup zs))) := eF.trans (Ex.new hm)
    have gm : GT (upd F m (.frz om (.tup zs))) m fs20 := ⟨⟨om, zs, upd_same, hpl, paired_mono pr fun _ _ z => z.mono (Ex.new hm)⟩, fs20_gf⟩
    generalize upd F m (.frz om (.tup zs)) = H2 at e2 gm ⊢
    clear pr hFD eF hm hpl
    show tIfS (kindIs 0) _ _ _ ([some (.int (k : Int)), some (.ref m), none] : L2.St) H2
    have cases10 : k = 0 ∨ k = 1 ∨ k = 2 ∨ k = 3 ∨ k = 4 ∨ k = 5 ∨ k = 6 ∨ k = 7 ∨ k = 8 ∨ k = 9 := by omega
    rcases cases10 with rfl | rfl | rfl | rfl | rfl | rfl | rfl | rfl | rfl | rfl
    · skip
      refine s_if (b := true) (ev_kind rfl (by decide)) (fun _ H3 e3 => ?_) (fun z => by cases z)
      have eY := e3
      have eX := e2.trans eY
      refine ⟨by show 0 ≤ sizeLine; decide, fun p hp => ⟨by show 1 ≤ sizeLine; decide, fun q hq => ?_⟩⟩
      have eA := (Ex.new (o := .tup []) hp).trans (Ex.new (o := .tup [.ref p]) hq)
      exact ⟨.ref q, _, .str (Str.ofString ""), rfl, tr_bad upd_same (Ex.new hq _ _ upd_same), .inl ⟨_, rfl, ((rz.mono eX).mono eA).i _⟩⟩
    · skip
      refine s_if (b := false) (ev_kind rfl (by decide)) (fun z => by cases z) (fun _ H3 e3 => ?_)
      refine s_if (b := true) (ev_kind rfl (by decide)) (fun _ H4 e4 => ?_) (fun z => by cases z)
      have eY := (e3.trans e4)
      have eX := e2.trans eY
      refine ⟨by show 0 ≤ sizeLine; decide, fun p hp => ?_⟩
      exact ⟨.ref p, none, .str (Str.ofString "A"), rfl, tr_nil upd_same, .inr ⟨rfl, .str _ ok_words.2.2.2.2.2.1, ok_words.2.1, ((rz.mono eX).mono (Ex.new hp)).z⟩⟩
    · skip
      refine s_if (b := false) (ev_kind rfl (by decide)) (fun z => by cases z) (fun _ H3 e3 => ?_)
      refine s_if (b := false) (ev_kind rfl (by decide)) (fun z => by cases z) (fun _ H4 e4 => ?_)
      refine s_if (b := true) (ev_kind rfl (by decide)) (fun _ H5 e5 => ?_) (fun z => by cases z)
      have eY := ((e3.trans e4).trans e5)
      have eX := e2.trans eY
      refine ⟨by show 0 ≤ sizeLine; decide, fun p hp => ?_⟩
      exact ⟨.ref p, none, .str (Str.ofString "A"), rfl, tr_nil upd_same, .inr ⟨rfl, .str _ ok_words.2.2.2.2.2.1, ok_words.2.2.1, ((rz.mono eX).mono (Ex.new hp)).z⟩⟩
    · skip
      refine s_if (b := false) (ev_kind rfl (by decide)) (fun z => by cases z) (fun _ H3 e3 => ?_)
      refine s_if (b := false) (ev_kind rfl (by decide)) (fun z => by cases z) (fun _ H4 e4 => ?_)
      refine s_if (b := false) (ev_kind rfl (by decide)) (fun z => by cases z) (fun _ H5 e5 => ?_)
      refine s_if (b := true) (ev_kind rfl (by decide)) (fun _ H6 e6 => ?_) (fun z => by cases z)
      have eY := (((e3.trans e4).trans e5).trans e6)
      have eX := e2.trans eY
      refine ⟨by show 0 ≤ sizeLine; decide, fun p op hp hpl => ?_⟩
      exact ⟨p, [], Str.ofString "a", .non, rfl, ⟨⟨op, [], upd_same, hpl, .nil⟩, gf_nil⟩, ok_words.1, ok_words.2.2.2.2.1, .inl ⟨.non, rfl, ((rz.mono eX).mono (Ex.new hp)).z⟩⟩
    · skip
      refine s_if (b := false) (ev_kind rfl (by decide)) (fun z => by cases z) (fun _ H3 e3 => ?_)
      refine s_if (b := false) (ev_kind rfl (by decide)) (fun z => by cases z) (fun _ H4 e4 => ?_)
      refine s_if (b := false) (ev_kind rfl (by decide)) (fun z => by cases z) (fun _ H5 e5 => ?_)
      refine s_if (b := false) (ev_kind rfl (by decide)) (fun z => by cases z) (fun _ H6 e6 => ?_)
      refine s_if (b := true) (ev_kind rfl (by decide)) (fun _ H7 e7 => ?_) (fun z => by cases z)
      have eY := ((((e3.trans e4).trans e5).trans e6).trans e7)
      have eX := e2.trans eY
      refine ⟨by show 2 ≤ sizeLine; decide, fun q hq => ⟨by show 1 ≤ sizeLine; decide, fun p op hp hpl => ?_⟩⟩
      have eA := (Ex.new (o := .tup [.str (Str.ofString "a/b"), .str (Str.ofString "")]) hq).trans (Ex.new (o := .frz op (.tup [.ref q])) hp)
      exact ⟨p, f1, Str.ofString "a", _, rfl, ⟨⟨op, [.ref q], upd_same, hpl, .cons ⟨q, rfl, Ex.new hp _ _ upd_same⟩ .nil⟩, gf_one⟩, ok_words.1, ok_words.2.2.2.2.1, .inr ⟨_, rfl, ok_words.2.2.2.1, ok_words.2.2.2.2.2.2.1, f1_no.1, .inl ⟨f1_no.2.1, ((rz.mono eX).mono eA).z⟩⟩⟩
    · skip
      refine s_if (b := false) (ev_kind rfl (by decide)) (fun z => by cases z) (fun _ H3 e3 => ?_)
      refine s_if (b := false) (ev_kind rfl (by decide)) (fun z => by cases z) (fun _ H4 e4 => ?_)
      refine s_if (b := false) (ev_kind rfl (by decide)) (fun z => by cases z) (fun _ H5 e5 => ?_)
      refine s_if (b := false) (ev_kind rfl (by decide)) (fun z => by cases z) (fun _ H6 e6 => ?_)
      refine s_if (b := false) (ev_kind rfl (by decide)) (fun z => by cases z) (fun _ H7 e7 => ?_)
      refine s_if (b := true) (ev_kind rfl (by decide)) (fun _ H8 e8 => ?_) (fun z => by cases z)
      have eY := (((((e3.trans e4).trans e5).trans e6).trans e7).trans e8)
      have eX := e2.trans eY
      exact ⟨_, rfl, m, fs20, Str.ofString "a", _, rfl, gm.mono eY, ok_words.1, ok_words.2.2.2.2.1, .inr ⟨_, rfl, ok_words.2.2.2.1, ok_words.2.2.2.2.2.2.1, fs20_no.1, .inr ⟨fs20_no.2.1, fs20_no.2.2, (rz.mono eX).z⟩⟩⟩
    · skip
      refine s_if (b := false) (ev_kind rfl (by decide)) (fun z => by cases z) (fun _ H3 e3 => ?_)
      refine s_if (b := false) (ev_kind rfl (by decide)) (fun z => by cases z) (fun _ H4 e4 => ?_)
      refine s_if (b := false) (ev_kind rfl (by decide)) (fun z => by cases z) (fun _ H5 e5 => ?_)
      refine s_if (b := false) (ev_kind rfl (by decide)) (fun z => by cases z) (fun _ H6 e6 => ?_)
      refine s_if (b := false) (ev_kind rfl (by decide)) (fun z => by cases z) (fun _ H7 e7 => ?_)
      refine s_if (b := false) (ev_kind rfl (by decide)) (fun z => by cases z) (fun _ H8 e8 => ?_)
      refine s_if (b := true) (ev_kind rfl (by decide)) (fun _ H9 e9 => ?_) (fun z => by cases z)
      have eY := ((((((e3.trans e4).trans e5).trans e6).trans e7).trans e8).trans e9)
      have eX := e2.trans eY
      refine ⟨by show 0 ≤ sizeLine; decide, fun p op hp hpl => ?_⟩
      exact ⟨p, [], Str.ofString "a", rfl, ⟨⟨op, [], upd_same, hpl, .nil⟩, gf_nil⟩, ok_words.1, ok_words.2.2.2.2.1, rfl, ((rz.mono eX).mono (Ex.new hp)).z⟩
    · skip
      refine s_if (b := false) (ev_kind rfl (by decide)) (fun z => by cases z) (fun _ H3 e3 => ?_)
      refine s_if (b := false) (ev_kind rfl (by decide)) (fun z => by cases z) (fun _ H4 e4 => ?_)
      refine s_if (b := false) (ev_kind rfl (by decide)) (fun z => by cases z) (fun _ H5 e5 => ?_)
      refine s_if (b := false) (ev_kind rfl (by decide)) (fun z => by cases z) (fun _ H6 e6 => ?_)
      refine s_if (b := false) (ev_kind rfl (by decide)) (fun z => by cases z) (fun _ H7 e7 => ?_)
      refine s_if (b := false) (ev_kind rfl (by decide)) (fun z => by cases z) (fun _ H8 e8 => ?_)
      refine s_if (b := false) (ev_kind rfl (by decide)) (fun z => by cases z) (fun _ H9 e9 => ?_)
      refine s_if (b := true) (ev_kind rfl (by decide)) (fun _ H10 e10 => ?_) (fun z => by cases z)
      have eY := (((((((e3.trans e4).trans e5).trans e6).trans e7).trans e8).trans e9).trans e10)
      have eX := e2.trans eY
      refine ⟨by show 1 ≤ sizeLine; decide, fun p hp x dx hx hdx ne => ?_⟩
      have eA := (Ex.new (o := .tup [.int 0]) hp).trans ((Ex.new (o := .own x) hdx).trans (Ex.new (o := .ins C dx []) (by rw [upd_ne ne.symm]; exact hx)))
      have hpA := ((Ex.new (o := .own x) hdx).trans (Ex.new (o := .ins C dx []) (by rw [upd_ne ne.symm]; exact hx))) _ _ (upd_same (H := _) (a := p) (o := .tup [.int 0]))
      exact ⟨x, dx, .ref p, some (.int ((0 : Nat) : Int)), rfl, upd_same, Rl.tup (os := [none]) hpA (by show 1 ≤ 8; decide) (.cons (show Itr K _ (.int 0) none from Ru.no (kd_int 0) (by decide)) .nil), fun z => (by cases z), fun u hu => ((rz.mono eX).mono eA).i u⟩
    · skip
      refine s_if (b := false) (ev_kind rfl (by decide)) (fun z => by cases z) (fun _ H3 e3 => ?_)
      refine s_if (b := false) (ev_kind rfl (by decide)) (fun z => by cases z) (fun _ H4 e4 => ?_)
      refine s_if (b := false) (ev_kind rfl (by decide)) (fun z => by cases z) (fun _ H5 e5 => ?_)
      refine s_if (b := false) (ev_kind rfl (by decide)) (fun z => by cases z) (fun _ H6 e6 => ?_)
      refine s_if (b := false) (ev_kind rfl (by decide)) (fun z => by cases z) (fun _ H7 e7 => ?_)
      refine s_if (b := false) (ev_kind rfl (by decide)) (fun z => by cases z) (fun _ H8 e8 => ?_)
      refine s_if (b := false) (ev_kind rfl (by decide)) (fun z => by cases z) (fun _ H9 e9 => ?_)
      refine s_if (b := false) (ev_kind rfl (by decide)) (fun z => by cases z) (fun _ H10 e10 => ?_)
      refine s_if (b := true) (ev_kind rfl (by decide)) (fun _ H11 e11 => ?_) (fun z => by cases z)
      have eY := ((((((((e3.trans e4).trans e5).trans e6).trans e7).trans e8).trans e9).trans e10).trans e11)
      have eX := e2.trans eY
      exact ⟨.int 0, rfl, ⟨_, kd_int 0⟩, (rz.mono eX).z⟩
    · skip
      refine s_if (b := false) (ev_kind rfl (by decide)) (fun z => by cases z) (fun _ H3 e3 => ?_)
      refine s_if (b := false) (ev_kind rfl (by decide)) (fun z => by cases z) (fun _ H4 e4 => ?_)
      refine s_if (b := false) (ev_kind rfl (by decide)) (fun z => by cases z) (fun _ H5 e5 => ?_)
      refine s_if (b := false) (ev_kind rfl (by decide)) (fun z => by cases z) (fun _ H6 e6 => ?_)
      refine s_if (b := false) (ev_kind rfl (by decide)) (fun z => by cases z) (fun _ H7 e7 => ?_)
      refine s_if (b := false) (ev_kind rfl (by decide)) (fun z => by cases z) (fun _ H8 e8 => ?_)
      refine s_if (b := false) (ev_kind rfl (by decide)) (fun z => by cases z) (fun _ H9 e9 => ?_)
      refine s_if (b := false) (ev_kind rfl (by decide)) (fun z => by cases z) (fun _ H10 e10 => ?_)
      refine s_if (b := false) (ev_kind rfl (by decide)) (fun z => by cases z) (fun _ H11 e11 => ?_)
      have eY := ((((((((e3.trans e4).trans e5).trans e6).trans e7).trans e8).trans e9).trans e10).trans e11)
      have eX := e2.trans eY
      refine ⟨by show 0 ≤ sizeLine; decide, fun p hp => ?_⟩
      intro x dx hx hdx ne
      have e0 := (Ex.new (o := .own x) hdx).trans (Ex.new (o := .ins C dx []) (by rw [upd_ne ne.symm]; exact hx))
      refine ⟨x, dx, .ref p, none, rfl, upd_same, (rl_good (gs := []) upd_same ⟨.nil, List.nodup_nil, Nat.zero_le _⟩).mono e0, fun _ G1 eg => ⟨rfl, ?_⟩, fun u z => by cases z⟩
      have eG := (e0.trans eg).mut (o := .ins C dx [(kR, .ref p)]) hx
      have hb : BkAt (upd G1 x (.ins C dx [(kR, .ref p)])) C x (.ref p) := ⟨dx, upd_same⟩
      refine ⟨by show 0 ≤ sizeLine; decide, fun q hq => ?_⟩
      have eB := Ex.new (o := .tup []) hq
      have eA := (Ex.new (o := .tup []) hp).trans (eG.trans eB)
      exact ⟨.ref x, .ref q, .str (Str.ofString "a"), L 9, none, rfl, .made (tr_nil upd_same) ⟨p, [], [], hb.mono eB, eB _ _ (eG _ _ upd_same), .nil, by decide, .inl ⟨_, fun _ _ => .str _, ok_words.2.2.2.2.2.2.2, fun _ h => by cases h⟩, fun _ h => by cases h⟩, ((rz.mono eX).mono eA).z⟩
end
end Bt
namespace Bt
open PySem PySem.Spec PyProof.Rows L2 Bk Bm Evl Be Cr Kr Bp Bl TL
abbrev sRooms : Stmt := top 151
abbrev nRooms : List Str := ["_law_kind", "_law_book", "_law_rule", "_law_shop"]
abbrev sM : Str := Str.ofString "m"
abbrev sZ : Str := Str.ofString "size"
abbrev sA1 : Str := Str.ofString "a"
abbrev sWh : Str := Str.ofString "whole"
/-- the one rule -/
abbrev rl1 : HO := .tup [.str sM, .str sZ, .str sA1]
theorem one_rule : ruleB (.str sM) (.str sZ) [.str sA1] [none] = true ∧ sZ ∈ kinds9 ∧ sM.length ≤ 1000 ∧ sZ.length ≤ 1000 ∧ sA1.length ≤ 1000 ∧ sZ ≠ Str.ofString "names" ∧ sZ ≠ Str.ofString "join" ∧ sA1 ≠ zS := by decide +kernel
theorem ru_one {K : PySem.W.Frag} {H : Hp} {a : Addr} (h : H a = some rl1) : Ru K H (.ref a) true := by
  have t := Ru.long (K := K) (os := [none]) h (.str _ one_rule.2.2.1) (.str _ one_rule.2.2.2.1) (fun z hz => by cases hz; exact one_rule.2.1) (.cons (.sm (.str _ one_rule.2.2.2.2.1) (kd_str _) (by decide)) .nil) (by show 1 ≤ 100; decide) (fun hz => absurd (by injection hz) one_rule.2.2.2.2.2.1)
  rw [one_rule.1] at t
  exact t
theorem nr_one {H : Hp} {a : Addr} (h : H a = some rl1) : NR H a ∧ NJ H a := ⟨⟨_, _, _, h, .inr ⟨one_rule.2.2.2.2.2.2.1, _, _, rfl, one_rule.2.2.2.2.2.2.2⟩⟩, ⟨_, _, _, h, one_rule.2.2.2.2.2.2.1⟩⟩
/-- the book of the one rule -/
structure B1 (H : Hp) (C bk t r0 : Addr) : Prop where
  b : BkAt H C bk (.ref t)
  t : H t = some (.tup [.ref r0])
  r : H r0 = some rl1
section
variable {K : PySem.W.Frag} {H G : Hp} {C bk t r0 ba a : Addr}
theorem B1.mono (e : Ex H G) (h : B1 H C bk t r0) : B1 G C bk t r0 := ⟨h.b.mono e, e _ _ h.t, e _ _ h.r⟩
theorem B1.bs (h : B1 H C bk t r0) (hb : H ba = some (.tup [.ref bk])) : BsAt H C [sM] ba [.ref bk] := ⟨hb, by show 1 ≤ 1; decide, by show 1 ≤ 3; decide, fun x hx => by
  rw [List.mem_singleton.mp hx]
  exact ⟨bk, t, [.ref r0], [sM], rfl, h.b, h.t, .cons ⟨r0, _, rfl, h.r⟩ .nil, by decide, fun y => Iff.rfl⟩⟩
theorem tq_nil {q : Addr} {o : Obj} (h : H q = some (.frz o (.tup []))) (p : Pln o) : Tq H (.ref q) := ⟨q, o, [], [], rfl, h, p, .nil, ⟨List.nil_sublist _, fun _ h => by cases h⟩⟩
theorem av_nil {M : List Str} (h : H a = some (.tup [])) : Av K H M (.ref a) true := Av.into (ns := []) h (Nat.zero_le _) (fun _ h => by cases h)
theorem av_one (h : H a = some (.tup [.str sM])) : Av K H [sM] (.ref a) true := Av.into (ns := [sM]) h (by show 1 ≤ 10; decide) (fun y hy => hy)
theorem av_no (h : H a = some (.tup [.str sA1])) : Av K H [sM] (.ref a) false := Av.out h rfl (by show 1 ≤ 10; decide) (by decide +kernel)
theorem wy_wh : Wy K H (.str sWh) true := ⟨.str sWh, fun _ _ => .str _, by decide +kernel, by decide +kernel⟩
theorem wy_no : Wy K H (.str (Str.ofString "")) false := ⟨.str _, fun _ _ => .str _, by decide +kernel, by decide +kernel⟩
theorem os_zero {M : List Str} {n : Int} : OS K H M n (.int 0) := .form (.no (kd_int 0) (by decide))
theorem sts_bad {M : List Str} {n : Int} (h : H a = some (.tup [.int 0])) : Sts K H M n (.ref a) (some (.int ((0 : Nat) : Int))) := Sts.bad (i := 0) h (by show 1 ≤ 8; decide) (fun x hx => by cases hx) rfl (.form (.no (kd_int 0) (by decide)))
theorem sts_nil {M : List Str} {n : Int} (h : H a = some (.tup [])) : Sts K H M n (.ref a) none := Sts.ok h (Nat.zero_le _) (fun x hx => by cases hx)
theorem made_ex {y dy : Addr} {C0 : Addr} (hy : G y = none) (hdy : G dy = none) (ne : dy ≠ y) : Ex G (upd (upd G dy (.own y)) y (.ins C0 dy [])) := (Ex.new hdy).trans (Ex.new (by rw [upd_ne ne.symm]; exact hy))
end
theorem kinds_w : SeqAt.shaped (.str (Str.ofString "eldest")) = true ∧ kindB (.str (Str.ofString "eldest")) = true ∧ SeqAt.shaped (.str (Str.ofString "")) = true ∧ kindB (.str (Str.ofString "")) = false := by decide +kernel
section
variable {P : Program} {w : World} {K : PySem.W.Frag} {mg : Str → Option Value} {base : Heap} {C fI pR fG fL fE Cp fP pP fPG fPE Cq fQ fD Cnb Cst fS : Addr}
theorem scRooms : FnScope nRooms ["_law_kind"] (defScope sRooms) := ⟨rfl, rfl, rfl, by decide +kernel, rfl, by decide +kernel, by decide +kernel⟩
def spRooms (L : Nat → Addr) : Sp := fun vs H Q E => ∃ k : Nat, vs = [.int (k : Int)] ∧ 10 ≤ k ∧ k < 23 ∧ RzA (L k) H E
abbrev aStore : List Str := ["self", "room", "kind", "entries"]
theorem ok_rooms {L : Nat → Addr} {f : Addr} {fd fdI fdP fdQ fdD fdS : FuncData} (F : Fun K "_law_rooms" "_law_rooms" sRooms f fd) (T : Gv mg) (B : Bks K mg C fI pR fG fL fE) (BQ : Bqs K mg Cq fQ fD)
    (FI : FnOk P w K mg base (L2.CX P w) 7 fI fdI ["self", "rules"] (spInit (K := K) C (L 7))) (bI : Binds K fdI ["self", "rules"] [])
    (gP : mg "Shop" = some (.ref Cp)) (mP : Mk K Cp fP) (FP : FnOk P w K mg base (L2.CX P w) 7 fP fdP aShop (spShop K C (L 16) Cp)) (bP : Binds K fdP aShop [])
    (FQ : FnOk P w K mg base (L2.CX P w) 6 fQ fdQ aBui (spBui K C (L 12) (L 0) (L 13) (L 14) Cnb Cq)) (bQ : Binds K fdQ aBui []) (FD : FnOk P w K mg base (L2.CX P w) 6 fD fdD ["self", "step"] (spDo K C (L 15) Cnb Cq)) (bD : Binds K fdD ["self", "step"] [])
    (gS : mg "Store" = some (.ref Cst)) (mS : Mk K Cst fS) (FS : FnOk P w K mg base (L2.CX P w) 6 fS fdS aStore (spStoreI K (L 19) (L 20) (L 21))) (bS : Binds K fdS aStore [])
    (cR : Cal P w K mg base (L2.CX P w) 7 "right_record" ["rule", "value"] (spRightR K (L 10))) (cT : Cal P w K mg base (L2.CX P w) 7 "told_by" ["rule", "record"] (spToldBy K (L 11)))
    (cW : Cal P w K mg base (L2.CX P w) 5 "first_wrong" ["shop", "way"] (spW2 K Cp (L 17) (L 14))) (cO : Cal P w K mg base (L2.CX P w) 5 "follow" ["shop", "way", "row"] (spW3 K Cp (L 17) (L 14) (L 18)))
    (cL : Cal P w K mg base (L2.CX P w) 5 "plan_of" ["book", "tree", "lengths"] (spPlanOf K C (L 22))) :
    FnOk P w K mg base (L2.CX P w) 9 f fd ["_law_kind"] (spRooms L) := by
  refine F.okX scRooms (fun vs H Q E h => ?_) (fun cdv A outer s H vs Q E hr h => ?_)
  · obtain ⟨k, rfl, _⟩ := h
    rfl
  · obtain ⟨k, rfl, h10, h23, rz⟩ := h
    have hr7 : Room 7 _ := hr.mono (by decide)
    have hr6 : Room 6 _ := hr.mono (by decide)
    refine ⟨_, pss_cons (ps_par (i := 1) (j := 2) rfl scRooms.nd rfl rfl (by decide) rfl rfl (pa_cons (pe_make B.mkr FI hr (by rfl) B.g bI .nil (lets (takes_of rfl rfl rfl rfl)) (pa_cons (pe_tup (pa_cons (pe_tup (pa_cons pe_str (pa_cons pe_str (pa_cons pe_str pa_nil)))) pa_nil)) pa_nil))
        (pa_cons (pe_tup (pa_cons pe_str (pa_cons pe_str (pa_cons pe_str pa_nil)))) pa_nil)) rfl)
      (pss_cons (ps_set (i := 3) scRooms.nd rfl (Or.inl rfl) (pe_make mP FP hr (by rfl) gP bP .nil (lets (takes_of rfl rfl rfl rfl)) (pa_cons (pe_tup (pa_cons (pv 1) pa_nil)) (pa_cons (pe_tupZ pa_nil) (pa_cons (pe_tup (pa_cons pe_str pa_nil)) (pa_cons (pe_tup pa_nil) pa_nil))))))
      (pss_one (ps_if (pt_cmpR op_eq (pv 0) pe_int (nomark _)) (pss_one (ps_expr (pe_call cR.F (hr.mono (by decide)) (by rfl) cR.g cR.kp cR.b .nil (lets (takes_of rfl rfl rfl rfl)) (pa_cons pe_int (pa_cons (pe_tup pa_nil) pa_nil)))))
        (pss_one (ps_if (pt_cmpR op_eq (pv 0) pe_int (nomark _)) (pss_one (ps_expr (pe_call cT.F (hr.mono (by decide)) (by rfl) cT.g cT.kp cT.b .nil (lets (takes_of rfl rfl rfl rfl)) (pa_cons (pv 2) (pa_cons (pe_tup pa_nil) pa_nil)))))
        (pss_one (ps_if (pt_cmpR op_eq (pv 0) pe_int (nomark _)) (pss_one (ps_expr (pe_make BQ.mkr FQ hr7 (by rfl) BQ.g bQ .nil (lets (takes_of rfl rfl rfl rfl)) (pa_cons (pe_tup pa_nil) (pa_cons (pe_tup pa_nil) (pa_cons (pe_tup pa_nil) (pa_cons pe_str pa_nil)))))))
        (pss_one (ps_if (pt_cmpR op_eq (pv 0) pe_int (nomark _)) (pss_one (ps_expr (pe_make BQ.mkr FQ hr7 (by rfl) BQ.g bQ .nil (lets (takes_of rfl rfl rfl rfl)) (pa_cons (pe_tup (pa_cons (pv 1) pa_nil)) (pa_cons (pe_tupZ pa_nil) (pa_cons (pe_tup (pa_cons pe_str pa_nil)) (pa_cons pe_str pa_nil)))))))
        (pss_one (ps_if (pt_cmpR op_eq (pv 0) pe_int (nomark _)) (pss_one (ps_expr (pe_make BQ.mkr FQ hr7 (by rfl) BQ.g bQ .nil (lets (takes_of rfl rfl rfl rfl)) (pa_cons (pe_tup (pa_cons (pv 1) pa_nil)) (pa_cons (pe_tupZ pa_nil) (pa_cons (pe_tup pa_nil) (pa_cons pe_str pa_nil)))))))
        (pss_one (ps_if (pt_cmpR op_eq (pv 0) pe_int (nomark _)) (pss_one (ps_expr (pe_mth (E := fun _ => E) FD BQ.cls BQ.do_ hr6 bD (fun σ pins H s e s' I c => lets (takes_of rfl rfl rfl rfl) pins σ H s e s' I c) (pe_make BQ.mkr FQ hr7 (by rfl) BQ.g bQ .nil (lets (takes_of rfl rfl rfl rfl)) (pa_cons (pe_tup (pa_cons (pv 1) pa_nil)) (pa_cons (pe_tupZ pa_nil) (pa_cons (pe_tup pa_nil) (pa_cons pe_str pa_nil))))) (pa_cons pe_int pa_nil))))
        (pss_one (ps_if (pt_cmpR op_eq (pv 0) pe_int (nomark _)) (pss_one (ps_expr (pe_make mP FP hr (by rfl) gP bP .nil (lets (takes_of rfl rfl rfl rfl)) (pa_cons (pe_tup (pa_cons (pv 1) pa_nil)) (pa_cons (pe_tupZ pa_nil) (pa_cons (pe_tup pa_nil) (pa_cons (pe_tup (pa_cons pe_int pa_nil)) pa_nil)))))))
        (pss_one (ps_if (pt_cmpR op_eq (pv 0) pe_int (nomark _)) (pss_one (ps_expr (pe_call cW.F (hr.mono (by decide)) (by rfl) cW.g cW.kp cW.b .nil (lets (takes_of rfl rfl rfl rfl)) (pa_cons pe_int (pa_cons pe_str pa_nil)))))
        (pss_one (ps_if (pt_cmpR op_eq (pv 0) pe_int (nomark _)) (pss_one (ps_expr (pe_call cO.F (hr.mono (by decide)) (by rfl) cO.g cO.kp cO.b .nil (lets (takes_of rfl rfl rfl rfl)) (pa_cons (pv 3) (pa_cons pe_str (pa_cons (pe_tup (pa_cons pe_int pa_nil)) pa_nil))))))
        (pss_one (ps_if (pt_cmpR op_eq (pv 0) pe_int (nomark _)) (pss_one (ps_expr (pe_make mS FS hr7 (by rfl) gS bS .nil (lets (takes_of rfl rfl rfl rfl)) (pa_cons pe_int (pa_cons pe_str (pa_cons (pe_tup pa_nil) pa_nil))))))
        (pss_one (ps_if (pt_cmpR op_eq (pv 0) pe_int (nomark _)) (pss_one (ps_expr (pe_make mS FS hr7 (by rfl) gS bS .nil (lets (takes_of rfl rfl rfl rfl)) (pa_cons pe_int (pa_cons pe_str (pa_cons (pe_tup pa_nil) pa_nil))))))
        (pss_one (ps_if (pt_cmpR op_eq (pv 0) pe_int (nomark _)) (pss_one (ps_expr (pe_make mS FS hr7 (by rfl) gS bS .nil (lets (takes_of rfl rfl rfl rfl)) (pa_cons pe_int (pa_cons pe_str (pa_cons (pe_tup (pa_cons pe_int pa_nil)) pa_nil))))))
        (pss_one (ps_expr (pe_call cL.F (hr.mono (by decide)) (by rfl) cL.g cL.kp cL.b .nil (lets (takes_of rfl rfl rfl rfl)) (pa_cons (pv 1) (pa_cons (pe_tup pa_nil) (pa_cons (pe_tup pa_nil) pa_nil))))))))))))))))))))))))))))))), ?_⟩
    -- the book, the rule
    refine parq_raw (cons_raw ?_)
    refine ⟨by show 3 ≤ sizeLine; decide, fun r0 hr0 => ⟨by show 1 ≤ sizeLine; decide, fun t ht bk dk hbk hdk nek => ?_⟩⟩
    have ea := (Ex.new (o := rl1) hr0).trans (Ex.new (o := .tup [.ref r0]) ht)
    have e0 := made_ex (C0 := C) hbk hdk nek
    have hr1 := (Ex.new (o := .tup [.ref r0]) ht) _ _ (upd_same (H := H) (a := r0) (o := rl1))
    have rlg : Rl K (upd (upd H r0 rl1) t (.tup [.ref r0])) (.ref t) none := Rl.tup (os := [some sM]) upd_same (by show 1 ≤ 8; decide) (.cons ⟨ru_one hr1, ⟨r0, _, rfl, hr1⟩, one_rule.2.2.1⟩ .nil)
    refine ⟨bk, dk, .ref t, none, rfl, upd_same, rlg.mono e0, fun _ G1 eg => ⟨rfl, ?_⟩, fun u z => by cases z⟩
    have eG := (e0.trans eg).mut (o := .ins C dk [(kR, .ref t)]) hbk
    have b1 : B1 (upd G1 bk (.ins C dk [(kR, .ref t)])) C bk t r0 := ⟨⟨dk, upd_same⟩, eG _ _ upd_same, eG _ _ hr1⟩
    have e1 := ea.trans eG
    generalize upd G1 bk (.ins C dk [(kR, .ref t)]) = H1 at b1 e1 ⊢
    clear rlg eG eg e0 ea hr1 hbk hdk nek ht hr0
    refine cons_raw ⟨by show 3 ≤ sizeLine; decide, fun r1 hr1 => ⟨_, _, rfl, ?_⟩⟩
    have e2 := Ex.new (o := rl1) hr1
    have b2 := b1.mono e2
    have hR : (upd H1 r1 rl1) r1 = some rl1 := upd_same
    show tSeq (tAsg _ _) _ _ ([some (.int (k : Int)), some (.ref bk), some (.ref r1), none] : L2.St) (upd H1 r1 rl1)
    have e12 := e1.trans e2
    generalize upd H1 r1 rl1 = H2 at b2 hR e12 ⊢
    clear b1 e1 e2 hr1
    -- the shop
    refine q_raw ⟨_, rfl, by show 1 ≤ sizeLine; decide, fun ba hba => ⟨by show 0 ≤ sizeLine; decide, fun q oq hq hpl => ⟨by show 1 ≤ sizeLine; decide, fun am ham => ⟨by show 0 ≤ sizeLine; decide, fun st hst x dx hx hdx ne => ?_⟩⟩⟩⟩
    have x1 := Ex.new (o := .tup [.ref bk]) hba
    have x2 := Ex.new (o := .frz oq (.tup [])) hq
    have x3 := Ex.new (o := .tup [.str sM]) ham
    have x4 := Ex.new (o := .tup []) hst
    have x5 := made_ex (C0 := Cp) hx hdx ne
    have xx := ((x1.trans x2).trans x3).trans x4
    refine ⟨x, dx, [sM], ba, [.ref bk], .ref q, .ref am, .ref st, none, rfl, upd_same, ⟨(b2.mono (xx.trans x5)).bs ((((x2.trans x3).trans x4).trans x5) _ _ upd_same), tq_nil (((x3.trans x4).trans x5) _ _ upd_same) hpl, av_one ((x4.trans x5) _ _ upd_same)⟩, sts_nil (x5 _ _ upd_same), fun _ G xG sh => ⟨rfl, ?_⟩, fun u z => by cases z⟩
    have e3 : Ex H2 G := fun a' o' z => xG a' o' (fun z' => by rw [z'] at z; exact absurd (xx _ _ z) (by rw [hx]; intro w; cases w)) (x5 _ _ (xx _ _ z))
    have hst3 : G st = some (.tup []) := xG st _ (fun z' => by rw [← z'] at hx; rw [upd_same] at hx; cases hx) (x5 _ _ upd_same)
    have b3 := b2.mono e3
    have hR3 := e3 _ _ hR
    have e13 := e12.trans e3
    clear xx x5 x4 x3 x2 x1 hx hdx ne xG hba hq ham hst hpl b2 hR e12 e3
    show tIfS (kindIs 10) _ _ _ ([some (.int (k : Int)), some (.ref bk), some (.ref r1), some (.ref x)] : L2.St) G
    have cases13 : k = 10 ∨ k = 11 ∨ k = 12 ∨ k = 13 ∨ k = 14 ∨ k = 15 ∨ k = 16 ∨ k = 17 ∨ k = 18 ∨ k = 19 ∨ k = 20 ∨ k = 21 ∨ k = 22 := by omega
    rcases cases13 with rfl | rfl | rfl | rfl | rfl | rfl | rfl | rfl | rfl | rfl | rfl | rfl | rfl
    · skip
      refine s_if (b := true) (ev_kind rfl (by decide)) (fun _ H20 e20 => ?_) (fun z => by cases z)
      have eY := e20
      have rY := (rz.mono e13).mono eY
      refine ⟨by show 0 ≤ sizeLine; decide, fun p hp => ?_⟩
      exact ⟨.int 0, _, rfl, .no (kd_int 0) (by decide), (rY.mono (Ex.new hp)).z⟩
    · skip
      refine s_if (b := false) (ev_kind rfl (by decide)) (fun z => by cases z) (fun _ H20 e20 => ?_)
      refine s_if (b := true) (ev_kind rfl (by decide)) (fun _ H21 e21 => ?_) (fun z => by cases z)
      have eY := (e20.trans e21)
      have rY := (rz.mono e13).mono eY
      refine ⟨_, rfl, by show 0 ≤ sizeLine; decide, fun p hp => ?_⟩
      have hR5 := (eY.trans (Ex.new (o := .tup []) hp)) _ _ hR3
      exact ⟨r1, p, rfl, ru_one hR5, (nr_one hR5).1, (nr_one hR5).2, upd_same, (rY.mono (Ex.new hp)).z⟩
    · skip
      refine s_if (b := false) (ev_kind rfl (by decide)) (fun z => by cases z) (fun _ H20 e20 => ?_)
      refine s_if (b := false) (ev_kind rfl (by decide)) (fun z => by cases z) (fun _ H21 e21 => ?_)
      refine s_if (b := true) (ev_kind rfl (by decide)) (fun _ H22 e22 => ?_) (fun z => by cases z)
      have eY := ((e20.trans e21).trans e22)
      have rY := (rz.mono e13).mono eY
      refine ⟨by show 0 ≤ sizeLine; decide, fun p hp => ⟨by show 0 ≤ sizeLine; decide, fun p2 hp2 => ⟨by show 0 ≤ sizeLine; decide, fun p3 hp3 y dy hy hdy ne => ?_⟩⟩⟩
      have x5 := made_ex (C0 := Cq) hy hdy ne
      have x2 := (Ex.new (o := .tup []) hp2).trans (Ex.new (o := .tup []) hp3)
      have xx := ((Ex.new (o := .tup []) hp).trans x2).trans x5
      exact ⟨y, dy, .ref p, .ref p2, .ref p3, _, rfl, upd_same, .inl ⟨L 12, some .non, .books (.len ((x2.trans x5) _ _ upd_same) (.inl rfl) (by show 0 ≤ 100; decide)), (rY.mono xx).r _⟩⟩
    · skip
      refine s_if (b := false) (ev_kind rfl (by decide)) (fun z => by cases z) (fun _ H20 e20 => ?_)
      refine s_if (b := false) (ev_kind rfl (by decide)) (fun z => by cases z) (fun _ H21 e21 => ?_)
      refine s_if (b := false) (ev_kind rfl (by decide)) (fun z => by cases z) (fun _ H22 e22 => ?_)
      refine s_if (b := true) (ev_kind rfl (by decide)) (fun _ H23 e23 => ?_) (fun z => by cases z)
      have eY := (((e20.trans e21).trans e22).trans e23)
      have rY := (rz.mono e13).mono eY
      refine ⟨_, rfl, by show 1 ≤ sizeLine; decide, fun p hp => ⟨by show 0 ≤ sizeLine; decide, fun q2 oq hq hpl => ⟨by show 1 ≤ sizeLine; decide, fun p3 hp3 y dy hy hdy ne => ?_⟩⟩⟩
      have x5 := made_ex (C0 := Cq) hy hdy ne
      have x3 := Ex.new (o := .tup [.str sA1]) hp3
      have x2 := (Ex.new (o := .frz oq (.tup [])) hq).trans x3
      have xx := ((Ex.new (o := .tup [.ref bk]) hp).trans x2).trans x5
      exact ⟨y, dy, .ref p, .ref q2, .ref p3, _, rfl, upd_same, .inl ⟨L 13, none, .aims ((b3.mono (eY.trans xx)).bs ((x2.trans x5) _ _ upd_same)) (tq_nil ((x3.trans x5) _ _ upd_same) hpl).tr (av_no (x5 _ _ upd_same)), (rY.mono xx).r _⟩⟩
    · skip
      refine s_if (b := false) (ev_kind rfl (by decide)) (fun z => by cases z) (fun _ H20 e20 => ?_)
      refine s_if (b := false) (ev_kind rfl (by decide)) (fun z => by cases z) (fun _ H21 e21 => ?_)
      refine s_if (b := false) (ev_kind rfl (by decide)) (fun z => by cases z) (fun _ H22 e22 => ?_)
      refine s_if (b := false) (ev_kind rfl (by decide)) (fun z => by cases z) (fun _ H23 e23 => ?_)
      refine s_if (b := true) (ev_kind rfl (by decide)) (fun _ H24 e24 => ?_) (fun z => by cases z)
      have eY := ((((e20.trans e21).trans e22).trans e23).trans e24)
      have rY := (rz.mono e13).mono eY
      refine ⟨_, rfl, by show 1 ≤ sizeLine; decide, fun p hp => ⟨by show 0 ≤ sizeLine; decide, fun q2 oq hq hpl => ⟨by show 0 ≤ sizeLine; decide, fun p3 hp3 y dy hy hdy ne => ?_⟩⟩⟩
      have x5 := made_ex (C0 := Cq) hy hdy ne
      have x3 := Ex.new (o := .tup []) hp3
      have x2 := (Ex.new (o := .frz oq (.tup [])) hq).trans x3
      have xx := ((Ex.new (o := .tup [.ref bk]) hp).trans x2).trans x5
      exact ⟨y, dy, .ref p, .ref q2, .ref p3, _, rfl, upd_same, .inr ⟨[sM], p, [.ref bk], rfl, ⟨(b3.mono (eY.trans xx)).bs ((x2.trans x5) _ _ upd_same), tq_nil ((x3.trans x5) _ _ upd_same) hpl, av_nil (x5 _ _ upd_same)⟩, .inl ⟨wy_no, (rY.mono xx).r _⟩⟩⟩
    · skip
      refine s_if (b := false) (ev_kind rfl (by decide)) (fun z => by cases z) (fun _ H20 e20 => ?_)
      refine s_if (b := false) (ev_kind rfl (by decide)) (fun z => by cases z) (fun _ H21 e21 => ?_)
      refine s_if (b := false) (ev_kind rfl (by decide)) (fun z => by cases z) (fun _ H22 e22 => ?_)
      refine s_if (b := false) (ev_kind rfl (by decide)) (fun z => by cases z) (fun _ H23 e23 => ?_)
      refine s_if (b := false) (ev_kind rfl (by decide)) (fun z => by cases z) (fun _ H24 e24 => ?_)
      refine s_if (b := true) (ev_kind rfl (by decide)) (fun _ H25 e25 => ?_) (fun z => by cases z)
      have eY := (((((e20.trans e21).trans e22).trans e23).trans e24).trans e25)
      have rY := (rz.mono e13).mono eY
      refine ⟨_, rfl, by show 1 ≤ sizeLine; decide, fun p hp => ⟨by show 0 ≤ sizeLine; decide, fun q2 oq hq hpl => ⟨by show 0 ≤ sizeLine; decide, fun p3 hp3 y dy hy hdy ne => ?_⟩⟩⟩
      have x5 := made_ex (C0 := Cq) hy hdy ne
      have x3 := Ex.new (o := .tup []) hp3
      have x2 := (Ex.new (o := .frz oq (.tup [])) hq).trans x3
      have xx := ((Ex.new (o := .tup [.ref bk]) hp).trans x2)
      refine ⟨y, dy, .ref p, .ref q2, .ref p3, _, rfl, upd_same, .inr ⟨[sM], p, [.ref bk], rfl, ⟨(b3.mono (eY.trans (xx.trans x5))).bs ((x2.trans x5) _ _ upd_same), tq_nil ((x3.trans x5) _ _ upd_same) hpl, av_nil (x5 _ _ upd_same)⟩, .inr ⟨wy_wh, fun G5 xG bu => ⟨rfl, ?_⟩⟩⟩⟩
      have eG5 : ∀ a' o', (upd (upd (upd H25 p (.tup [.ref bk])) q2 (.frz oq (.tup []))) p3 (.tup [])) a' = some o' → G5 a' = some o' := fun a' o' z => xG a' o' (fun z' => by rw [z', hy] at z; cases z) (x5 _ _ z)
      have e5 : Ex H25 G5 := fun a' o' z => eG5 _ _ (xx _ _ z)
      obtain ⟨dy', bn, dn, gs, q1, q2', q3⟩ := id bu
      exact ⟨y, dy', _, rfl, q1, rfl, y, .int 0, p, [sM], [.ref bk], rfl, bu, (b3.mono (eY.trans e5)).bs (eG5 _ _ (x2 _ _ upd_same)), os_zero, (rY.mono e5).r _⟩
    · skip
      refine s_if (b := false) (ev_kind rfl (by decide)) (fun z => by cases z) (fun _ H20 e20 => ?_)
      refine s_if (b := false) (ev_kind rfl (by decide)) (fun z => by cases z) (fun _ H21 e21 => ?_)
      refine s_if (b := false) (ev_kind rfl (by decide)) (fun z => by cases z) (fun _ H22 e22 => ?_)
      refine s_if (b := false) (ev_kind rfl (by decide)) (fun z => by cases z) (fun _ H23 e23 => ?_)
      refine s_if (b := false) (ev_kind rfl (by decide)) (fun z => by cases z) (fun _ H24 e24 => ?_)
      refine s_if (b := false) (ev_kind rfl (by decide)) (fun z => by cases z) (fun _ H25 e25 => ?_)
      refine s_if (b := true) (ev_kind rfl (by decide)) (fun _ H26 e26 => ?_) (fun z => by cases z)
      have eY := ((((((e20.trans e21).trans e22).trans e23).trans e24).trans e25).trans e26)
      have rY := (rz.mono e13).mono eY
      refine ⟨_, rfl, by show 1 ≤ sizeLine; decide, fun p hp => ⟨by show 0 ≤ sizeLine; decide, fun q2 oq hq hpl => ⟨by show 0 ≤ sizeLine; decide, fun p3 hp3 => ⟨by show 1 ≤ sizeLine; decide, fun p4 hp4 y dy hy hdy ne => ?_⟩⟩⟩⟩
      have x5 := made_ex (C0 := Cp) hy hdy ne
      have x4 := Ex.new (o := .tup [.int 0]) hp4
      have x3 := (Ex.new (o := .tup []) hp3).trans x4
      have x2 := (Ex.new (o := .frz oq (.tup [])) hq).trans x3
      have xx := ((Ex.new (o := .tup [.ref bk]) hp).trans x2).trans x5
      exact ⟨y, dy, [sM], p, [.ref bk], .ref q2, .ref p3, .ref p4, _, rfl, upd_same, ⟨(b3.mono (eY.trans xx)).bs ((x2.trans x5) _ _ upd_same), tq_nil ((x3.trans x5) _ _ upd_same) hpl, av_nil ((x4.trans x5) _ _ upd_same)⟩, sts_bad (x5 _ _ upd_same), fun z => (by cases z), fun u _ => (rY.mono xx).i u⟩
    · skip
      refine s_if (b := false) (ev_kind rfl (by decide)) (fun z => by cases z) (fun _ H20 e20 => ?_)
      refine s_if (b := false) (ev_kind rfl (by decide)) (fun z => by cases z) (fun _ H21 e21 => ?_)
      refine s_if (b := false) (ev_kind rfl (by decide)) (fun z => by cases z) (fun _ H22 e22 => ?_)
      refine s_if (b := false) (ev_kind rfl (by decide)) (fun z => by cases z) (fun _ H23 e23 => ?_)
      refine s_if (b := false) (ev_kind rfl (by decide)) (fun z => by cases z) (fun _ H24 e24 => ?_)
      refine s_if (b := false) (ev_kind rfl (by decide)) (fun z => by cases z) (fun _ H25 e25 => ?_)
      refine s_if (b := false) (ev_kind rfl (by decide)) (fun z => by cases z) (fun _ H26 e26 => ?_)
      refine s_if (b := true) (ev_kind rfl (by decide)) (fun _ H27 e27 => ?_) (fun z => by cases z)
      have eY := (((((((e20.trans e21).trans e22).trans e23).trans e24).trans e25).trans e26).trans e27)
      have rY := (rz.mono e13).mono eY
      exact ⟨.int 0, .str sWh, L 17, rfl, .shop (kd_int 0), rY.z⟩
    · skip
      refine s_if (b := false) (ev_kind rfl (by decide)) (fun z => by cases z) (fun _ H20 e20 => ?_)
      refine s_if (b := false) (ev_kind rfl (by decide)) (fun z => by cases z) (fun _ H21 e21 => ?_)
      refine s_if (b := false) (ev_kind rfl (by decide)) (fun z => by cases z) (fun _ H22 e22 => ?_)
      refine s_if (b := false) (ev_kind rfl (by decide)) (fun z => by cases z) (fun _ H23 e23 => ?_)
      refine s_if (b := false) (ev_kind rfl (by decide)) (fun z => by cases z) (fun _ H24 e24 => ?_)
      refine s_if (b := false) (ev_kind rfl (by decide)) (fun z => by cases z) (fun _ H25 e25 => ?_)
      refine s_if (b := false) (ev_kind rfl (by decide)) (fun z => by cases z) (fun _ H26 e26 => ?_)
      refine s_if (b := false) (ev_kind rfl (by decide)) (fun z => by cases z) (fun _ H27 e27 => ?_)
      refine s_if (b := true) (ev_kind rfl (by decide)) (fun _ H28 e28 => ?_) (fun z => by cases z)
      have eY := ((((((((e20.trans e21).trans e22).trans e23).trans e24).trans e25).trans e26).trans e27).trans e28)
      have rY := (rz.mono e13).mono eY
      refine ⟨_, rfl, by show 1 ≤ sizeLine; decide, fun p hp => ?_⟩
      have x1 := Ex.new (o := .tup [.int 0]) hp
      exact ⟨.ref x, .str sWh, .ref p, L 18, rfl, .row (xs := []) (sh.mono (eY.trans x1)) (st_of ((eY.trans x1) _ _ hst3)) wy_wh (.one upd_same (.inl ⟨0, rfl⟩) (by decide)), (rY.mono x1).z⟩
    · skip
      refine s_if (b := false) (ev_kind rfl (by decide)) (fun z => by cases z) (fun _ H20 e20 => ?_)
      refine s_if (b := false) (ev_kind rfl (by decide)) (fun z => by cases z) (fun _ H21 e21 => ?_)
      refine s_if (b := false) (ev_kind rfl (by decide)) (fun z => by cases z) (fun _ H22 e22 => ?_)
      refine s_if (b := false) (ev_kind rfl (by decide)) (fun z => by cases z) (fun _ H23 e23 => ?_)
      refine s_if (b := false) (ev_kind rfl (by decide)) (fun z => by cases z) (fun _ H24 e24 => ?_)
      refine s_if (b := false) (ev_kind rfl (by decide)) (fun z => by cases z) (fun _ H25 e25 => ?_)
      refine s_if (b := false) (ev_kind rfl (by decide)) (fun z => by cases z) (fun _ H26 e26 => ?_)
      refine s_if (b := false) (ev_kind rfl (by decide)) (fun z => by cases z) (fun _ H27 e27 => ?_)
      refine s_if (b := false) (ev_kind rfl (by decide)) (fun z => by cases z) (fun _ H28 e28 => ?_)
      refine s_if (b := true) (ev_kind rfl (by decide)) (fun _ H29 e29 => ?_) (fun z => by cases z)
      have eY := (((((((((e20.trans e21).trans e22).trans e23).trans e24).trans e25).trans e26).trans e27).trans e28).trans e29)
      have rY := (rz.mono e13).mono eY
      refine ⟨by show 0 ≤ sizeLine; decide, fun p hp y dy hy hdy ne => ?_⟩
      have x5 := made_ex (C0 := Cst) hy hdy ne
      exact ⟨y, 21, _, .ref p, rfl, .inl ⟨by decide, rY.mono ((Ex.new (o := .tup []) hp).trans x5)⟩⟩
    · skip
      refine s_if (b := false) (ev_kind rfl (by decide)) (fun z => by cases z) (fun _ H20 e20 => ?_)
      refine s_if (b := false) (ev_kind rfl (by decide)) (fun z => by cases z) (fun _ H21 e21 => ?_)
      refine s_if (b := false) (ev_kind rfl (by decide)) (fun z => by cases z) (fun _ H22 e22 => ?_)
      refine s_if (b := false) (ev_kind rfl (by decide)) (fun z => by cases z) (fun _ H23 e23 => ?_)
      refine s_if (b := false) (ev_kind rfl (by decide)) (fun z => by cases z) (fun _ H24 e24 => ?_)
      refine s_if (b := false) (ev_kind rfl (by decide)) (fun z => by cases z) (fun _ H25 e25 => ?_)
      refine s_if (b := false) (ev_kind rfl (by decide)) (fun z => by cases z) (fun _ H26 e26 => ?_)
      refine s_if (b := false) (ev_kind rfl (by decide)) (fun z => by cases z) (fun _ H27 e27 => ?_)
      refine s_if (b := false) (ev_kind rfl (by decide)) (fun z => by cases z) (fun _ H28 e28 => ?_)
      refine s_if (b := false) (ev_kind rfl (by decide)) (fun z => by cases z) (fun _ H29 e29 => ?_)
      refine s_if (b := true) (ev_kind rfl (by decide)) (fun _ H30 e30 => ?_) (fun z => by cases z)
      have eY := ((((((((((e20.trans e21).trans e22).trans e23).trans e24).trans e25).trans e26).trans e27).trans e28).trans e29).trans e30)
      have rY := (rz.mono e13).mono eY
      refine ⟨by show 0 ≤ sizeLine; decide, fun p hp y dy hy hdy ne => ?_⟩
      have x5 := made_ex (C0 := Cst) hy hdy ne
      exact ⟨y, 1, _, .ref p, rfl, .inr ⟨by decide, kinds_w.2.2.1, .inl ⟨kinds_w.2.2.2, rY.mono ((Ex.new (o := .tup []) hp).trans x5)⟩⟩⟩
    · skip
      refine s_if (b := false) (ev_kind rfl (by decide)) (fun z => by cases z) (fun _ H20 e20 => ?_)
      refine s_if (b := false) (ev_kind rfl (by decide)) (fun z => by cases z) (fun _ H21 e21 => ?_)
      refine s_if (b := false) (ev_kind rfl (by decide)) (fun z => by cases z) (fun _ H22 e22 => ?_)
      refine s_if (b := false) (ev_kind rfl (by decide)) (fun z => by cases z) (fun _ H23 e23 => ?_)
      refine s_if (b := false) (ev_kind rfl (by decide)) (fun z => by cases z) (fun _ H24 e24 => ?_)
      refine s_if (b := false) (ev_kind rfl (by decide)) (fun z => by cases z) (fun _ H25 e25 => ?_)
      refine s_if (b := false) (ev_kind rfl (by decide)) (fun z => by cases z) (fun _ H26 e26 => ?_)
      refine s_if (b := false) (ev_kind rfl (by decide)) (fun z => by cases z) (fun _ H27 e27 => ?_)
      refine s_if (b := false) (ev_kind rfl (by decide)) (fun z => by cases z) (fun _ H28 e28 => ?_)
      refine s_if (b := false) (ev_kind rfl (by decide)) (fun z => by cases z) (fun _ H29 e29 => ?_)
      refine s_if (b := false) (ev_kind rfl (by decide)) (fun z => by cases z) (fun _ H30 e30 => ?_)
      refine s_if (b := true) (ev_kind rfl (by decide)) (fun _ H31 e31 => ?_) (fun z => by cases z)
      have eY := (((((((((((e20.trans e21).trans e22).trans e23).trans e24).trans e25).trans e26).trans e27).trans e28).trans e29).trans e30).trans e31)
      have rY := (rz.mono e13).mono eY
      refine ⟨by show 1 ≤ sizeLine; decide, fun p hp y dy hy hdy ne => ?_⟩
      have x5 := made_ex (C0 := Cst) hy hdy ne
      exact ⟨y, 1, _, .ref p, rfl, .inr ⟨by decide, kinds_w.1, .inr ⟨kinds_w.2.1, p, .int 0, "int", rfl, x5 _ _ upd_same, fun _ _ => kd_int 0, by decide, rY.mono ((Ex.new (o := .tup [.int 0]) hp).trans x5)⟩⟩⟩
    · skip
      refine s_if (b := false) (ev_kind rfl (by decide)) (fun z => by cases z) (fun _ H20 e20 => ?_)
      refine s_if (b := false) (ev_kind rfl (by decide)) (fun z => by cases z) (fun _ H21 e21 => ?_)
      refine s_if (b := false) (ev_kind rfl (by decide)) (fun z => by cases z) (fun _ H22 e22 => ?_)
      refine s_if (b := false) (ev_kind rfl (by decide)) (fun z => by cases z) (fun _ H23 e23 => ?_)
      refine s_if (b := false) (ev_kind rfl (by decide)) (fun z => by cases z) (fun _ H24 e24 => ?_)
      refine s_if (b := false) (ev_kind rfl (by decide)) (fun z => by cases z) (fun _ H25 e25 => ?_)
      refine s_if (b := false) (ev_kind rfl (by decide)) (fun z => by cases z) (fun _ H26 e26 => ?_)
      refine s_if (b := false) (ev_kind rfl (by decide)) (fun z => by cases z) (fun _ H27 e27 => ?_)
      refine s_if (b := false) (ev_kind rfl (by decide)) (fun z => by cases z) (fun _ H28 e28 => ?_)
      refine s_if (b := false) (ev_kind rfl (by decide)) (fun z => by cases z) (fun _ H29 e29 => ?_)
      refine s_if (b := false) (ev_kind rfl (by decide)) (fun z => by cases z) (fun _ H30 e30 => ?_)
      refine s_if (b := false) (ev_kind rfl (by decide)) (fun z => by cases z) (fun _ H31 e31 => ?_)
      have eY := (((((((((((e20.trans e21).trans e22).trans e23).trans e24).trans e25).trans e26).trans e27).trans e28).trans e29).trans e30).trans e31)
      have rY := (rz.mono e13).mono eY
      refine ⟨_, rfl, by show 0 ≤ sizeLine; decide, fun p hp => ⟨by show 0 ≤ sizeLine; decide, fun p2 hp2 => ?_⟩⟩
      have x2 := Ex.new (o := .tup []) hp2
      have xx := (Ex.new (o := .tup []) hp).trans x2
      have b5 := b3.mono (eY.trans xx)
      exact ⟨bk, t, [.ref r0], .ref p, p2, rfl, b5.b, b5.t, rfl, tr_nil (x2 _ _ upd_same), upd_same, rY.mono xx⟩
end
end Bt
namespace Bt
open PySem PySem.Spec PyProof.Rows L2 Bk Bm Evl Be Cr Kr Bp Bl TL
abbrev sCall : Stmt := top 152
abbrev sFirst : Stmt := top 153
abbrev sSecond : Stmt := top 154
abbrev sThird : Stmt := top 155
abbrev sLaw : Stmt := top 156
abbrev nKind : List Str := ["_law_kind", "_law_raised"]
abbrev nLaw : List Str := ["_law_script", "_law_row", "_law_turn", "_law_kind"]
def tSayI (n : Int) : Addr → Value → Option Addr → TS := fun _ _ _ => tAsg (tC (.int n)) (gName 1)
def clsI : List (Addr × Int) → List Cl
  | [] => []
  | (c, n) :: r => (.ref c, none, tSayI n) :: clsI r
theorem mix_pick {K : PySem.W.Frag} {Wo : WX} {D : Ends} {X : Addr} {oe : Option Addr} {σ : L2.St} {G : Hp} {n : Int} : ∀ js : List (Addr × Int), pick K X js = some n → D.nx (σ.set 1 (some (.int n))) G → wMix K Wo D (clsI js) (.ref X) oe σ G
  | [], h, _ => by cases h
  | (c, m) :: r, h, q => by
    have h' : (match PySem.W.exmOne K (.ref X) (.ref c) with | some true => some m | some false => pick K X r | none => none) = some n := h
    show ∃ b, PySem.W.exmOne K (.ref X) (.ref c) = some b ∧ (b = true → ∀ a, G a = none → tSayI m a (.ref X) oe D σ G) ∧ (b = false → wMix K Wo D (clsI r) (.ref X) oe σ G)
    generalize PySem.W.exmOne K (.ref X) (.ref c) = e at h' ⊢
    rcases e with _ | _ | _
    · cases h'
    · exact ⟨false, rfl, fun z => (by cases z), fun _ => mix_pick r h' q⟩
    · refine ⟨true, rfl, fun _ a _ => ?_, fun z => by cases z⟩
      injection h' with h'
      subst h'
      exact q
/-- the names of the errors -/
structure Ers (K : PySem.W.Frag) (mg : Str → Option Value) (L : Nat → Addr) (R : Addr) : Prop where
  g0 : mg "BadTree" = some (.ref (L 0))
  g1 : mg "BadPath" = some (.ref (L 1))
  g2 : mg "BadFolder" = some (.ref (L 2))
  g3 : mg "BadWords" = some (.ref (L 3))
  g4 : mg "Clash" = some (.ref (L 4))
  g5 : mg "Full" = some (.ref (L 5))
  g6 : mg "Absent" = some (.ref (L 6))
  g7 : mg "BadRules" = some (.ref (L 7))
  g8 : mg "BadBook" = some (.ref (L 8))
  g9 : mg "BadMade" = some (.ref (L 9))
  g10 : mg "BadRule" = some (.ref (L 10))
  g11 : mg "BadRecord" = some (.ref (L 11))
  g12 : mg "BadBooks" = some (.ref (L 12))
  g13 : mg "BadAims" = some (.ref (L 13))
  g14 : mg "BadWay" = some (.ref (L 14))
  g15 : mg "BadStep" = some (.ref (L 15))
  g16 : mg "BadSteps" = some (.ref (L 16))
  g17 : mg "BadShop" = some (.ref (L 17))
  g18 : mg "BadRow" = some (.ref (L 18))
  g19 : mg "BadNumber" = some (.ref (L 19))
  g20 : mg "BadKind" = some (.ref (L 20))
  g21 : mg "BadEntries" = some (.ref (L 21))
  g22 : mg "BadLengths" = some (.ref (L 22))
  gR : mg "RoomError" = some (.ref R)
  f : ∀ k, k < 23 → pick K (L k) (fstJ L R) = some (fstN k)
  s : ∀ k, k < 23 → pick K (L k) (sndJ L R) = some (sndN k)
  t : ∀ k, k < 23 → pick K (L k) (thdJ L R) = some (thdN k)
theorem nxt_raw {De : Ends} {σ : L2.St} {G : Hp} (h : De.nx σ G) : tNext De σ G := h
theorem rv_ltB {H : Hp} {i j : Int} : RV (rI0 fun i j => .bl (decide (i < j))) (.int i) (.int j) H (.bl (decide (i < j))) := rv_I0
theorem rv_gtB {H : Hp} {i j : Int} : RV (rI0 fun i j => .bl (decide (j < i))) (.int i) (.int j) H (.bl (decide (j < i))) := rv_I0
theorem ev_min2 {σ : L2.St} {H : Hp} {ta tb : TE} {i j : Int} (ha : Ev ta σ H (.int i)) (hb : Ev tb σ H (.int j)) : Ev (tCB (fun xs H Q => ∃ i j, xs = [V.int i, .int j] ∧ Q (.int (if j < i then j else i)) H) (tCons ta (tCons tb tNil))) σ H (.int (if j < i then j else i)) := fun H1 e1 Q q =>
  ha H1 e1 _ fun H2 e2 => hb H2 (e1.trans e2) _ fun H3 e3 => ⟨i, j, rfl, q H3 (e2.trans e3)⟩
section
variable {P : Program} {w : World} {K : PySem.W.Frag} {mg : Str → Option Value} {base : Heap} {R : Addr} {L : Nat → Addr}
theorem scCall : FnScope ["_law_kind"] ["_law_kind"] (defScope sCall) := ⟨rfl, rfl, rfl, by decide +kernel, rfl, by decide +kernel, by decide +kernel⟩
theorem scFirst : FnScope nKind ["_law_kind"] (defScope sFirst) := ⟨rfl, rfl, rfl, by decide +kernel, rfl, by decide +kernel, by decide +kernel⟩
theorem scSecond : FnScope nKind ["_law_kind"] (defScope sSecond) := ⟨rfl, rfl, rfl, by decide +kernel, rfl, by decide +kernel, by decide +kernel⟩
theorem scThird : FnScope nKind ["_law_kind"] (defScope sThird) := ⟨rfl, rfl, rfl, by decide +kernel, rfl, by decide +kernel, by decide +kernel⟩
theorem scLaw : FnScope nLaw ["_law_script"] (defScope sLaw) := ⟨rfl, rfl, rfl, by decide +kernel, rfl, by decide +kernel, by decide +kernel⟩
def spCall (L : Nat → Addr) : Sp := fun vs H Q E => ∃ k : Nat, vs = [.int (k : Int)] ∧ k < 23 ∧ RzA (L k) H E
theorem ok_call {f : Addr} {fd : FuncData} (F : Fun K "_law_call" "_law_call" sCall f fd) (cP : Cal P w K mg base (L2.CX P w) 9 "_law_paths" ["_law_kind"] (spPaths L)) (cR : Cal P w K mg base (L2.CX P w) 9 "_law_rooms" ["_law_kind"] (spRooms L)) :
    FnOk P w K mg base (L2.CX P w) 10 f fd ["_law_kind"] (spCall L) := by
  refine F.okX scCall (fun vs H Q E h => ?_) (fun cdv A outer s H vs Q E hr h => ?_)
  · obtain ⟨k, rfl, _⟩ := h
    rfl
  · obtain ⟨k, rfl, hk, rz⟩ := h
    refine ⟨_, pss_one (ps_if (pt_cmpR op_lt (pv 0) pe_int (nomark _)) (pss_one (ps_expr (pe_call cP.F hr (by rfl) cP.g cP.kp cP.b .nil (lets (takes_of rfl rfl rfl rfl)) (pa_cons (pv 0) pa_nil))))
      (pss_one (ps_expr (pe_call cR.F hr (by rfl) cR.g cR.kp cR.b .nil (lets (takes_of rfl rfl rfl rfl)) (pa_cons (pv 0) pa_nil))))), ?_⟩
    refine s_if (b := decide ((k : Int) < 10)) (et_test (ev_op (ev_var rfl) ev_c rv_ltB)) (fun hb H1 e1 => ?_) (fun hb H1 e1 => ?_)
    · have hb' : (k : Int) < 10 := of_decide_eq_true hb
      exact ⟨_, rfl, k, rfl, by omega, rz.mono e1⟩
    · have hb' : ¬ (k : Int) < 10 := of_decide_eq_false hb
      exact ⟨_, rfl, k, rfl, by omega, hk, rz.mono e1⟩
def spTell (f : Nat → Int) : Sp := fun vs H Q _ => ∃ k : Nat, vs = [.int (k : Int)] ∧ k < 23 ∧ ∀ G, Ex H G → Q (.int (f k)) G
theorem ok_first {f : Addr} {fd : FuncData} (F : Fun K "_law_first" "_law_first" sFirst f fd) (X : Ers K mg L R) (cC : Cal P w K mg base (L2.CX P w) 10 "_law_call" ["_law_kind"] (spCall L)) :
    FnOk P w K mg base CX0 11 f fd ["_law_kind"] (spTell fstN) := by
  refine F.ok scFirst (fun vs H Q E h => ?_) (fun cdv A outer s H vs Q E hr h => ?_)
  · obtain ⟨k, rfl, _⟩ := h
    rfl
  · obtain ⟨k, rfl, hk, q⟩ := h
    refine ⟨_, pss_cons (ps_set (i := 1) scFirst.nd rfl (Or.inl rfl) pe_non)
      (pss_cons (ps_try_mix (l := clsI (fstJ L R)) (Wo := fun _ _ _ _ => False) (tb := fun W => tDrop (tCallS (spCall L) (WE W) (tCons (tVar 0) tNil))) rfl rfl scFirst.nd takes0
        (fun W pn xe tk _ => pss_one (ps_expr (pe_callS cC.F hr (by rfl) cC.g cC.kp cC.b (fun σ => passAt tk σ) (by exact (pa_cons (pv 0) pa_nil)))))
        (.bare ⟨rfl, by decide, .inl X.g0⟩ (fun a oe cls d pn hz hf => pss_one (ps_set (i := 1) scFirst.nd rfl (Or.inl rfl) pe_int))
        (.bare ⟨rfl, by decide, .inl X.g1⟩ (fun a oe cls d pn hz hf => pss_one (ps_set (i := 1) scFirst.nd rfl (Or.inl rfl) pe_int))
        (.bare ⟨rfl, by decide, .inl X.g2⟩ (fun a oe cls d pn hz hf => pss_one (ps_set (i := 1) scFirst.nd rfl (Or.inl rfl) pe_int))
        (.bare ⟨rfl, by decide, .inl X.g3⟩ (fun a oe cls d pn hz hf => pss_one (ps_set (i := 1) scFirst.nd rfl (Or.inl rfl) pe_int))
        (.bare ⟨rfl, by decide, .inl X.g4⟩ (fun a oe cls d pn hz hf => pss_one (ps_set (i := 1) scFirst.nd rfl (Or.inl rfl) pe_int))
        (.bare ⟨rfl, by decide, .inl X.g5⟩ (fun a oe cls d pn hz hf => pss_one (ps_set (i := 1) scFirst.nd rfl (Or.inl rfl) pe_int))
        (.bare ⟨rfl, by decide, .inl X.g6⟩ (fun a oe cls d pn hz hf => pss_one (ps_set (i := 1) scFirst.nd rfl (Or.inl rfl) pe_int))
        (.bare ⟨rfl, by decide, .inl X.g7⟩ (fun a oe cls d pn hz hf => pss_one (ps_set (i := 1) scFirst.nd rfl (Or.inl rfl) pe_int))
        (.bare ⟨rfl, by decide, .inl X.g8⟩ (fun a oe cls d pn hz hf => pss_one (ps_set (i := 1) scFirst.nd rfl (Or.inl rfl) pe_int))
        (.bare ⟨rfl, by decide, .inl X.g9⟩ (fun a oe cls d pn hz hf => pss_one (ps_set (i := 1) scFirst.nd rfl (Or.inl rfl) pe_int))
        (.bare ⟨rfl, by decide, .inl X.gR⟩ (fun a oe cls d pn hz hf => pss_one (ps_set (i := 1) scFirst.nd rfl (Or.inl rfl) pe_int)) .nil))))))))))))
      (pss_one (ps_ret (pv 1)))), ?_⟩
    refine q_asg ev_c fun H1 e1 => ?_
    exact ⟨_, rfl, k, rfl, hk, fun oe G e2 => mix_pick _ (X.f k hk) ⟨_, rfl, q G (e1.trans e2)⟩⟩
theorem ok_second {f : Addr} {fd : FuncData} (F : Fun K "_law_second" "_law_second" sSecond f fd) (X : Ers K mg L R) (cC : Cal P w K mg base (L2.CX P w) 10 "_law_call" ["_law_kind"] (spCall L)) :
    FnOk P w K mg base CX0 11 f fd ["_law_kind"] (spTell sndN) := by
  refine F.ok scSecond (fun vs H Q E h => ?_) (fun cdv A outer s H vs Q E hr h => ?_)
  · obtain ⟨k, rfl, _⟩ := h
    rfl
  · obtain ⟨k, rfl, hk, q⟩ := h
    refine ⟨_, pss_cons (ps_set (i := 1) scSecond.nd rfl (Or.inl rfl) pe_non)
      (pss_cons (ps_try_mix (l := clsI (sndJ L R)) (Wo := fun _ _ _ _ => False) (tb := fun W => tDrop (tCallS (spCall L) (WE W) (tCons (tVar 0) tNil))) rfl rfl scSecond.nd takes0
        (fun W pn xe tk _ => pss_one (ps_expr (pe_callS cC.F hr (by rfl) cC.g cC.kp cC.b (fun σ => passAt tk σ) (by exact (pa_cons (pv 0) pa_nil)))))
        (.bare ⟨rfl, by decide, .inl X.g10⟩ (fun a oe cls d pn hz hf => pss_one (ps_set (i := 1) scSecond.nd rfl (Or.inl rfl) pe_int))
        (.bare ⟨rfl, by decide, .inl X.g11⟩ (fun a oe cls d pn hz hf => pss_one (ps_set (i := 1) scSecond.nd rfl (Or.inl rfl) pe_int))
        (.bare ⟨rfl, by decide, .inl X.g12⟩ (fun a oe cls d pn hz hf => pss_one (ps_set (i := 1) scSecond.nd rfl (Or.inl rfl) pe_int))
        (.bare ⟨rfl, by decide, .inl X.g13⟩ (fun a oe cls d pn hz hf => pss_one (ps_set (i := 1) scSecond.nd rfl (Or.inl rfl) pe_int))
        (.bare ⟨rfl, by decide, .inl X.g14⟩ (fun a oe cls d pn hz hf => pss_one (ps_set (i := 1) scSecond.nd rfl (Or.inl rfl) pe_int))
        (.bare ⟨rfl, by decide, .inl X.g15⟩ (fun a oe cls d pn hz hf => pss_one (ps_set (i := 1) scSecond.nd rfl (Or.inl rfl) pe_int))
        (.bare ⟨rfl, by decide, .inl X.g16⟩ (fun a oe cls d pn hz hf => pss_one (ps_set (i := 1) scSecond.nd rfl (Or.inl rfl) pe_int))
        (.bare ⟨rfl, by decide, .inl X.g17⟩ (fun a oe cls d pn hz hf => pss_one (ps_set (i := 1) scSecond.nd rfl (Or.inl rfl) pe_int))
        (.bare ⟨rfl, by decide, .inl X.g18⟩ (fun a oe cls d pn hz hf => pss_one (ps_set (i := 1) scSecond.nd rfl (Or.inl rfl) pe_int))
        (.bare ⟨rfl, by decide, .inl X.gR⟩ (fun a oe cls d pn hz hf => pss_one (ps_set (i := 1) scSecond.nd rfl (Or.inl rfl) pe_int)) .nil)))))))))))
      (pss_one (ps_ret (pv 1)))), ?_⟩
    refine q_asg ev_c fun H1 e1 => ?_
    exact ⟨_, rfl, k, rfl, hk, fun oe G e2 => mix_pick _ (X.s k hk) ⟨_, rfl, q G (e1.trans e2)⟩⟩
theorem ok_third {f : Addr} {fd : FuncData} (F : Fun K "_law_third" "_law_third" sThird f fd) (X : Ers K mg L R) (cC : Cal P w K mg base (L2.CX P w) 10 "_law_call" ["_law_kind"] (spCall L)) :
    FnOk P w K mg base CX0 11 f fd ["_law_kind"] (spTell thdN) := by
  refine F.ok scThird (fun vs H Q E h => ?_) (fun cdv A outer s H vs Q E hr h => ?_)
  · obtain ⟨k, rfl, _⟩ := h
    rfl
  · obtain ⟨k, rfl, hk, q⟩ := h
    refine ⟨_, pss_cons (ps_set (i := 1) scThird.nd rfl (Or.inl rfl) pe_non)
      (pss_cons (ps_try_mix (l := clsI (thdJ L R)) (Wo := fun _ _ _ _ => False) (tb := fun W => tDrop (tCallS (spCall L) (WE W) (tCons (tVar 0) tNil))) rfl rfl scThird.nd takes0
        (fun W pn xe tk _ => pss_one (ps_expr (pe_callS cC.F hr (by rfl) cC.g cC.kp cC.b (fun σ => passAt tk σ) (by exact (pa_cons (pv 0) pa_nil)))))
        (.bare ⟨rfl, by decide, .inl X.g19⟩ (fun a oe cls d pn hz hf => pss_one (ps_set (i := 1) scThird.nd rfl (Or.inl rfl) pe_int))
        (.bare ⟨rfl, by decide, .inl X.g20⟩ (fun a oe cls d pn hz hf => pss_one (ps_set (i := 1) scThird.nd rfl (Or.inl rfl) pe_int))
        (.bare ⟨rfl, by decide, .inl X.g21⟩ (fun a oe cls d pn hz hf => pss_one (ps_set (i := 1) scThird.nd rfl (Or.inl rfl) pe_int))
        (.bare ⟨rfl, by decide, .inl X.g22⟩ (fun a oe cls d pn hz hf => pss_one (ps_set (i := 1) scThird.nd rfl (Or.inl rfl) pe_int))
        (.bare ⟨rfl, by decide, .inl X.gR⟩ (fun a oe cls d pn hz hf => pss_one (ps_set (i := 1) scThird.nd rfl (Or.inl rfl) pe_int)) .nil))))))
      (pss_one (ps_ret (pv 1)))), ?_⟩
    refine q_asg ev_c fun H1 e1 => ?_
    exact ⟨_, rfl, k, rfl, hk, fun oe G e2 => mix_pick _ (X.t k hk) ⟨_, rfl, q G (e1.trans e2)⟩⟩
/-! ### the law -/
theorem ev_tell {σ : L2.St} {H : Hp} {f : Nat → Int} {te : TE} {k : Nat} (h : Ev te σ H (.int (k : Int))) (hk : k < 23) : Ev (tCall (spTell f) [] E0 (tCons te tNil)) σ H (.int (f k)) := fun H1 e1 Q q =>
  h H1 e1 _ fun H2 e2 => ⟨k, rfl, hk, fun G e3 => q G (e2.trans e3)⟩
theorem ev_same {σ : L2.St} {H : Hp} {ta tb : TE} {i : Int} (ha : Ev ta σ H (.int i)) (hb : Ev tb σ H (.int i)) : EvT (tTest (tOp rNe ta tb)) σ H false :=
  et_is (et_test (ev_op (x := .int i) (y := .int i) ha hb (rv_ne rfl))) (by simp)
def spLaw (K : PySem.W.Frag) : Sp := fun vs H Q _ => ∃ (a : Addr) (ns : List Int), vs = [.ref a] ∧ Sc K H a ns ∧ ∀ H', Q (.bl true) H'
theorem ok_law {f : Addr} {fd : FuncData} (F : Fun K "law" "law" sLaw f fd) (T : Gv mg) (gm : mg "min" = none)
    (cT : Cal P w K mg base CX0 1 "_law_taken" ["_law_row", "_law_many"] (spTaken (K := K))) (c1 : Cal P w K mg base CX0 11 "_law_first" ["_law_kind"] (spTell fstN)) (c2 : Cal P w K mg base CX0 11 "_law_second" ["_law_kind"] (spTell sndN)) (c3 : Cal P w K mg base CX0 11 "_law_third" ["_law_kind"] (spTell thdN)) :
    FnOk P w K mg base CX0 12 f fd ["_law_script"] (spLaw K) := by
  refine F.ok scLaw (fun vs H Q E h => ?_) (fun cdv A0 outer s0 H vs Q E hr h => ?_)
  · obtain ⟨a, ns, rfl, _⟩ := h
    rfl
  · obtain ⟨a, ns, rfl, sc, k⟩ := h
    have hr1 : Room 1 _ := hr.mono (by decide)
    refine ⟨_, pss_cons (ps_set (i := 1) scLaw.nd rfl (Or.inl rfl) (pe_lst (pa_cons (pv 0) (pa_cons pe_int (pa_cons pe_int (pa_cons pe_int pa_nil))))))
      (pss_cons (ps_for PassesOwn.never rfl (pi_range1 (by rfl) T.rng (pa_cons pe_int pa_nil)) (pg_name (i := 2) scLaw.nd rfl (Or.inl rfl))
        (pss_cons (ps_set (i := 3) scLaw.nd rfl (Or.inl rfl) (pe_call cT.F hr1 (by rfl) cT.g cT.kp cT.b .nil pass0 (pa_cons (pv 1) (pa_cons pe_int pa_nil))))
        (pss_cons (ps_if (pw_or (pt_cmpR op_ne (pe_call c1.F hr (by rfl) c1.g c1.kp c1.b .nil pass0 (pa_cons (pv 3) pa_nil)) (pe_callB (call_min2 (by rfl)) (by rfl) gm PyProof.Rows.boot_min (pa_cons (pv 3) (pa_cons pe_int pa_nil))) (nomark _))
            (pw_or1 (pt_cmpR op_ne (pe_call c3.F hr (by rfl) c3.g c3.kp c3.b .nil pass0 (pa_cons (pv 3) pa_nil)) (pe_ifExp (pt_cmpR op_gt (pv 3) pe_int (nomark _)) (pv 3) pe_int) (nomark _)))).pt (pss_one (ps_ret pe_bl)) pss_nil)
        (pss_one (ps_if (pt_cmpR op_ne (pe_call c2.F hr (by rfl) c2.g c2.kp c2.b .nil pass0 (pa_cons (pv 3) pa_nil)) (pe_ifExp (pt_chain op_lt op_lt pe_int (pv 3) pe_int) (pv 3) pe_int) (nomark _)) (pss_one (ps_ret pe_bl)) pss_nil)))))
      (pss_one (ps_ret pe_bl))), ?_⟩
    refine q_asgL (xs := rowL a 0 1092 0) (el_lst (ea_cons (ev_var rfl) (ea_cons ev_c (ea_cons ev_c (ea_cons ev_c ea_nil)))) (by show 4 ≤ 100000; decide)) fun r H1 hr0 e1 h1 => ?_
    have row1 : Row K H1 r := ⟨a, 0, 1092, 0, ns, h1, sc.ex e1, Int.le_refl _⟩
    refine ⟨12, rfl, by decide, by decide, for_range (lo := 0) (n := (12 : Int).toNat) (fun i τ G => ∃ (u2 u3 : Option V), τ = [some (.ref a), some (.ref r), u2, u3] ∧ Row K G r)
      ⟨none, none, rfl, row1⟩ ?_ (fun τ G _ => k G)⟩
    rintro i τ G0 hi ⟨u2, u3, rfl, row⟩
    refine q_raw (draw (ev_var rfl) ev_c row (by decide) (by decide) fun n G1 hn0 hn d => ?_)
    obtain ⟨k, rfl⟩ : ∃ k : Nat, n = (k : Int) := ⟨n.toNat, by omega⟩
    have hk : k < 23 := by omega
    have row1 := d.row
    show tSeq (tIfS _ _ _) _ _ ([some (.ref a), some (.ref r), some (.int (0 + (i : Nat))), some (.int (k : Int))] : L2.St) G1
    have hv : ∀ {G : Hp}, Ev (tVar 3) ([some (.ref a), some (.ref r), some (.int (0 + (i : Nat))), some (.int (k : Int))] : L2.St) G (.int (k : Int)) := ev_var rfl
    have t1 : fstN k = (if (10 : Int) < (k : Int) then 10 else (k : Int)) := rfl
    refine s_if (b := false) ?_ (fun z => by cases z) (fun _ G2 e2 => ?_)
    · refine et_is (et_or (a := false) (b := false) (ev_same (i := fstN k) (ev_tell hv hk) (ev_min2 hv ev_c)) (fun _ => ev_same (i := thdN k) (ev_tell hv hk) (ev_if (b := decide ((18 : Int) < (k : Int))) (et_test (ev_op hv ev_c rv_gtB)) (fun hb => ?_) (fun hb => ?_)))) rfl
      · have hb' : (18 : Int) < (k : Int) := of_decide_eq_true hb
        have t : thdN k = (k : Int) := if_pos (by omega)
        rw [t]
        exact hv
      · have hb' : ¬ (18 : Int) < (k : Int) := of_decide_eq_false hb
        have t : thdN k = 0 := if_neg (by omega)
        rw [t]
        exact ev_c
    have row2 := row1.ex e2
    refine nxt_raw ?_
    dsimp only
    show tIfS _ _ _ _ ([some (.ref a), some (.ref r), some (.int (0 + (i : Nat))), some (.int (k : Int))] : L2.St) G2
    refine s_if (b := false) ?_ (fun z => by cases z) (fun _ G3 e3 => ?_)
    · refine ev_same (i := sndN k) (ev_tell hv hk) (ev_if (b := decide ((9 : Int) < (k : Int)) && decide ((k : Int) < 19)) (et_test (ev_chain ev_c hv rv_ltB (fun _ => ev_c) (fun _ => rv_ltB))) (fun hb => ?_) (fun hb => ?_))
      · have hb' : (9 : Int) < (k : Int) ∧ (k : Int) < 19 := by simpa using hb
        have t : sndN k = (k : Int) := if_pos (by omega)
        rw [t]
        exact hv
      · have hb' : ¬ ((9 : Int) < (k : Int) ∧ (k : Int) < 19) := by simpa using hb
        have t : sndN k = 0 := if_neg (by omega)
        rw [t]
        exact ev_c
    exact ⟨_, _, rfl, row2.ex e3⟩
end
end Bt
namespace Bt
open PySem PySem.Spec PyProof.Rows L2 Bk Bm Evl Be Cr Kr Bp Bl TL
theorem kt_at {K : PySem.W.Frag} {T : Addr} (h2 : PySem.W.isClsIn K T = true) (h3 : PySem.W.typeIn K (.ref T) = some (.type "type")) (h4 : PySem.W.subIn K (.type "tuple") (.ref T) = some false) : PySem.W.kitOne K (.type "tuple") (.ref T) = some false := by
  have e2 : ((PySem.W.clsIn K T).isSome && PySem.W.typeIn K (.ref T) == some (.type "type")) = true := by
    have h2' : (PySem.W.clsIn K T).isSome = true := h2
    rw [h2', h3]
    rfl
  show (if (Value.type "tuple" == Value.ref T) = true then some true else (if ((PySem.W.clsIn K T).isSome && PySem.W.typeIn K (.ref T) == some (.type "type")) = true then PySem.W.subIn K (.type "tuple") (.ref T) else none)) = some false
  rw [if_neg (by simp), if_pos e2]
  exact h4
theorem nf_at {K : PySem.W.Frag} {T : Addr} (h4 : PySem.W.subIn K (.type "tuple") (.ref T) = some false) : PySem.W.notFirst K T (.type "tuple") = true := by
  unfold PySem.W.notFirst
  rw [h4]
  simp
theorem xnB_ok {K : PySem.W.Frag} {mg : Str → Option Value} {C i : Addr} (h : (xnB K C i).all id = true) (g : mg "BadNumber" = some (.ref C)) : Xn K mg "BadNumber" C i :=
  ⟨g, ⟨Hk.oexB_ok (Hk.all_at h 0), He.eqO_ok (Hk.all_at h 1), of_decide_eq_true (Hk.all_at h 2), of_decide_eq_true (Hk.all_at h 3), Hk.all_at h 4⟩, He.eqO_ok (Hk.all_at h 5), He.eqO_ok (Hk.all_at h 6), of_decide_eq_true (Hk.all_at h 7)⟩
theorem facts {P : Program} {w : World} {K : PySem.W.Frag} {h : Heap} {mg : Str → Option Value} {f : Addr} (X : K.In h) (G : h.Ns mainGlobals mg) (hfa : mg ("law" : Str) = some (.ref f)) (c : Hk.SaysY faL fnL tsL exL w K) :
    ∃ fd : FuncData, (∀ (s : Shared) (v : Value), BindsTo s fd ⟨[v], []⟩ [("_law_script", v)]) ∧ ∀ base : Heap, K.In base → base.Ns mainGlobals mg → FnOk P w K mg base CX0 12 f fd ["_law_script"] (spLaw K) := by
  have e := hfa.symm.trans (He.glo_ok X G (c.fact 165 (f := .glo "law") rfl))
  cases e
  obtain ⟨fd_is_name, F_is_name⟩ := c.def_ 0 (d := d0) rfl
  have F_is_name : Fun K "is_name" "is_name" sIsName (He.ga K "is_name") fd_is_name := F_is_name
  have b_is_name := F_is_name.binds (ps := ["word"]) fun _ _ _ _ _ _ us hl => match us, hl with | [_], _ => rfl
  obtain ⟨fd_is_path, F_is_path⟩ := c.def_ 1 (d := d1) rfl
  have F_is_path : Fun K "is_path" "is_path" sIsPath (He.ga K "is_path") fd_is_path := F_is_path
  have b_is_path := F_is_path.binds (ps := ["value"]) fun _ _ _ _ _ _ us hl => match us, hl with | [_], _ => rfl
  obtain ⟨fd_is_folder, F_is_folder⟩ := c.def_ 2 (d := d2) rfl
  have F_is_folder : Fun K "is_folder" "is_folder" sIsFolder (He.ga K "is_folder") fd_is_folder := F_is_folder
  have b_is_folder := F_is_folder.binds (ps := ["value"]) fun _ _ _ _ _ _ us hl => match us, hl with | [_], _ => rfl
  obtain ⟨fd_has_signs, F_has_signs⟩ := c.def_ 3 (d := d3) rfl
  have F_has_signs : Fun K "has_signs" "has_signs" sHas (He.ga K "has_signs") fd_has_signs := F_has_signs
  have b_has_signs := F_has_signs.binds (ps := ["value", "most"]) fun _ _ _ _ _ _ us hl => match us, hl with | [_, _], _ => rfl
  obtain ⟨fd_is_text, F_is_text⟩ := c.def_ 4 (d := d4) rfl
  have F_is_text : Fun K "is_text" "is_text" sIsText (He.ga K "is_text") fd_is_text := F_is_text
  have b_is_text := F_is_text.binds (ps := ["value"]) fun _ _ _ _ _ _ us hl => match us, hl with | [_], _ => rfl
  obtain ⟨fd_is_file, F_is_file⟩ := c.def_ 5 (d := d5) rfl
  have F_is_file : Fun K "is_file" "is_file" sIsFile (He.ga K "is_file") fd_is_file := F_is_file
  have b_is_file := F_is_file.binds (ps := ["value"]) fun _ _ _ _ _ _ us hl => match us, hl with | [_], _ => rfl
  obtain ⟨fd_lies_within, F_lies_within⟩ := c.def_ 6 (d := d6) rfl
  have F_lies_within : Fun K "lies_within" "lies_within" sLies (He.ga K "lies_within") fd_lies_within := F_lies_within
  have b_lies_within := F_lies_within.binds (ps := ["path", "folder"]) fun _ _ _ _ _ _ us hl => match us, hl with | [_, _], _ => rfl
  obtain ⟨fd_in_the_way, F_in_the_way⟩ := c.def_ 7 (d := d7) rfl
  have F_in_the_way : Fun K "in_the_way" "in_the_way" sWay (He.ga K "in_the_way") fd_in_the_way := F_in_the_way
  have b_in_the_way := F_in_the_way.binds (ps := ["one", "other"]) fun _ _ _ _ _ _ us hl => match us, hl with | [_, _], _ => rfl
  obtain ⟨fd_may_follow, F_may_follow⟩ := c.def_ 8 (d := d8) rfl
  have F_may_follow : Fun K "may_follow" "may_follow" sFollow (He.ga K "may_follow") fd_may_follow := F_may_follow
  have b_may_follow := F_may_follow.binds (ps := ["path", "files"]) fun _ _ _ _ _ _ us hl => match us, hl with | [_, _], _ => rfl
  obtain ⟨fd_check_tree, F_check_tree⟩ := c.def_ 9 (d := d9) rfl
  have F_check_tree : Fun K "check_tree" "check_tree" sCkTree (He.ga K "check_tree") fd_check_tree := F_check_tree
  have b_check_tree := F_check_tree.binds (ps := ["value"]) fun _ _ _ _ _ _ us hl => match us, hl with | [_], _ => rfl
  obtain ⟨fd_is_word, F_is_word⟩ := c.def_ 10 (d := d10) rfl
  have F_is_word : Fun K "is_word" "is_word" sIsWord (He.ga K "is_word") fd_is_word := F_is_word
  have b_is_word := F_is_word.binds (ps := ["value"]) fun _ _ _ _ _ _ us hl => match us, hl with | [_], _ => rfl
  obtain ⟨fd_fits, F_fits⟩ := c.def_ 11 (d := d11) rfl
  have F_fits : Fun K "fits" "fits" sFits (He.ga K "fits") fd_fits := F_fits
  have b_fits := F_fits.binds (ps := ["form", "value"]) fun _ _ _ _ _ _ us hl => match us, hl with | [_, _], _ => rfl
  obtain ⟨fd_is_rule, F_is_rule⟩ := c.def_ 12 (d := d12) rfl
  have F_is_rule : Fun K "is_rule" "is_rule" sIsRule (He.ga K "is_rule") fd_is_rule := F_is_rule
  have b_is_rule := F_is_rule.binds (ps := ["value"]) fun _ _ _ _ _ _ us hl => match us, hl with | [_], _ => rfl
  obtain ⟨fd_check_rules, F_check_rules⟩ := c.def_ 13 (d := d13) rfl
  have F_check_rules : Fun K "check_rules" "check_rules" sCkRules (He.ga K "check_rules") fd_check_rules := F_check_rules
  have b_check_rules := F_check_rules.binds (ps := ["value"]) fun _ _ _ _ _ _ us hl => match us, hl with | [_], _ => rfl
  obtain ⟨fd_check_book, F_check_book⟩ := c.def_ 14 (d := d14) rfl
  have F_check_book : Fun K "check_book" "check_book" sCkBook (He.ga K "check_book") fd_check_book := F_check_book
  have b_check_book := F_check_book.binds (ps := ["value"]) fun _ _ _ _ _ _ us hl => match us, hl with | [_], _ => rfl
  obtain ⟨fd_made_paths, F_made_paths⟩ := c.def_ 15 (d := d15) rfl
  have F_made_paths : Fun K "made_paths" "made_paths" sMade (He.ga K "made_paths") fd_made_paths := F_made_paths
  have b_made_paths := F_made_paths.binds (ps := ["book"]) fun _ _ _ _ _ _ us hl => match us, hl with | [_], _ => rfl
  obtain ⟨fd_is_from_to, F_is_from_to⟩ := c.def_ 16 (d := d16) rfl
  have F_is_from_to : Fun K "is_from_to" "is_from_to" sFrom (He.ga K "is_from_to") fd_is_from_to := F_is_from_to
  have b_is_from_to := F_is_from_to.binds (ps := ["value", "least", "most"]) fun _ _ _ _ _ _ us hl => match us, hl with | [_, _, _], _ => rfl
  obtain ⟨fd_is_step, F_is_step⟩ := c.def_ 17 (d := d17) rfl
  have F_is_step : Fun K "is_step" "is_step" sIsStep (He.ga K "is_step") fd_is_step := F_is_step
  have b_is_step := F_is_step.binds (ps := ["value", "books"]) fun _ _ _ _ _ _ us hl => match us, hl with | [_, _], _ => rfl
  obtain ⟨fd_has_step_form, F_has_step_form⟩ := c.def_ 18 (d := d18) rfl
  have F_has_step_form : Fun K "has_step_form" "has_step_form" sHasForm (He.ga K "has_step_form") fd_has_step_form := F_has_step_form
  have b_has_step_form := F_has_step_form.binds (ps := ["value", "many"]) fun _ _ _ _ _ _ us hl => match us, hl with | [_, _], _ => rfl
  obtain ⟨fd_fits_step, F_fits_step⟩ := c.def_ 19 (d := d19) rfl
  have F_fits_step : Fun K "fits_step" "fits_step" sFitS (He.ga K "fits_step") fd_fits_step := F_fits_step
  have b_fits_step := F_fits_step.binds (ps := ["form", "value", "many"]) fun _ _ _ _ _ _ us hl => match us, hl with | [_, _, _], _ => rfl
  obtain ⟨fd_step_paths, F_step_paths⟩ := c.def_ 20 (d := d20) rfl
  have F_step_paths : Fun K "step_paths" "step_paths" sStepPaths (He.ga K "step_paths") fd_step_paths := F_step_paths
  have b_step_paths := F_step_paths.binds (ps := ["step"]) fun _ _ _ _ _ _ us hl => match us, hl with | [_], _ => rfl
  obtain ⟨fd_are_aims, F_are_aims⟩ := c.def_ 21 (d := d21) rfl
  have F_are_aims : Fun K "are_aims" "are_aims" sAims (He.ga K "are_aims") fd_are_aims := F_are_aims
  have b_are_aims := F_are_aims.binds (ps := ["value", "books"]) fun _ _ _ _ _ _ us hl => match us, hl with | [_, _], _ => rfl
  obtain ⟨fd_are_ascending, F_are_ascending⟩ := c.def_ 22 (d := d22) rfl
  have F_are_ascending : Fun K "are_ascending" "are_ascending" sAsd (He.ga K "are_ascending") fd_are_ascending := F_are_ascending
  have b_are_ascending := F_are_ascending.binds (ps := ["row"]) fun _ _ _ _ _ _ us hl => match us, hl with | [_], _ => rfl
  obtain ⟨fd_check_books, F_check_books⟩ := c.def_ 23 (d := d23) rfl
  have F_check_books : Fun K "check_books" "check_books" sCkBooks (He.ga K "check_books") fd_check_books := F_check_books
  have b_check_books := F_check_books.binds (ps := ["value"]) fun _ _ _ _ _ _ us hl => match us, hl with | [_], _ => rfl
  obtain ⟨fd_check_aims, F_check_aims⟩ := c.def_ 24 (d := d24) rfl
  have F_check_aims : Fun K "check_aims" "check_aims" sCkAims (He.ga K "check_aims") fd_check_aims := F_check_aims
  have b_check_aims := F_check_aims.binds (ps := ["value", "books"]) fun _ _ _ _ _ _ us hl => match us, hl with | [_, _], _ => rfl
  obtain ⟨fd_check_way, F_check_way⟩ := c.def_ 25 (d := d25) rfl
  have F_check_way : Fun K "check_way" "check_way" sCkWay (He.ga K "check_way") fd_check_way := F_check_way
  have b_check_way := F_check_way.binds (ps := ["value"]) fun _ _ _ _ _ _ us hl => match us, hl with | [_], _ => rfl
  obtain ⟨fd__law_taken, F__law_taken⟩ := c.def_ 26 (d := d26) rfl
  have F__law_taken : Fun K "_law_taken" "_law_taken" Bl.sTaken (He.ga K "_law_taken") fd__law_taken := F__law_taken
  have b__law_taken := F__law_taken.binds (ps := ["_law_row", "_law_many"]) fun _ _ _ _ _ _ us hl => match us, hl with | [_, _], _ => rfl
  obtain ⟨fd_check_path, F_check_path⟩ := c.def_ 27 (d := d27) rfl
  have F_check_path : Fun K "check_path" "check_path" sCkPath (He.ga K "check_path") fd_check_path := F_check_path
  have b_check_path := F_check_path.binds (ps := ["value"]) fun _ _ _ _ _ _ us hl => match us, hl with | [_], _ => rfl
  obtain ⟨fd_check_folder, F_check_folder⟩ := c.def_ 28 (d := d28) rfl
  have F_check_folder : Fun K "check_folder" "check_folder" sCkFolder (He.ga K "check_folder") fd_check_folder := F_check_folder
  have b_check_folder := F_check_folder.binds (ps := ["value"]) fun _ _ _ _ _ _ us hl => match us, hl with | [_], _ => rfl
  obtain ⟨fd_check_words, F_check_words⟩ := c.def_ 29 (d := d29) rfl
  have F_check_words : Fun K "check_words" "check_words" sCkWords (He.ga K "check_words") fd_check_words := F_check_words
  have b_check_words := F_check_words.binds (ps := ["value"]) fun _ _ _ _ _ _ us hl => match us, hl with | [_], _ => rfl
  obtain ⟨fd_text_at, F_text_at⟩ := c.def_ 30 (d := d30) rfl
  have F_text_at : Fun K "text_at" "text_at" sTextAt (He.ga K "text_at") fd_text_at := F_text_at
  have b_text_at := F_text_at.binds (ps := ["tree", "path"]) fun _ _ _ _ _ _ us hl => match us, hl with | [_, _], _ => rfl
  obtain ⟨fd_names_in, F_names_in⟩ := c.def_ 31 (d := d31) rfl
  have F_names_in : Fun K "names_in" "names_in" sNamesIn (He.ga K "names_in") fd_names_in := F_names_in
  have b_names_in := F_names_in.binds (ps := ["tree", "folder"]) fun _ _ _ _ _ _ us hl => match us, hl with | [_, _], _ => rfl
  obtain ⟨fd_put, F_put⟩ := c.def_ 32 (d := d32) rfl
  have F_put : Fun K "put" "put" sPut (He.ga K "put") fd_put := F_put
  have b_put := F_put.binds (ps := ["tree", "path", "text"]) fun _ _ _ _ _ _ us hl => match us, hl with | [_, _, _], _ => rfl
  obtain ⟨fd_taken, F_taken⟩ := c.def_ 33 (d := d33) rfl
  have F_taken : Fun K "taken" "taken" sTakenP (He.ga K "taken") fd_taken := F_taken
  have b_taken := F_taken.binds (ps := ["tree", "path"]) fun _ _ _ _ _ _ us hl => match us, hl with | [_, _], _ => rfl
  obtain ⟨fd_check_made, F_check_made⟩ := c.def_ 34 (d := d34) rfl
  have F_check_made : Fun K "check_made" "check_made" sCkMade (He.ga K "check_made") fd_check_made := F_check_made
  have b_check_made := F_check_made.binds (ps := ["book", "value"]) fun _ _ _ _ _ _ us hl => match us, hl with | [_, _], _ => rfl
  obtain ⟨fd_run, F_run⟩ := c.def_ 35 (d := d35) rfl
  have F_run : Fun K "run" "run" sRun (He.ga K "run") fd_run := F_run
  have b_run := F_run.binds (ps := ["book", "tree", "made"]) fun _ _ _ _ _ _ us hl => match us, hl with | [_, _, _], _ => rfl
  obtain ⟨fd_build_for, F_build_for⟩ := c.def_ 36 (d := d36) rfl
  have F_build_for : Fun K "build_for" "build_for" sBuildFor (He.ga K "build_for") fd_build_for := F_build_for
  have b_build_for := F_build_for.binds (ps := ["book", "tree", "made"]) fun _ _ _ _ _ _ us hl => match us, hl with | [_, _, _], _ => rfl
  obtain ⟨fd_check_steps, F_check_steps⟩ := c.def_ 37 (d := d37) rfl
  have F_check_steps : Fun K "check_steps" "check_steps" sCkSteps (He.ga K "check_steps") fd_check_steps := F_check_steps
  have b_check_steps := F_check_steps.binds (ps := ["value", "books"]) fun _ _ _ _ _ _ us hl => match us, hl with | [_, _], _ => rfl
  obtain ⟨fd_check_shop, F_check_shop⟩ := c.def_ 38 (d := d38) rfl
  have F_check_shop : Fun K "check_shop" "check_shop" sCkShop (He.ga K "check_shop") fd_check_shop := F_check_shop
  have b_check_shop := F_check_shop.binds (ps := ["value"]) fun _ _ _ _ _ _ us hl => match us, hl with | [_], _ => rfl
  obtain ⟨fd_check_row, F_check_row⟩ := c.def_ 39 (d := d39) rfl
  have F_check_row : Fun K "check_row" "check_row" sCkRow (He.ga K "check_row") fd_check_row := F_check_row
  have b_check_row := F_check_row.binds (ps := ["shop", "way", "value"]) fun _ _ _ _ _ _ us hl => match us, hl with | [_, _, _], _ => rfl
  obtain ⟨fd_first_wrong, F_first_wrong⟩ := c.def_ 40 (d := d40) rfl
  have F_first_wrong : Fun K "first_wrong" "first_wrong" sFW (He.ga K "first_wrong") fd_first_wrong := F_first_wrong
  have b_first_wrong := F_first_wrong.binds (ps := ["shop", "way"]) fun _ _ _ _ _ _ us hl => match us, hl with | [_, _], _ => rfl
  obtain ⟨fd_follow, F_follow⟩ := c.def_ 41 (d := d41) rfl
  have F_follow : Fun K "follow" "follow" sFol (He.ga K "follow") fd_follow := F_follow
  have b_follow := F_follow.binds (ps := ["shop", "way", "row"]) fun _ _ _ _ _ _ us hl => match us, hl with | [_, _, _], _ => rfl
  obtain ⟨fd_is_stopped, F_is_stopped⟩ := c.def_ 42 (d := d42) rfl
  have F_is_stopped : Fun K "is_stopped" "is_stopped" sStopped (He.ga K "is_stopped") fd_is_stopped := F_is_stopped
  have b_is_stopped := F_is_stopped.binds (ps := ["looks"]) fun _ _ _ _ _ _ us hl => match us, hl with | [_], _ => rfl
  obtain ⟨fd_places_known, F_places_known⟩ := c.def_ 43 (d := d43) rfl
  have F_places_known : Fun K "places_known" "places_known" sPlaces (He.ga K "places_known") fd_places_known := F_places_known
  have b_places_known := F_places_known.binds (ps := ["rule", "looks"]) fun _ _ _ _ _ _ us hl => match us, hl with | [_, _], _ => rfl
  obtain ⟨fd_next_place, F_next_place⟩ := c.def_ 44 (d := d44) rfl
  have F_next_place : Fun K "next_place" "next_place" sNext (He.ga K "next_place") fd_next_place := F_next_place
  have b_next_place := F_next_place.binds (ps := ["rule", "looks"]) fun _ _ _ _ _ _ us hl => match us, hl with | [_, _], _ => rfl
  obtain ⟨fd_is_record, F_is_record⟩ := c.def_ 45 (d := d45) rfl
  have F_is_record : Fun K "is_record" "is_record" sIsRec (He.ga K "is_record") fd_is_record := F_is_record
  have b_is_record := F_is_record.binds (ps := ["rule", "value"]) fun _ _ _ _ _ _ us hl => match us, hl with | [_, _], _ => rfl
  obtain ⟨fd_check_rule, F_check_rule⟩ := c.def_ 46 (d := d46) rfl
  have F_check_rule : Fun K "check_rule" "check_rule" sCkRule (He.ga K "check_rule") fd_check_rule := F_check_rule
  have b_check_rule := F_check_rule.binds (ps := ["value"]) fun _ _ _ _ _ _ us hl => match us, hl with | [_], _ => rfl
  obtain ⟨fd_check_record, F_check_record⟩ := c.def_ 47 (d := d47) rfl
  have F_check_record : Fun K "check_record" "check_record" sCkRec (He.ga K "check_record") fd_check_record := F_check_record
  have b_check_record := F_check_record.binds (ps := ["rule", "value"]) fun _ _ _ _ _ _ us hl => match us, hl with | [_, _], _ => rfl
  obtain ⟨fd_right_record, F_right_record⟩ := c.def_ 48 (d := d48) rfl
  have F_right_record : Fun K "right_record" "right_record" sRightR (He.ga K "right_record") fd_right_record := F_right_record
  have b_right_record := F_right_record.binds (ps := ["rule", "value"]) fun _ _ _ _ _ _ us hl => match us, hl with | [_, _], _ => rfl
  obtain ⟨fd_told_by, F_told_by⟩ := c.def_ 49 (d := d49) rfl
  have F_told_by : Fun K "told_by" "told_by" sToldBy (He.ga K "told_by") fd_told_by := F_told_by
  have b_told_by := F_told_by.binds (ps := ["rule", "record"]) fun _ _ _ _ _ _ us hl => match us, hl with | [_, _], _ => rfl
  obtain ⟨fd_true_entry, F_true_entry⟩ := c.def_ 50 (d := d50) rfl
  have F_true_entry : Fun K "true_entry" "true_entry" sTrueE (He.ga K "true_entry") fd_true_entry := F_true_entry
  have b_true_entry := F_true_entry.binds (ps := ["value"]) fun _ _ _ _ _ _ us hl => match us, hl with | [_], _ => rfl
  obtain ⟨fd_check_entries, F_check_entries⟩ := c.def_ 51 (d := d51) rfl
  have F_check_entries : Fun K "check_entries" "check_entries" sCkEnt (He.ga K "check_entries") fd_check_entries := F_check_entries
  have b_check_entries := F_check_entries.binds (ps := ["value"]) fun _ _ _ _ _ _ us hl => match us, hl with | [_], _ => rfl
  obtain ⟨fd_check_lengths, F_check_lengths⟩ := c.def_ 52 (d := d52) rfl
  have F_check_lengths : Fun K "check_lengths" "check_lengths" sCkLen (He.ga K "check_lengths") fd_check_lengths := F_check_lengths
  have b_check_lengths := F_check_lengths.binds (ps := ["book", "value"]) fun _ _ _ _ _ _ us hl => match us, hl with | [_, _], _ => rfl
  obtain ⟨fd_plan_of, F_plan_of⟩ := c.def_ 53 (d := d53) rfl
  have F_plan_of : Fun K "plan_of" "plan_of" sPlanOf (He.ga K "plan_of") fd_plan_of := F_plan_of
  have b_plan_of := F_plan_of.binds (ps := ["book", "tree", "lengths"]) fun _ _ _ _ _ _ us hl => match us, hl with | [_, _, _], _ => rfl
  obtain ⟨fd__law_paths, F__law_paths⟩ := c.def_ 54 (d := d54) rfl
  have F__law_paths : Fun K "_law_paths" "_law_paths" sPaths (He.ga K "_law_paths") fd__law_paths := F__law_paths
  have b__law_paths := F__law_paths.binds (ps := ["_law_kind"]) fun _ _ _ _ _ _ us hl => match us, hl with | [_], _ => rfl
  obtain ⟨fd__law_rooms, F__law_rooms⟩ := c.def_ 55 (d := d55) rfl
  have F__law_rooms : Fun K "_law_rooms" "_law_rooms" sRooms (He.ga K "_law_rooms") fd__law_rooms := F__law_rooms
  have b__law_rooms := F__law_rooms.binds (ps := ["_law_kind"]) fun _ _ _ _ _ _ us hl => match us, hl with | [_], _ => rfl
  obtain ⟨fd__law_call, F__law_call⟩ := c.def_ 56 (d := d56) rfl
  have F__law_call : Fun K "_law_call" "_law_call" sCall (He.ga K "_law_call") fd__law_call := F__law_call
  have b__law_call := F__law_call.binds (ps := ["_law_kind"]) fun _ _ _ _ _ _ us hl => match us, hl with | [_], _ => rfl
  obtain ⟨fd__law_first, F__law_first⟩ := c.def_ 57 (d := d57) rfl
  have F__law_first : Fun K "_law_first" "_law_first" sFirst (He.ga K "_law_first") fd__law_first := F__law_first
  have b__law_first := F__law_first.binds (ps := ["_law_kind"]) fun _ _ _ _ _ _ us hl => match us, hl with | [_], _ => rfl
  obtain ⟨fd__law_second, F__law_second⟩ := c.def_ 58 (d := d58) rfl
  have F__law_second : Fun K "_law_second" "_law_second" sSecond (He.ga K "_law_second") fd__law_second := F__law_second
  have b__law_second := F__law_second.binds (ps := ["_law_kind"]) fun _ _ _ _ _ _ us hl => match us, hl with | [_], _ => rfl
  obtain ⟨fd__law_third, F__law_third⟩ := c.def_ 59 (d := d59) rfl
  have F__law_third : Fun K "_law_third" "_law_third" sThird (He.ga K "_law_third") fd__law_third := F__law_third
  have b__law_third := F__law_third.binds (ps := ["_law_kind"]) fun _ _ _ _ _ _ us hl => match us, hl with | [_], _ => rfl
  obtain ⟨fd_law, F_law⟩ := c.def_ 60 (d := d60) rfl
  have F_law : Fun K "law" "law" sLaw (He.ga K "law") fd_law := F_law
  have b_law := F_law.binds (ps := ["_law_script"]) fun _ _ _ _ _ _ us hl => match us, hl with | [_], _ => rfl
  have T : Gv mg := ⟨(He.free_ok X G (c.fact 0 (f := .free "len") rfl)), (He.free_ok X G (c.fact 1 (f := .free "all") rfl)), (He.free_ok X G (c.fact 2 (f := .free "any") rfl)), (He.free_ok X G (c.fact 3 (f := .free "isinstance") rfl)), (He.free_ok X G (c.fact 4 (f := .free "str") rfl)), (He.free_ok X G (c.fact 5 (f := .free "tuple") rfl)), (He.free_ok X G (c.fact 6 (f := .free "list") rfl)), (He.free_ok X G (c.fact 7 (f := .free "int") rfl)), (He.free_ok X G (c.fact 8 (f := .free "range") rfl)), (He.free_ok X G (c.fact 9 (f := .free "enumerate") rfl)), (He.int_ok X G (c.fact 10 (f := .int "MOST_NAMES" 3) rfl)), (He.int_ok X G (c.fact 11 (f := .int "LONGEST_NAME" 6) rfl)), (He.int_ok X G (c.fact 12 (f := .int "LONGEST_TEXT" 200) rfl)), (He.free_ok X G (c.fact 13 (f := .free "zip") rfl)), (He.free_ok X G (c.fact 14 (f := .free "sorted") rfl)), (He.free_ok X G (c.fact 15 (f := .free "max") rfl)), (He.int_ok X G (c.fact 16 (f := .int "MOST_RULES" 8) rfl)), (He.int_ok X G (c.fact 17 (f := .int "MOST_JOINED" 4) rfl)), (He.int_ok X G (c.fact 18 (f := .int "LONGEST_WORD" 8) rfl)), (He.int_ok X G (c.fact 19 (f := .int "MOST_FILES" 20) rfl))⟩
  obtain ⟨fdI, FI⟩ := c.def_ 61 (d := d61) rfl
  have FI : Fun K "__init__" "Book.__init__" sInit (He.ma K (He.ga K "Book") "__init__") fdI := FI
  have bI := FI.binds (ps := ["self", "rules"]) fun _ _ _ _ _ _ us hl => match us, hl with | [_, _], _ => rfl
  obtain ⟨fdG, FG⟩ := c.def_ 62 (d := d62) rfl
  have FG : Fun K "rules" "Book.rules" sGet (Hk.prG K (He.ma K (He.ga K "Book") "rules")) fdG := FG
  have bG := FG.binds (ps := ["self"]) fun _ _ _ _ _ _ us hl => match us, hl with | [_], _ => rfl
  obtain ⟨fdX, FX⟩ := c.def_ 63 (d := d63) rfl
  have FX : Fun K "__init__" "BadRules.__init__" Bp.sBtI (He.ma K (He.ga K "BadRules") "__init__") fdX := FX
  have bX := FX.binds (ps := ["self", "index"]) fun _ _ _ _ _ _ us hl => match us, hl with | [_, _], _ => rfl
  obtain ⟨fdW, FW⟩ := c.def_ 64 (d := d64) rfl
  have FW : Fun K "__init__" "BadTree.__init__" sBtI (He.ma K (He.ga K "BadTree") "__init__") fdW := FW
  have bW := FW.binds (ps := ["self", "index"]) fun _ _ _ _ _ _ us hl => match us, hl with | [_, _], _ => rfl
  have xi_ := Hk.xiB_ok (c.more 0 (x := (Hk.xiB K (He.ga K "BadRules") (He.ma K (He.ga K "BadRules") "__init__")).all id) rfl)
  have xi : Xi K mg "BadRules" (He.ga K "BadRules") (He.ma K (He.ga K "BadRules") "__init__") := ⟨(He.glo_ok X G (c.fact 20 (f := .glo "BadRules") rfl)), xi_.o, xi_.f, xi_.n, xi_.i, xi_.t⟩
  have xt_ := Hk.xiB_ok (c.more 1 (x := (Hk.xiB K (He.ga K "BadTree") (He.ma K (He.ga K "BadTree") "__init__")).all id) rfl)
  have xt : Xi K mg "BadTree" (He.ga K "BadTree") (He.ma K (He.ga K "BadTree") "__init__") := ⟨(He.glo_ok X G (c.fact 21 (f := .glo "BadTree") rfl)), xt_.o, xt_.f, xt_.n, xt_.i, xt_.t⟩
  have ow := Hk.ownB_ok (c.more 2 (x := (Hk.ownB K (He.ga K "Book")).all id) rfl)
  have B : Bks K mg (He.ga K "Book") (He.ma K (He.ga K "Book") "__init__") (He.ma K (He.ga K "Book") "rules") (Hk.prG K (He.ma K (He.ga K "Book") "rules")) (He.ma K (He.ga K "Book") "__len__") (He.ma K (He.ga K "Book") "__eq__") := ⟨(He.glo_ok X G (c.fact 22 (f := .glo "Book") rfl)), (He.cls_ok (c.fact 23 (f := .cls "Book") rfl)), (He.mkr_ok (c.fact 24 (f := .mkr "Book") rfl)), (He.noat_ok (c.fact 25 (f := .noat "Book" "_rules") rfl)), Hk.prB_ok (c.more 3 (x := (Hk.prB K (He.ga K "Book") "rules").all id) rfl), (He.eqO_ok (c.more 4 (x := He.eqO (PySem.W.findIn K (.ref (He.ga K "Book")) "__len__") (some (some (.ref (He.ma K (He.ga K "Book") "__len__"))))) rfl)), (c.more 5 (x := PySem.W.isFn K (.ref (He.ma K (He.ga K "Book") "__len__"))) rfl), (He.eqO_ok (c.more 6 (x := He.eqO (PySem.W.findIn K (.ref (He.ga K "Book")) "__eq__") (some (some (.ref (He.ma K (He.ga K "Book") "__eq__"))))) rfl)), (c.more 7 (x := PySem.W.isFn K (.ref (He.ma K (He.ga K "Book") "__eq__"))) rfl), nf_at ow.st, ow.ha, ow.hn, ow.ht, ow.hm, kt_at ow.ic ow.ty ow.st⟩
  obtain ⟨esFm, nFm, kdFm⟩ := c.tab 0 (t := t0) rfl
  have Fm : Fms K w mg (He.ga K "FORMS") esFm nFm := ⟨(He.glo_ok X G (c.fact 26 (f := .glo "FORMS") rfl)), kdFm, fun z hz => by
    have hz' : z = Str.ofString "Size" ∨ z = Str.ofString "join" ∨ z = Str.ofString "size" ∨ z = Str.ofString "sort" ∨ z = Str.ofString "pick" ∨ z = Str.ofString "names" ∨ z = Str.ofString "use" ∨ z = Str.ofString "choose" ∨ z = Str.ofString "need" := by
      revert z
      decide +kernel
    rcases hz' with rfl | rfl | rfl | rfl | rfl | rfl | rfl | rfl | rfl
    · have e : formOf (Str.ofString "Size") = none := by decide +kernel
      rw [e]
      exact (He.eqO_ok (c.more 8 (x := He.eqO (PySem.W.nsIn K (He.ga K "FORMS") "Size") (some none)) rfl))
    · have e : formOf (Str.ofString "join") = some [Str.ofString "paths"] := by decide +kernel
      rw [e]
      exact Hk.dtB_ok (c.more 9 (x := Hk.dtB K (He.ga K "FORMS") "join" [Str.ofString "paths"]) rfl)
    · have e : formOf (Str.ofString "size") = some [Str.ofString "path"] := by decide +kernel
      rw [e]
      exact Hk.dtB_ok (c.more 10 (x := Hk.dtB K (He.ga K "FORMS") "size" [Str.ofString "path"]) rfl)
    · have e : formOf (Str.ofString "sort") = some [Str.ofString "path"] := by decide +kernel
      rw [e]
      exact Hk.dtB_ok (c.more 11 (x := Hk.dtB K (He.ga K "FORMS") "sort" [Str.ofString "path"]) rfl)
    · have e : formOf (Str.ofString "pick") = some [Str.ofString "path", Str.ofString "word"] := by decide +kernel
      rw [e]
      exact Hk.dtB_ok (c.more 12 (x := Hk.dtB K (He.ga K "FORMS") "pick" [Str.ofString "path", Str.ofString "word"]) rfl)
    · have e : formOf (Str.ofString "names") = some [Str.ofString "folder"] := by decide +kernel
      rw [e]
      exact Hk.dtB_ok (c.more 13 (x := Hk.dtB K (He.ga K "FORMS") "names" [Str.ofString "folder"]) rfl)
    · have e : formOf (Str.ofString "use") = some [Str.ofString "path"] := by decide +kernel
      rw [e]
      exact Hk.dtB_ok (c.more 14 (x := Hk.dtB K (He.ga K "FORMS") "use" [Str.ofString "path"]) rfl)
    · have e : formOf (Str.ofString "choose") = some [Str.ofString "path", Str.ofString "path", Str.ofString "path"] := by decide +kernel
      rw [e]
      exact Hk.dtB_ok (c.more 15 (x := Hk.dtB K (He.ga K "FORMS") "choose" [Str.ofString "path", Str.ofString "path", Str.ofString "path"]) rfl)
    · have e : formOf (Str.ofString "need") = some [Str.ofString "path", Str.ofString "word"] := by decide +kernel
      rw [e]
      exact Hk.dtB_ok (c.more 16 (x := Hk.dtB K (He.ga K "FORMS") "need" [Str.ofString "path", Str.ofString "word"]) rfl)
    ⟩
  obtain ⟨fdY, FY⟩ := c.def_ 65 (d := d65) rfl
  have FY : Fun K "__init__" "BadBooks.__init__" sBbI (He.ma K (He.ga K "BadBooks") "__init__") fdY := FY
  have bY := FY.binds (ps := ["self", "index"]) fun _ _ _ _ _ _ us hl => match us, hl with | [_, _], _ => rfl
  have xb_ := Hk.xiB_ok (c.more 17 (x := (Hk.xiB K (He.ga K "BadBooks") (He.ma K (He.ga K "BadBooks") "__init__")).all id) rfl)
  have xb : Xi K mg "BadBooks" (He.ga K "BadBooks") (He.ma K (He.ga K "BadBooks") "__init__") := ⟨(He.glo_ok X G (c.fact 27 (f := .glo "BadBooks") rfl)), xb_.o, xb_.f, xb_.n, xb_.i, xb_.t⟩
  have xa_ := He.exc_ok (c.fact 28 (f := .exc "BadAims") rfl)
  have xa : Xc K mg "BadAims" (He.ga K "BadAims") := ⟨(He.glo_ok X G (c.fact 29 (f := .glo "BadAims") rfl)), xa_.1, xa_.2.1, xa_.2.2.1, xa_.2.2.2⟩
  have xw_ := He.exc_ok (c.fact 30 (f := .exc "BadWay") rfl)
  have xw : Xc K mg "BadWay" (He.ga K "BadWay") := ⟨(He.glo_ok X G (c.fact 31 (f := .glo "BadWay") rfl)), xw_.1, xw_.2.1, xw_.2.2.1, xw_.2.2.2⟩
  obtain ⟨esSm, nSm, kdSm⟩ := c.tab 1 (t := t1) rfl
  have Sm : Stp K w mg (He.ga K "STEP_FORMS") esSm nSm := ⟨(He.glo_ok X G (c.fact 32 (f := .glo "STEP_FORMS") rfl)), kdSm, fun z hz => by
    have hz' : z = Str.ofString "Build" ∨ z = Str.ofString "write" ∨ z = Str.ofString "back" ∨ z = Str.ofString "drop" ∨ z = Str.ofString "touch" ∨ z = Str.ofString "spoil" ∨ z = Str.ofString "lose" ∨ z = Str.ofString "forget" ∨ z = Str.ofString "swap" ∨ z = Str.ofString "build" ∨ z = Str.ofString "cut" := by
      revert z
      decide +kernel
    rcases hz' with rfl | rfl | rfl | rfl | rfl | rfl | rfl | rfl | rfl | rfl | rfl
    · have e : stepOf (Str.ofString "Build") = none := by decide +kernel
      rw [e]
      exact (He.eqO_ok (c.more 18 (x := He.eqO (PySem.W.nsIn K (He.ga K "STEP_FORMS") "Build") (some none)) rfl))
    · have e : stepOf (Str.ofString "write") = some [Str.ofString "file", Str.ofString "text"] := by decide +kernel
      rw [e]
      exact Hk.dtB_ok (c.more 19 (x := Hk.dtB K (He.ga K "STEP_FORMS") "write" [Str.ofString "file", Str.ofString "text"]) rfl)
    · have e : stepOf (Str.ofString "back") = some [Str.ofString "file", Str.ofString "text"] := by decide +kernel
      rw [e]
      exact Hk.dtB_ok (c.more 20 (x := Hk.dtB K (He.ga K "STEP_FORMS") "back" [Str.ofString "file", Str.ofString "text"]) rfl)
    · have e : stepOf (Str.ofString "drop") = some [Str.ofString "file"] := by decide +kernel
      rw [e]
      exact Hk.dtB_ok (c.more 21 (x := Hk.dtB K (He.ga K "STEP_FORMS") "drop" [Str.ofString "file"]) rfl)
    · have e : stepOf (Str.ofString "touch") = some [Str.ofString "file"] := by decide +kernel
      rw [e]
      exact Hk.dtB_ok (c.more 22 (x := Hk.dtB K (He.ga K "STEP_FORMS") "touch" [Str.ofString "file"]) rfl)
    · have e : stepOf (Str.ofString "spoil") = some [Str.ofString "made", Str.ofString "text"] := by decide +kernel
      rw [e]
      exact Hk.dtB_ok (c.more 23 (x := Hk.dtB K (He.ga K "STEP_FORMS") "spoil" [Str.ofString "made", Str.ofString "text"]) rfl)
    · have e : stepOf (Str.ofString "lose") = some [Str.ofString "made"] := by decide +kernel
      rw [e]
      exact Hk.dtB_ok (c.more 24 (x := Hk.dtB K (He.ga K "STEP_FORMS") "lose" [Str.ofString "made"]) rfl)
    · have e : stepOf (Str.ofString "forget") = some [Str.ofString "made"] := by decide +kernel
      rw [e]
      exact Hk.dtB_ok (c.more 25 (x := Hk.dtB K (He.ga K "STEP_FORMS") "forget" [Str.ofString "made"]) rfl)
    · have e : stepOf (Str.ofString "swap") = some [Str.ofString "book"] := by decide +kernel
      rw [e]
      exact Hk.dtB_ok (c.more 26 (x := Hk.dtB K (He.ga K "STEP_FORMS") "swap" [Str.ofString "book"]) rfl)
    · have e : stepOf (Str.ofString "build") = some [] := by decide +kernel
      rw [e]
      exact Hk.dtB_ok (c.more 27 (x := Hk.dtB K (He.ga K "STEP_FORMS") "build" []) rfl)
    · have e : stepOf (Str.ofString "cut") = some [Str.ofString "run"] := by decide +kernel
      rw [e]
      exact Hk.dtB_ok (c.more 28 (x := Hk.dtB K (He.ga K "STEP_FORMS") "cut" [Str.ofString "run"]) rfl)
    ⟩
  have Wy_ : Wys K mg (He.ga K "WAYS") := ⟨(He.glo_ok X G (c.fact 33 (f := .glo "WAYS") rfl)), fun H => Hk.seqB_ok (c.more 29 (x := Hk.seqB K (He.ga K "WAYS") (waysH.map V.str)) rfl) H⟩
  obtain ⟨fdZ, FZ⟩ := c.def_ 66 (d := d66) rfl
  have FZ : Fun K "__init__" "BadSteps.__init__" sBsI (He.ma K (He.ga K "BadSteps") "__init__") fdZ := FZ
  have bZ := FZ.binds (ps := ["self", "index"]) fun _ _ _ _ _ _ us hl => match us, hl with | [_, _], _ => rfl
  obtain ⟨fdBE, FBE⟩ := c.def_ 67 (d := d67) rfl
  have FBE : Fun K "__init__" "BadEntries.__init__" sBeI (He.ma K (He.ga K "BadEntries") "__init__") fdBE := FBE
  have bBE := FBE.binds (ps := ["self", "index"]) fun _ _ _ _ _ _ us hl => match us, hl with | [_, _], _ => rfl
  obtain ⟨fdBN, FBN⟩ := c.def_ 68 (d := d68) rfl
  have FBN : Fun K "__init__" "BadNumber.__init__" sBnI (He.ma K (He.ga K "BadNumber") "__init__") fdBN := FBN
  have bBN := FBN.binds (ps := ["self", "n"]) fun _ _ _ _ _ _ us hl => match us, hl with | [_, _], _ => rfl
  obtain ⟨fdST, FST⟩ := c.def_ 69 (d := d69) rfl
  have FST : Fun K "__init__" "Store.__init__" sStoreI (He.ma K (He.ga K "Store") "__init__") fdST := FST
  have bST := FST.binds (ps := ["self", "room", "kind", "entries"]) fun _ _ _ _ _ _ us hl => match us, hl with | [_, _, _, _], _ => rfl
  obtain ⟨fdLN, FLN⟩ := c.def_ 70 (d := d70) rfl
  have FLN : Fun K "__len__" "Book.__len__" sLen (He.ma K (He.ga K "Book") "__len__") fdLN := FLN
  have bLN := FLN.binds (ps := ["self"]) fun _ _ _ _ _ _ us hl => match us, hl with | [_], _ => rfl
  obtain ⟨fdNB, FNB⟩ := c.def_ 71 (d := d71) rfl
  have FNB : Fun K "__init__" "Bench.__init__" sBenchI (He.ma K (He.ga K "Bench") "__init__") fdNB := FNB
  have bNB := FNB.binds (ps := ["self", "books", "tree", "aims", "way"]) fun _ _ _ _ _ _ us hl => match us, hl with | [_, _, _, _, _], _ => rfl
  obtain ⟨fdQ, FQ⟩ := c.def_ 72 (d := d72) rfl
  have FQ : Fun K "__init__" "Builder.__init__" sBuiI (He.ma K (He.ga K "Builder") "__init__") fdQ := FQ
  have bQ := FQ.binds (ps := ["self", "books", "tree", "aims", "way"]) fun _ _ _ _ _ _ us hl => match us, hl with | [_, _, _, _, _], _ => rfl
  obtain ⟨fdO, FO⟩ := c.def_ 73 (d := d73) rfl
  have FO : Fun K "do" "Builder.do" sBuiDo (He.ma K (He.ga K "Builder") "do") fdO := FO
  have bO := FO.binds (ps := ["self", "step"]) fun _ _ _ _ _ _ us hl => match us, hl with | [_, _], _ => rfl
  obtain ⟨fdP, FP⟩ := c.def_ 74 (d := d74) rfl
  have FP : Fun K "__init__" "Shop.__init__" sShopI (He.ma K (He.ga K "Shop") "__init__") fdP := FP
  have bP := FP.binds (ps := ["self", "books", "tree", "aims", "steps"]) fun _ _ _ _ _ _ us hl => match us, hl with | [_, _, _, _, _], _ => rfl
  obtain ⟨fdPG, FPG⟩ := c.def_ 75 (d := d75) rfl
  have FPG : Fun K "steps" "Shop.steps" sShopG (Hk.prG K (He.ma K (He.ga K "Shop") "steps")) fdPG := FPG
  have bPG := FPG.binds (ps := ["self"]) fun _ _ _ _ _ _ us hl => match us, hl with | [_], _ => rfl
  have xpa_ := He.exc_ok (c.fact 34 (f := .exc "BadPath") rfl)
  have xpa : Xc K mg "BadPath" (He.ga K "BadPath") := ⟨(He.glo_ok X G (c.fact 35 (f := .glo "BadPath") rfl)), xpa_.1, xpa_.2.1, xpa_.2.2.1, xpa_.2.2.2⟩
  have xfo_ := He.exc_ok (c.fact 36 (f := .exc "BadFolder") rfl)
  have xfo : Xc K mg "BadFolder" (He.ga K "BadFolder") := ⟨(He.glo_ok X G (c.fact 37 (f := .glo "BadFolder") rfl)), xfo_.1, xfo_.2.1, xfo_.2.2.1, xfo_.2.2.2⟩
  have xwo_ := He.exc_ok (c.fact 38 (f := .exc "BadWords") rfl)
  have xwo : Xc K mg "BadWords" (He.ga K "BadWords") := ⟨(He.glo_ok X G (c.fact 39 (f := .glo "BadWords") rfl)), xwo_.1, xwo_.2.1, xwo_.2.2.1, xwo_.2.2.2⟩
  have xcl_ := He.exc_ok (c.fact 40 (f := .exc "Clash") rfl)
  have xcl : Xc K mg "Clash" (He.ga K "Clash") := ⟨(He.glo_ok X G (c.fact 41 (f := .glo "Clash") rfl)), xcl_.1, xcl_.2.1, xcl_.2.2.1, xcl_.2.2.2⟩
  have xfu_ := He.exc_ok (c.fact 42 (f := .exc "Full") rfl)
  have xfu : Xc K mg "Full" (He.ga K "Full") := ⟨(He.glo_ok X G (c.fact 43 (f := .glo "Full") rfl)), xfu_.1, xfu_.2.1, xfu_.2.2.1, xfu_.2.2.2⟩
  have xab_ := He.exc_ok (c.fact 44 (f := .exc "Absent") rfl)
  have xab : Xc K mg "Absent" (He.ga K "Absent") := ⟨(He.glo_ok X G (c.fact 45 (f := .glo "Absent") rfl)), xab_.1, xab_.2.1, xab_.2.2.1, xab_.2.2.2⟩
  have xbk_ := He.exc_ok (c.fact 46 (f := .exc "BadBook") rfl)
  have xbk : Xc K mg "BadBook" (He.ga K "BadBook") := ⟨(He.glo_ok X G (c.fact 47 (f := .glo "BadBook") rfl)), xbk_.1, xbk_.2.1, xbk_.2.2.1, xbk_.2.2.2⟩
  have xma_ := He.exc_ok (c.fact 48 (f := .exc "BadMade") rfl)
  have xma : Xc K mg "BadMade" (He.ga K "BadMade") := ⟨(He.glo_ok X G (c.fact 49 (f := .glo "BadMade") rfl)), xma_.1, xma_.2.1, xma_.2.2.1, xma_.2.2.2⟩
  have xru_ := He.exc_ok (c.fact 50 (f := .exc "BadRule") rfl)
  have xru : Xc K mg "BadRule" (He.ga K "BadRule") := ⟨(He.glo_ok X G (c.fact 51 (f := .glo "BadRule") rfl)), xru_.1, xru_.2.1, xru_.2.2.1, xru_.2.2.2⟩
  have xrc_ := He.exc_ok (c.fact 52 (f := .exc "BadRecord") rfl)
  have xrc : Xc K mg "BadRecord" (He.ga K "BadRecord") := ⟨(He.glo_ok X G (c.fact 53 (f := .glo "BadRecord") rfl)), xrc_.1, xrc_.2.1, xrc_.2.2.1, xrc_.2.2.2⟩
  have xs__ := He.exc_ok (c.fact 54 (f := .exc "BadStep") rfl)
  have xs_ : Xc K mg "BadStep" (He.ga K "BadStep") := ⟨(He.glo_ok X G (c.fact 55 (f := .glo "BadStep") rfl)), xs__.1, xs__.2.1, xs__.2.2.1, xs__.2.2.2⟩
  have xsh_ := He.exc_ok (c.fact 56 (f := .exc "BadShop") rfl)
  have xsh : Xc K mg "BadShop" (He.ga K "BadShop") := ⟨(He.glo_ok X G (c.fact 57 (f := .glo "BadShop") rfl)), xsh_.1, xsh_.2.1, xsh_.2.2.1, xsh_.2.2.2⟩
  have xro_ := He.exc_ok (c.fact 58 (f := .exc "BadRow") rfl)
  have xro : Xc K mg "BadRow" (He.ga K "BadRow") := ⟨(He.glo_ok X G (c.fact 59 (f := .glo "BadRow") rfl)), xro_.1, xro_.2.1, xro_.2.2.1, xro_.2.2.2⟩
  have xki_ := He.exc_ok (c.fact 60 (f := .exc "BadKind") rfl)
  have xki : Xc K mg "BadKind" (He.ga K "BadKind") := ⟨(He.glo_ok X G (c.fact 61 (f := .glo "BadKind") rfl)), xki_.1, xki_.2.1, xki_.2.2.1, xki_.2.2.2⟩
  have xle_ := He.exc_ok (c.fact 62 (f := .exc "BadLengths") rfl)
  have xle : Xc K mg "BadLengths" (He.ga K "BadLengths") := ⟨(He.glo_ok X G (c.fact 63 (f := .glo "BadLengths") rfl)), xle_.1, xle_.2.1, xle_.2.2.1, xle_.2.2.2⟩
  have xst_ := Hk.xiB_ok (c.more 30 (x := (Hk.xiB K (He.ga K "BadSteps") (He.ma K (He.ga K "BadSteps") "__init__")).all id) rfl)
  have xst : Xi K mg "BadSteps" (He.ga K "BadSteps") (He.ma K (He.ga K "BadSteps") "__init__") := ⟨(He.glo_ok X G (c.fact 64 (f := .glo "BadSteps") rfl)), xst_.o, xst_.f, xst_.n, xst_.i, xst_.t⟩
  have xen_ := Hk.xiB_ok (c.more 31 (x := (Hk.xiB K (He.ga K "BadEntries") (He.ma K (He.ga K "BadEntries") "__init__")).all id) rfl)
  have xen : Xi K mg "BadEntries" (He.ga K "BadEntries") (He.ma K (He.ga K "BadEntries") "__init__") := ⟨(He.glo_ok X G (c.fact 65 (f := .glo "BadEntries") rfl)), xen_.o, xen_.f, xen_.n, xen_.i, xen_.t⟩
  have xnb := xnB_ok (mg := mg) (c.more 32 (x := (xnB K (He.ga K "BadNumber") (He.ma K (He.ga K "BadNumber") "__init__")).all id) rfl) (He.glo_ok X G (c.fact 66 (f := .glo "BadNumber") rfl))
  have Kd_ : Kds K mg (He.ga K "KINDS") := ⟨(He.glo_ok X G (c.fact 67 (f := .glo "KINDS") rfl)), fun H => Hk.seqB_ok (c.more 33 (x := Hk.seqB K (He.ga K "KINDS") (kindsH.map V.str)) rfl) H⟩
  have os := Hk.ownB_ok (c.more 34 (x := (Hk.ownB K (He.ga K "Shop")).all id) rfl)
  have BS : Shs K mg (He.ga K "Shop") (He.ma K (He.ga K "Shop") "__init__") (He.ma K (He.ga K "Shop") "steps") (Hk.prG K (He.ma K (He.ga K "Shop") "steps")) (He.ma K (He.ga K "Shop") "__eq__") := ⟨(He.glo_ok X G (c.fact 68 (f := .glo "Shop") rfl)), (He.cls_ok (c.fact 69 (f := .cls "Shop") rfl)), (He.mkr_ok (c.fact 70 (f := .mkr "Shop") rfl)), (He.noat_ok (c.fact 71 (f := .noat "Shop" "_books") rfl)), (He.noat_ok (c.fact 72 (f := .noat "Shop" "_tree") rfl)), (He.noat_ok (c.fact 73 (f := .noat "Shop" "_aims") rfl)), (He.noat_ok (c.fact 74 (f := .noat "Shop" "_steps") rfl)), Hk.prB_ok (c.more 35 (x := (Hk.prB K (He.ga K "Shop") "steps").all id) rfl), (He.eqO_ok (c.more 36 (x := He.eqO (PySem.W.findIn K (.ref (He.ga K "Shop")) "__eq__") (some (some (.ref (He.ma K (He.ga K "Shop") "__eq__"))))) rfl)), (c.more 37 (x := PySem.W.isFn K (.ref (He.ma K (He.ga K "Shop") "__eq__"))) rfl), nf_at os.st, os.ha, os.hn, os.ht, os.hm, kt_at os.ic os.ty os.st⟩
  have BC : Bnc K mg (He.ga K "Bench") (He.ma K (He.ga K "Bench") "__init__") := ⟨(He.glo_ok X G (c.fact 75 (f := .glo "Bench") rfl)), (He.cls_ok (c.fact 76 (f := .cls "Bench") rfl)), (He.mkr_ok (c.fact 77 (f := .mkr "Bench") rfl)), fun f hf => by
    have hf' : f = Str.ofString "books" ∨ f = Str.ofString "aims" ∨ f = Str.ofString "way" ∨ f = Str.ofString "chosen" ∨ f = Str.ofString "clock" ∨ f = Str.ofString "sources" ∨ f = Str.ofString "sources_at" ∨ f = Str.ofString "left" ∨ f = Str.ofString "left_at" ∨ f = Str.ofString "kept" := by simpa using hf
    rcases hf' with rfl | rfl | rfl | rfl | rfl | rfl | rfl | rfl | rfl | rfl
    · exact (He.noat_ok (c.fact 78 (f := .noat "Bench" "books") rfl))
    · exact (He.noat_ok (c.fact 79 (f := .noat "Bench" "aims") rfl))
    · exact (He.noat_ok (c.fact 80 (f := .noat "Bench" "way") rfl))
    · exact (He.noat_ok (c.fact 81 (f := .noat "Bench" "chosen") rfl))
    · exact (He.noat_ok (c.fact 82 (f := .noat "Bench" "clock") rfl))
    · exact (He.noat_ok (c.fact 83 (f := .noat "Bench" "sources") rfl))
    · exact (He.noat_ok (c.fact 84 (f := .noat "Bench" "sources_at") rfl))
    · exact (He.noat_ok (c.fact 85 (f := .noat "Bench" "left") rfl))
    · exact (He.noat_ok (c.fact 86 (f := .noat "Bench" "left_at") rfl))
    · exact (He.noat_ok (c.fact 87 (f := .noat "Bench" "kept") rfl))
    ⟩
  have BQ : Bqs K mg (He.ga K "Builder") (He.ma K (He.ga K "Builder") "__init__") (He.ma K (He.ga K "Builder") "do") := ⟨(He.glo_ok X G (c.fact 88 (f := .glo "Builder") rfl)), (He.cls_ok (c.fact 89 (f := .cls "Builder") rfl)), (He.mkr_ok (c.fact 90 (f := .mkr "Builder") rfl)), (He.noat_ok (c.fact 91 (f := .noat "Builder" "_bench") rfl)), (He.meth_ok (c.fact 92 (f := .meth "Builder" "do") rfl))⟩
  have mP := (He.mkr_ok (c.fact 70 (f := .mkr "Shop") rfl))
  have mS := (He.mkr_ok (c.fact 93 (f := .mkr "Store") rfl))
  have ers : Ers K mg (Ls K) (He.ga K "RoomError") := ⟨(He.glo_ok X G (c.fact 21 (f := .glo "BadTree") rfl)), (He.glo_ok X G (c.fact 35 (f := .glo "BadPath") rfl)), (He.glo_ok X G (c.fact 37 (f := .glo "BadFolder") rfl)), (He.glo_ok X G (c.fact 39 (f := .glo "BadWords") rfl)), (He.glo_ok X G (c.fact 41 (f := .glo "Clash") rfl)), (He.glo_ok X G (c.fact 43 (f := .glo "Full") rfl)), (He.glo_ok X G (c.fact 45 (f := .glo "Absent") rfl)), (He.glo_ok X G (c.fact 20 (f := .glo "BadRules") rfl)), (He.glo_ok X G (c.fact 47 (f := .glo "BadBook") rfl)), (He.glo_ok X G (c.fact 49 (f := .glo "BadMade") rfl)), (He.glo_ok X G (c.fact 51 (f := .glo "BadRule") rfl)), (He.glo_ok X G (c.fact 53 (f := .glo "BadRecord") rfl)), (He.glo_ok X G (c.fact 27 (f := .glo "BadBooks") rfl)), (He.glo_ok X G (c.fact 29 (f := .glo "BadAims") rfl)), (He.glo_ok X G (c.fact 31 (f := .glo "BadWay") rfl)), (He.glo_ok X G (c.fact 55 (f := .glo "BadStep") rfl)), (He.glo_ok X G (c.fact 64 (f := .glo "BadSteps") rfl)), (He.glo_ok X G (c.fact 57 (f := .glo "BadShop") rfl)), (He.glo_ok X G (c.fact 59 (f := .glo "BadRow") rfl)), (He.glo_ok X G (c.fact 66 (f := .glo "BadNumber") rfl)), (He.glo_ok X G (c.fact 61 (f := .glo "BadKind") rfl)), (He.glo_ok X G (c.fact 65 (f := .glo "BadEntries") rfl)), (He.glo_ok X G (c.fact 63 (f := .glo "BadLengths") rfl)), (He.glo_ok X G (c.fact 94 (f := .glo "RoomError") rfl)), fun k hk => of_decide_eq_true (List.all_eq_true.mp (c.more 38 (x := (List.range 23).all fun k => decide (pick K (Ls K k) (fstJ (Ls K) (He.ga K "RoomError")) = some (fstN k))) rfl) k (List.mem_range.mpr hk)), fun k hk => of_decide_eq_true (List.all_eq_true.mp (c.more 39 (x := (List.range 23).all fun k => decide (pick K (Ls K k) (sndJ (Ls K) (He.ga K "RoomError")) = some (sndN k))) rfl) k (List.mem_range.mpr hk)), fun k hk => of_decide_eq_true (List.all_eq_true.mp (c.more 40 (x := (List.range 23).all fun k => decide (pick K (Ls K k) (thdJ (Ls K) (He.ga K "RoomError")) = some (thdN k))) rfl) k (List.mem_range.mpr hk))⟩
  obtain ⟨_, _, kV, doc, pm, an, cdv, ct, osl, efd, _, _⟩ := id F_law.ex
  refine ⟨fd_law, fun s v => by rw [efd]; exact .of_eq rfl, fun base _ _ => ?_⟩
  have cName : Cal P w K mg base CX0 1 "is_name" ["word"] spName := ⟨(He.ga K "is_name"), _, ok_name F_is_name T, (He.glo_ok X G (c.fact 95 (f := .glo "is_name") rfl)), F_is_name.kp, b_is_name⟩
  have cPath : Cal P w K mg base CX0 2 "is_path" ["value"] (spPath (K := K)) := ⟨(He.ga K "is_path"), _, ok_path F_is_path T cName, (He.glo_ok X G (c.fact 96 (f := .glo "is_path") rfl)), F_is_path.kp, b_is_path⟩
  have cFolder : Cal P w K mg base CX0 3 "is_folder" ["value"] spFolder := ⟨(He.ga K "is_folder"), _, ok_folder F_is_folder cPath, (He.glo_ok X G (c.fact 97 (f := .glo "is_folder") rfl)), F_is_folder.kp, b_is_folder⟩
  have cHas : Cal P w K mg base CX0 1 "has_signs" ["value", "most"] (spHas (K := K)) := ⟨(He.ga K "has_signs"), _, ok_has F_has_signs T, (He.glo_ok X G (c.fact 98 (f := .glo "has_signs") rfl)), F_has_signs.kp, b_has_signs⟩
  have cText : Cal P w K mg base CX0 2 "is_text" ["value"] (spText (K := K)) := ⟨(He.ga K "is_text"), _, ok_text F_is_text T cHas, (He.glo_ok X G (c.fact 99 (f := .glo "is_text") rfl)), F_is_text.kp, b_is_text⟩
  have cFile : Cal P w K mg base CX0 3 "is_file" ["value"] (spFile (K := K)) := ⟨(He.ga K "is_file"), _, ok_file F_is_file T cPath cText, (He.glo_ok X G (c.fact 100 (f := .glo "is_file") rfl)), F_is_file.kp, b_is_file⟩
  have cLies : Cal P w K mg base CX0 1 "lies_within" ["path", "folder"] spLies := ⟨(He.ga K "lies_within"), _, ok_lies F_lies_within, (He.glo_ok X G (c.fact 101 (f := .glo "lies_within") rfl)), F_lies_within.kp, b_lies_within⟩
  have cWay : Cal P w K mg base CX0 2 "in_the_way" ["one", "other"] spWay := ⟨(He.ga K "in_the_way"), _, ok_way F_in_the_way cLies, (He.glo_ok X G (c.fact 102 (f := .glo "in_the_way") rfl)), F_in_the_way.kp, b_in_the_way⟩
  have cFollow : Cal P w K mg base CX0 2 "may_follow" ["path", "files"] (spFollow (K := K)) := ⟨(He.ga K "may_follow"), _, ok_follow F_may_follow T cLies, (He.glo_ok X G (c.fact 103 (f := .glo "may_follow") rfl)), F_may_follow.kp, b_may_follow⟩
  have cCkT : Cal P w K mg base (L2.CX P w) 4 "check_tree" ["value"] (spCkTree (K := K) (He.ga K "BadTree")) := ⟨(He.ga K "check_tree"), _, ok_ckTree F_check_tree T xt (Bt.ok_btI FW) bW cFile cFollow, (He.glo_ok X G (c.fact 104 (f := .glo "check_tree") rfl)), F_check_tree.kp, b_check_tree⟩
  have cWord : Cal P w K mg base CX0 3 "is_word" ["value"] (spWord (K := K)) := ⟨(He.ga K "is_word"), _, ok_word F_is_word T cText, (He.glo_ok X G (c.fact 105 (f := .glo "is_word") rfl)), F_is_word.kp, b_is_word⟩
  have cFits : Cal P w K mg base CX0 4 "fits" ["form", "value"] (spFits (K := K)) := ⟨(He.ga K "fits"), _, ok_fits F_fits T cPath cWord cFolder, (He.glo_ok X G (c.fact 106 (f := .glo "fits") rfl)), F_fits.kp, b_fits⟩
  have cRule : Cal P w K mg base CX0 5 "is_rule" ["value"] (spRule (K := K)) := ⟨(He.ga K "is_rule"), _, ok_rule F_is_rule T Fm cPath cFits, (He.glo_ok X G (c.fact 107 (f := .glo "is_rule") rfl)), F_is_rule.kp, b_is_rule⟩
  have cCkR : Cal P w K mg base (L2.CX P w) 6 "check_rules" ["value"] (spCkRules (K := K) (He.ga K "BadRules")) := ⟨(He.ga K "check_rules"), _, ok_ckRules F_check_rules T xi (Bp.ok_btI FX) bX cRule cWay, (He.glo_ok X G (c.fact 108 (f := .glo "check_rules") rfl)), F_check_rules.kp, b_check_rules⟩
  have gI := ok_init FI B cCkR
  have cCkB : Cal P w K mg base CX0 1 "check_book" ["value"] (spCkB (He.ga K "Book")) := ⟨(He.ga K "check_book"), _, ok_ckBook F_check_book T B, (He.glo_ok X G (c.fact 109 (f := .glo "check_book") rfl)), F_check_book.kp, b_check_book⟩
  have cMade : Cal P w K mg base CX0 3 "made_paths" ["book"] (spMade (K := K) (He.ga K "Book")) := ⟨(He.ga K "made_paths"), _, ok_made F_made_paths T B (ok_get FG B) bG cCkB, (He.glo_ok X G (c.fact 110 (f := .glo "made_paths") rfl)), F_made_paths.kp, b_made_paths⟩
  have cFrom : Cal P w K mg base CX0 1 "is_from_to" ["value", "least", "most"] spFrom := ⟨(He.ga K "is_from_to"), _, ok_from F_is_from_to T (He.free_ok X G (c.fact 111 (f := .free "bool") rfl)), (He.glo_ok X G (c.fact 112 (f := .glo "is_from_to") rfl)), F_is_from_to.kp, b_is_from_to⟩
  have cFitS : Cal P w K mg base CX0 3 "fits_step" ["form", "value", "many"] spFitS := ⟨(He.ga K "fits_step"), _, ok_fitS F_fits_step T (He.int_ok X G (c.fact 113 (f := .int "MOST_CUT" 20) rfl)) cText cPath cFrom, (He.glo_ok X G (c.fact 114 (f := .glo "fits_step") rfl)), F_fits_step.kp, b_fits_step⟩
  have cHF : Cal P w K mg base CX0 4 "has_step_form" ["value", "many"] (spHasForm K) := ⟨(He.ga K "has_step_form"), _, ok_hasForm F_has_step_form T Sm cFitS, (He.glo_ok X G (c.fact 115 (f := .glo "has_step_form") rfl)), F_has_step_form.kp, b_has_step_form⟩
  have cSP : Cal P w K mg base CX0 1 "step_paths" ["step"] spStepPaths := ⟨(He.ga K "step_paths"), _, ok_stepPaths F_step_paths T Sm, (He.glo_ok X G (c.fact 116 (f := .glo "step_paths") rfl)), F_step_paths.kp, b_step_paths⟩
  have cIS : Cal P w K mg base CX0 5 "is_step" ["value", "books"] (spIsStep K (He.ga K "Book")) := ⟨(He.ga K "is_step"), _, ok_isStep F_is_step T cHF cMade cSP, (He.glo_ok X G (c.fact 117 (f := .glo "is_step") rfl)), F_is_step.kp, b_is_step⟩
  have cAs : Cal P w K mg base CX0 1 "are_ascending" ["row"] spAsd := ⟨(He.ga K "are_ascending"), _, ok_asd F_are_ascending T, (He.glo_ok X G (c.fact 118 (f := .glo "are_ascending") rfl)), F_are_ascending.kp, b_are_ascending⟩
  have cAi : Cal P w K mg base CX0 4 "are_aims" ["value", "books"] (spAims K (He.ga K "Book")) := ⟨(He.ga K "are_aims"), _, ok_aims F_are_aims T cMade cAs, (He.glo_ok X G (c.fact 119 (f := .glo "are_aims") rfl)), F_are_aims.kp, b_are_aims⟩
  have cCkBs : Cal P w K mg base (L2.CX P w) 3 "check_books" ["value"] (spCkBooks K (He.ga K "Book") (He.ga K "BadBooks")) := ⟨(He.ga K "check_books"), _, ok_ckBooks F_check_books T (He.int_ok X G (c.fact 120 (f := .int "MOST_BOOKS" 3) rfl)) xb (ok_bbI FY) bY B ow.ic ow.ty ow.ct, (He.glo_ok X G (c.fact 121 (f := .glo "check_books") rfl)), F_check_books.kp, b_check_books⟩
  have cCkA : Cal P w K mg base (L2.CX P w) 5 "check_aims" ["value", "books"] (spCkAims K (He.ga K "Book") (He.ga K "BadAims")) := ⟨(He.ga K "check_aims"), _, ok_ckAims F_check_aims xa cAi, (He.glo_ok X G (c.fact 122 (f := .glo "check_aims") rfl)), F_check_aims.kp, b_check_aims⟩
  have cCkW : Cal P w K mg base (L2.CX P w) 1 "check_way" ["value"] (spCkWay K (He.ga K "BadWay")) := ⟨(He.ga K "check_way"), _, ok_ckWay F_check_way xw Wy_, (He.glo_ok X G (c.fact 123 (f := .glo "check_way") rfl)), F_check_way.kp, b_check_way⟩
  have cCkPa : Cal P w K mg base (L2.CX P w) 3 "check_path" ["value"] (spCk (He.ga K "BadPath") isPathV) := ⟨(He.ga K "check_path"), _, ok_ckPath F_check_path xpa cPath, (He.glo_ok X G (c.fact 124 (f := .glo "check_path") rfl)), F_check_path.kp, b_check_path⟩
  have cCkFo : Cal P w K mg base (L2.CX P w) 4 "check_folder" ["value"] (spCk (He.ga K "BadFolder") isFolderV) := ⟨(He.ga K "check_folder"), _, ok_ckFolder F_check_folder xfo cFolder, (He.glo_ok X G (c.fact 125 (f := .glo "check_folder") rfl)), F_check_folder.kp, b_check_folder⟩
  have cCkWo : Cal P w K mg base (L2.CX P w) 3 "check_words" ["value"] (spCk (He.ga K "BadWords") isTextV) := ⟨(He.ga K "check_words"), _, ok_ckWords F_check_words xwo cText, (He.glo_ok X G (c.fact 126 (f := .glo "check_words") rfl)), F_check_words.kp, b_check_words⟩
  have cTA : Cal P w K mg base (L2.CX P w) 5 "text_at" ["tree", "path"] (spR2 (K := K) (He.ga K "BadTree") (He.ga K "BadPath") isPathV) := ⟨(He.ga K "text_at"), _, ok_textAt F_text_at cCkT cCkPa, (He.glo_ok X G (c.fact 127 (f := .glo "text_at") rfl)), F_text_at.kp, b_text_at⟩
  have cNI : Cal P w K mg base (L2.CX P w) 5 "names_in" ["tree", "folder"] (spR2 (K := K) (He.ga K "BadTree") (He.ga K "BadFolder") isFolderV) := ⟨(He.ga K "names_in"), _, ok_namesIn F_names_in cCkT cCkFo, (He.glo_ok X G (c.fact 128 (f := .glo "names_in") rfl)), F_names_in.kp, b_names_in⟩
  have cPu : Cal P w K mg base (L2.CX P w) 5 "put" ["tree", "path", "text"] (spPutX K (He.ga K "BadWords") (He.ga K "Clash") (He.ga K "Full")) := ⟨(He.ga K "put"), _, ok_put F_put T (He.free_ok X G (c.fact 129 (f := .free "dict") rfl)) xcl xfu cCkT cCkPa cCkWo cWay, (He.glo_ok X G (c.fact 130 (f := .glo "put") rfl)), F_put.kp, b_put⟩
  have cTk : Cal P w K mg base (L2.CX P w) 5 "taken" ["tree", "path"] (spTakenX (He.ga K "Absent")) := ⟨(He.ga K "taken"), _, ok_takenX F_taken T (He.free_ok X G (c.fact 129 (f := .free "dict") rfl)) xab cCkT cCkPa, (He.glo_ok X G (c.fact 131 (f := .glo "taken") rfl)), F_taken.kp, b_taken⟩
  have cB2 : Cal P w K mg base (L2.CX P w) 2 "check_book" ["value"] (spCkB2 K (He.ga K "Book") (He.ga K "BadBook")) := ⟨(He.ga K "check_book"), _, ok_ckBook2 F_check_book T xbk B ow.ic ow.ty, (He.glo_ok X G (c.fact 109 (f := .glo "check_book") rfl)), F_check_book.kp, b_check_book⟩
  have cMd : Cal P w K mg base (L2.CX P w) 4 "check_made" ["book", "value"] (spCkMade K (He.ga K "Book") (He.ga K "BadMade")) := ⟨(He.ga K "check_made"), _, ok_ckMade F_check_made xma cMade, (He.glo_ok X G (c.fact 132 (f := .glo "check_made") rfl)), F_check_made.kp, b_check_made⟩
  have cNB : Cal P w K mg base (L2.CX P w) 3 "made_paths" ["book"] (spNB K (He.ga K "BadBook")) := ⟨(He.ga K "made_paths"), _, ok_nbMade (k := 2) (by decide) F_made_paths cB2, (He.glo_ok X G (c.fact 110 (f := .glo "made_paths") rfl)), F_made_paths.kp, b_made_paths⟩
  have cBF : Cal P w K mg base (L2.CX P w) 5 "build_for" ["book", "tree", "made"] (spWr K (He.ga K "Book") (He.ga K "BadBook") (He.ga K "BadTree") (He.ga K "BadMade")) := ⟨(He.ga K "build_for"), _, ok_buildFor F_build_for cB2 cCkT cMd, (He.glo_ok X G (c.fact 133 (f := .glo "build_for") rfl)), F_build_for.kp, b_build_for⟩
  have cRun : Cal P w K mg base (L2.CX P w) 6 "run" ["book", "tree", "made"] (spWr K (He.ga K "Book") (He.ga K "BadBook") (He.ga K "BadTree") (He.ga K "BadMade")) := ⟨(He.ga K "run"), _, ok_run (k := 5) (by decide) F_run cBF, (He.glo_ok X G (c.fact 134 (f := .glo "run") rfl)), F_run.kp, b_run⟩
  have gNB := ok_benchI (base := base) (P := P) (w := w) FNB T (He.free_ok X G (c.fact 129 (f := .free "dict") rfl)) BC (He.int_ok X G (c.fact 135 (f := .int "BEGINNING" 1) rfl))
  have gQ := ok_buiI FQ cCkBs cCkT cCkA cCkW BC gNB bNB BQ
  have gO := ok_do FO xs_ cIS BC BQ
  have cCkSt : Cal P w K mg base (L2.CX P w) 6 "check_steps" ["value", "books"] (spCkSteps K (He.ga K "Book") (He.ga K "BadSteps")) := ⟨(He.ga K "check_steps"), _, ok_ckSteps F_check_steps T (He.int_ok X G (c.fact 136 (f := .int "MOST_STEPS" 8) rfl)) xst (ok_bsI FZ) bZ cIS, (He.glo_ok X G (c.fact 137 (f := .glo "check_steps") rfl)), F_check_steps.kp, b_check_steps⟩
  have gP := ok_shopI FP BS cCkBs cCkT cCkA cCkSt
  have gPG := ok_shopG (P := P) (w := w) (base := base) FPG BS
  have cCkSh : Cal P w K mg base (L2.CX P w) 2 "check_shop" ["value"] (spCkShop K (He.ga K "Shop") (He.ga K "BadShop")) := ⟨(He.ga K "check_shop"), _, ok_ckShop F_check_shop T xsh BS os.ic os.ty, (He.glo_ok X G (c.fact 138 (f := .glo "check_shop") rfl)), F_check_shop.kp, b_check_shop⟩
  have cCkRo : Cal P w K mg base (L2.CX P w) 3 "check_row" ["shop", "way", "value"] (spW3 K (He.ga K "Shop") (He.ga K "BadShop") (He.ga K "BadWay") (He.ga K "BadRow")) := ⟨(He.ga K "check_row"), _, ok_ckRow F_check_row T xro BS gPG bPG cCkSh cCkW cFrom, (He.glo_ok X G (c.fact 139 (f := .glo "check_row") rfl)), F_check_row.kp, b_check_row⟩
  have cFW : Cal P w K mg base (L2.CX P w) 5 "first_wrong" ["shop", "way"] (spW2 K (He.ga K "Shop") (He.ga K "BadShop") (He.ga K "BadWay")) := ⟨(He.ga K "first_wrong"), _, ok_fw (k := 4) (by decide) F_first_wrong cCkSh cCkW, (He.glo_ok X G (c.fact 140 (f := .glo "first_wrong") rfl)), F_first_wrong.kp, b_first_wrong⟩
  have cFo : Cal P w K mg base (L2.CX P w) 5 "follow" ["shop", "way", "row"] (spW3 K (He.ga K "Shop") (He.ga K "BadShop") (He.ga K "BadWay") (He.ga K "BadRow")) := ⟨(He.ga K "follow"), _, ok_fol F_follow cCkRo, (He.glo_ok X G (c.fact 141 (f := .glo "follow") rfl)), F_follow.kp, b_follow⟩
  have cCkRu : Cal P w K mg base (L2.CX P w) 6 "check_rule" ["value"] (spCkRule K (He.ga K "BadRule")) := ⟨(He.ga K "check_rule"), _, ok_ckRule F_check_rule xru cRule, (He.glo_ok X G (c.fact 142 (f := .glo "check_rule") rfl)), F_check_rule.kp, b_check_rule⟩
  have cIst : Cal P w K mg base CX0 1 "is_stopped" ["looks"] spStopped := ⟨(He.ga K "is_stopped"), _, ok_stopped F_is_stopped T, (He.glo_ok X G (c.fact 143 (f := .glo "is_stopped") rfl)), F_is_stopped.kp, b_is_stopped⟩
  have cPK : Cal P w K mg base CX0 1 "places_known" ["rule", "looks"] (spPlaces) := ⟨(He.ga K "places_known"), _, ok_places F_places_known T, (He.glo_ok X G (c.fact 144 (f := .glo "places_known") rfl)), F_places_known.kp, b_places_known⟩
  have cNx : Cal P w K mg base CX0 2 "next_place" ["rule", "looks"] spNext := ⟨(He.ga K "next_place"), _, ok_next F_next_place T cIst cPK, (He.glo_ok X G (c.fact 145 (f := .glo "next_place") rfl)), F_next_place.kp, b_next_place⟩
  have cIR0 : Cal P w K mg base CX0 3 "is_record" ["rule", "value"] (spIsRec0 K) := ⟨(He.ga K "is_record"), _, ok_isRec0 F_is_record T cNx, (He.glo_ok X G (c.fact 146 (f := .glo "is_record") rfl)), F_is_record.kp, b_is_record⟩
  have cCkRe : Cal P w K mg base (L2.CX P w) 4 "check_record" ["rule", "value"] (spCkRec0 K (He.ga K "BadRecord")) := ⟨(He.ga K "check_record"), _, ok_ckRec0 F_check_record xrc cIR0, (He.glo_ok X G (c.fact 147 (f := .glo "check_record") rfl)), F_check_record.kp, b_check_record⟩
  have cRR : Cal P w K mg base (L2.CX P w) 7 "right_record" ["rule", "value"] (spRightR K (He.ga K "BadRule")) := ⟨(He.ga K "right_record"), _, ok_rightR F_right_record cCkRu, (He.glo_ok X G (c.fact 148 (f := .glo "right_record") rfl)), F_right_record.kp, b_right_record⟩
  have cTB : Cal P w K mg base (L2.CX P w) 7 "told_by" ["rule", "record"] (spToldBy K (He.ga K "BadRecord")) := ⟨(He.ga K "told_by"), _, ok_toldBy F_told_by cCkRu cCkRe, (He.glo_ok X G (c.fact 149 (f := .glo "told_by") rfl)), F_told_by.kp, b_told_by⟩
  have cTE : Cal P w K mg base CX0 1 "true_entry" ["value"] (spTrueE0 K) := ⟨(He.ga K "true_entry"), _, ok_trueE0 F_true_entry T, (He.glo_ok X G (c.fact 150 (f := .glo "true_entry") rfl)), F_true_entry.kp, b_true_entry⟩
  have cCkE : Cal P w K mg base (L2.CX P w) 3 "check_entries" ["value"] (spCkEnt K (He.ga K "BadEntries")) := ⟨(He.ga K "check_entries"), _, ok_ckEnt F_check_entries T (He.int_ok X G (c.fact 151 (f := .int "MOST_ENTRIES" 40) rfl)) xen (ok_beI FBE) bBE cTE, (He.glo_ok X G (c.fact 152 (f := .glo "check_entries") rfl)), F_check_entries.kp, b_check_entries⟩
  have gST := ok_storeI FST T (He.int_ok X G (c.fact 153 (f := .int "MOST_ROOM" 20) rfl)) xnb (ok_bnI FBN) bBN xki Kd_ cFrom cCkE
  have gLN := ok_len (P := P) (w := w) (base := base) FLN T B
  have cCkL : Cal P w K mg base (L2.CX P w) 3 "check_lengths" ["book", "value"] (spCkLen K (He.ga K "Book") (He.ga K "BadLengths")) := ⟨(He.ga K "check_lengths"), _, ok_ckLen F_check_lengths T xle B gLN bLN, (He.glo_ok X G (c.fact 154 (f := .glo "check_lengths") rfl)), F_check_lengths.kp, b_check_lengths⟩
  have cPl : Cal P w K mg base (L2.CX P w) 5 "plan_of" ["book", "tree", "lengths"] (spPlanOf K (He.ga K "Book") (He.ga K "BadLengths")) := ⟨(He.ga K "plan_of"), _, ok_planOf F_plan_of cB2 cCkT cCkL, (He.glo_ok X G (c.fact 155 (f := .glo "plan_of") rfl)), F_plan_of.kp, b_plan_of⟩
  have cP9 : Cal P w K mg base (L2.CX P w) 9 "_law_paths" ["_law_kind"] (spPaths (Ls K)) := ⟨(He.ga K "_law_paths"), _, ok_paths (L := Ls K) F__law_paths T B cNI cTA cPu cTk gI bI cNB cRun, (He.glo_ok X G (c.fact 156 (f := .glo "_law_paths") rfl)), F__law_paths.kp, b__law_paths⟩
  have cR9 : Cal P w K mg base (L2.CX P w) 9 "_law_rooms" ["_law_kind"] (spRooms (Ls K)) := ⟨(He.ga K "_law_rooms"), _, ok_rooms (L := Ls K) F__law_rooms T B BQ gI bI (He.glo_ok X G (c.fact 68 (f := .glo "Shop") rfl)) mP gP bP gQ bQ gO bO (He.glo_ok X G (c.fact 157 (f := .glo "Store") rfl)) mS gST bST cRR cTB cFW cFo cPl, (He.glo_ok X G (c.fact 158 (f := .glo "_law_rooms") rfl)), F__law_rooms.kp, b__law_rooms⟩
  have cC10 : Cal P w K mg base (L2.CX P w) 10 "_law_call" ["_law_kind"] (spCall (Ls K)) := ⟨(He.ga K "_law_call"), _, ok_call F__law_call cP9 cR9, (He.glo_ok X G (c.fact 159 (f := .glo "_law_call") rfl)), F__law_call.kp, b__law_call⟩
  have dT : Cal P w K mg base CX0 1 "_law_taken" ["_law_row", "_law_many"] (spTaken (K := K)) := ⟨(He.ga K "_law_taken"), _, Bl.ok_taken F__law_taken T, (He.glo_ok X G (c.fact 160 (f := .glo "_law_taken") rfl)), F__law_taken.kp, b__law_taken⟩
  have d1 : Cal P w K mg base CX0 11 "_law_first" ["_law_kind"] (spTell fstN) := ⟨(He.ga K "_law_first"), _, ok_first F__law_first ers cC10, (He.glo_ok X G (c.fact 161 (f := .glo "_law_first") rfl)), F__law_first.kp, b__law_first⟩
  have d2 : Cal P w K mg base CX0 11 "_law_second" ["_law_kind"] (spTell sndN) := ⟨(He.ga K "_law_second"), _, ok_second F__law_second ers cC10, (He.glo_ok X G (c.fact 162 (f := .glo "_law_second") rfl)), F__law_second.kp, b__law_second⟩
  have d3 : Cal P w K mg base CX0 11 "_law_third" ["_law_kind"] (spTell thdN) := ⟨(He.ga K "_law_third"), _, ok_third F__law_third ers cC10, (He.glo_ok X G (c.fact 163 (f := .glo "_law_third") rfl)), F__law_third.kp, b__law_third⟩
  exact ok_law F_law T (He.free_ok X G (c.fact 164 (f := .free "min") rfl)) dT d1 d2 d3
end Bt
open PySem PySem.W PySem.Calls PyProof.Rows
set_option maxRecDepth 100000 in
set_option maxHeartbeats 0 in
theorem PySem.Challenge.cw_buildroom_k92_errors_are_apart_holds : PySem.Challenge.rw_buildroom_k92_errors_are_apart.Holds := by
  w_on; o_law
  refine HandSHeadRun.head_any (r := OpenLaw.row PySem.Challenge.rw_buildroom_k92_errors_are_apart) (q := view (OpenLaw.row PySem.Challenge.rw_buildroom_k92_errors_are_apart).prog [156]) (H := Bt.hkL) (ob := Bt.obL) (M := 20000) (loose := Bt.nmL) (d := HandSHeadRun.topDef (OpenLaw.row PySem.Challenge.rw_buildroom_k92_errors_are_apart).prog 156) (kwd := []) Bt.obL_eq
    (by kernel_rfl) (fun s => by kernel_rfl) Bt.run_ok (by kernel_rfl) (by kernel_rfl) (by kernel_rfl) (by rfl) (by first | assumption | decide +kernel) (by decide +kernel) ⟨rfl, rfl, rfl, rfl, rfl, by decide +kernel⟩ ?hw ?hc
  case hw => w_witness2
  case hc =>
    refine L2.walk_ofE (l := PySem.Challenge.rw_buildroom_k92_errors_are_apart) (n := 63) (k := 12) (x := "_law_script") (CX := L2.CX0) rfl (by decide) (by kernel_rfl) ⟨rfl, by decide, by decide⟩ ?F (fun _ _ _ _ z => z)
    intro w mg fa h Y G hmg0
    obtain ⟨K, KX, c1, c2, c3, c4⟩ := Y
    have c := Bt.says_join c1 c2 c3 c4
    have hmg : mg ("law" : PySem.Str) = some (.ref fa) := by
      have e : (HandSHeadRun.topDef (OpenLaw.row PySem.Challenge.rw_buildroom_k92_errors_are_apart).prog 156).name = ("law" : PySem.Str) := by kernel_rfl
      rw [← e]
      exact hmg0
    obtain ⟨fd, hb, hF⟩ := Bt.facts (P := (PySem.Challenge.rw_buildroom_k92_errors_are_apart).prog) (w := w) KX G hmg c
    refine ⟨K, fd, Bt.spLaw K, KX, hb, fun H a ns hl hO hS => ⟨a, ns, rfl, ?_, fun _ => rfl⟩, hF⟩
    rcases hS with (h | ⟨o, h⟩) | h
    · rcases hO a with z | ⟨o, xs, z⟩
      · rw [h] at z; cases z
      · rw [h] at z; cases z
    · exact .inl ⟨o, h⟩
    · exact .inr h
