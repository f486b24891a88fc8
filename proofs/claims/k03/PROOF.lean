import PyProof.Rows.All
import Wide.All
import OpenK.AllK
import Wide.FinOn
import PyProof.EqAt
import PyProof.EqKinds
import PyProof.TupleCall
import HandS.Base
import HandS.Call
import HandS.Exc
import HandS.TryMany
import HandS.ExcOwn
import PyProof.Draws
import KE.GoesMore
import KE.GoesEnum
import HandS.List
import HandS.Dict
import HandS.Iter
import PyProof.NeKinds
import HandS.Text
import HandS.ForMost
import HandS.TryOnly
import HandS.WordsExc
import HandS.IsInst
import HandS.Walk
import HandS.TupAny
import HandS.ExcInit
import HandS.ExcField
import HandS.Evl
import HandS.Property
import HandS.OwnEq
import HandS.TupMul
import HandS.RepeatKit
import HandS.More
import HandS.Zip
import PyProof.InstSpecial
import KE.KDictPairs
import KE.SortData
import HandS.Set
import HandS.TupSets
import HandS.SetFor
import PySem.Challenge.RW_buildroom_k03_whole_told
import PyProof.StrBlock2
import KE.DataEq
import HandS.SetBool
import KE.DataMinMax
import HandS.DictComp
import KE.SortCalls
import HandS.Deep
set_option Elab.async false
set_option linter.all false
set_option maxRecDepth 100000
set_option maxHeartbeats 8000000
namespace Bk
open PySem PySem.Spec PyProof.Rows L2

/-! ## try with several clauses, some of them «as n» -/
abbrev Cl := Value × Option Nat × (Addr → Value → Option Addr → TS)
def clEnds (n : Option Nat) (D : Ends) : Ends := match n with
  | none => D
  | some i => { nx := fun τ G => D.nx (τ.set i none) G, rt := D.rt, bk := fun τ G => D.bk (τ.set i none) G, ct := fun τ G => D.ct (τ.set i none) G }
def clSlots (n : Option Nat) (τ : L2.St) (a : Addr) : L2.St := match n with
  | none => τ
  | some i => τ.set i (some (.ref a))
def wMix (K : PySem.W.Frag) (Wo : WX) (D : Ends) : List Cl → WX
  | [] => Wo
  | (c, n, ts) :: r => fun cls d τ G => ∃ b, PySem.W.exmOne K cls c = some b ∧
      (b = true → ∀ a, G a = none → ts a cls d (clEnds n D) (clSlots n τ a) G) ∧ (b = false → wMix K Wo D r cls d τ G)
inductive HMix (X : Cx) : List ExceptHandler → List Cl → Prop
  | nil : HMix X [] []
  | bare {x : Str} {c : Value} {ts : Addr → Value → Option Addr → TS} {b0 : Stmt} {bs : List Stmt} {q1 q2 : Pos} {hs : List ExceptHandler} {l : List Cl} (hc : Names X x c)
      (su : ∀ (a : Addr) (oe : Obj) (cls : Value) (d : Option Addr) (pn : List (Addr × Obj)), Zc cls d oe → (∃ vs, oe.data = .fields vs) → PSs (X.suite a ((a, oe) :: pn)) (b0 :: bs) (ts a cls d)) (r : HMix X hs l) :
      HMix X (.ExceptHandler (some (.Name x q1)) none (b0 :: bs) q2 :: hs) ((c, none, ts) :: l)
  | named {x n : Str} {i : Nat} {c : Value} {ts : Addr → Value → Option Addr → TS} {b0 : Stmt} {bs : List Stmt} {q1 q2 : Pos} {hs : List ExceptHandler} {l : List Cl} (hc : Names X x c)
      (hi : X.N[i]? = some n) (hl : X.env.kindOf n = some .local)
      (su : ∀ (a : Addr) (oe : Obj) (cls : Value) (d : Option Addr) (pn : List (Addr × Obj)), Zc cls d oe → (∃ vs, oe.data = .fields vs) → PSs (X.suite a ((a, oe) :: pn)) (b0 :: bs) (ts a cls d)) (r : HMix X hs l) :
      HMix X (.ExceptHandler (some (.Name x q1)) (some n) (b0 :: bs) q2 :: hs) ((c, some i, ts) :: l)
section
variable {X : Cx} {body : List Stmt} {h0 : ExceptHandler} {hs : List ExceptHandler} {l : List Cl} {pos : Pos} {tb : WX → TS} {Wo : WX}
theorem ps_try_mix (st : X.stack = X.env :: X.outer) (fr : X.env.frame = some X.env.locals) (nd : X.N.Nodup) (tk : Takes X Wo)
    (hb : ∀ (W : WX) (pn : List (Addr × Obj)) (xe : Value → Shared → Prop), Takes (X.tr pn xe) W → PassesOwn (model X.prog X.w) X.A X.env xe → PSs (X.tr pn xe) body (tb W))
    (hh : HMix X (h0 :: hs) l) : PS X (.Try body (h0 :: hs) [] [] pos) (fun D τ G => tb (wMix X.K Wo D l) D τ G) := by
  refine ⟨fun pins s τ G D I h => ?_⟩
  have ok := I.ok
  have fram : X.A.frames = some (X.env :: X.outer) := by rw [ok.frames, st]
  refine wpAny_Try_except ?_
  refine wpAny_mono ((hb (wMix X.K Wo D l) (X.pn ++ pins) (fun e s1 => wpAny (model X.prog X.w) X.A (noteFrame e X.env) (fun _ s2 =>
    wpAny (model X.prog X.w) X.A (setFlight e none) (fun _ s3 => wpAny (model X.prog X.w) X.A (handleBy e X.env (h0 :: hs)) (SP X pins D) X.xe s3) X.xe s2) X.xe s1)
    (fun u s' xx => ?caught) PassesOwn.looking).run [] s τ G D (I.toTry _) h) (fun f s1 sp => ?through) (fun e s1 z => z)
  case through =>
    cases f with
    | next =>
      obtain ⟨τ', G', J, q⟩ := sp
      exact wpAny_execs_nil ⟨τ', G', J.ofTry ok, q⟩
    | brk => obtain ⟨τ', G', J, q⟩ := sp; exact ⟨τ', G', J.ofTry ok, q⟩
    | cont => obtain ⟨τ', G', J, q⟩ := sp; exact ⟨τ', G', J.ofTry ok, q⟩
    | ret u => obtain ⟨v, τ', G', J, r, q⟩ := sp; exact ⟨v, τ', G', J.ofTry ok, r, q⟩
  case caught =>
    obtain ⟨a, B, sI, pins1, τ1, G1, cls, d, rfl, J0, nb, up, sky, na, os, ag, w⟩ := xx
    have J : Inv X pins τ1 G1 sI := J0.ofTry ok
    have sky1 : Sky B (X.env :: X.outer) a (Zc cls d) X.env.locals s'.heap := by rw [← st]; exact sky
    show wpAny (model X.prog X.w) X.A (noteFrame (.ref a) X.env) _ _ _
    refine Sky.land Zc.steady fram fr sky1 fun g3 fl3 up3 => ?_
    have J3 : Inv X pins τ1 G1 { s' with heap := g3 } := J.landed nb fl3.1 (up.trans up3) os ag
    obtain ⟨o3, v3, e3, z3, d3⟩ := fl3.there
    have nofr : a ∉ frs (X.env :: X.outer) := fun hm => by
      obtain ⟨_, o', e', hn⟩ := fl3.2.2.1.mem hm
      rw [e3] at e'
      cases e'
      exact hn _ d3
    have nL : a ≠ X.env.locals := fun z => nofr (List.mem_filterMap.mpr ⟨X.env, List.mem_cons_self, by rw [fr, z]⟩)
    have nF : a ∉ X.fs := fun hm => by
      obtain ⟨e, he, q⟩ := List.mem_filterMap.mp hm
      exact nofr (List.mem_filterMap.mpr ⟨e, List.mem_cons_of_mem _ he, q⟩)
    have S3 := J3.suite e3 d3 na nL nF
    have typ : PySem.W.Looks (model X.prog X.w) g3 (typeOf (.ref a)) cls := fun A Q E s k q => wpAny_typeOf_ref (k _ _ e3) (by rw [z3.1]; exact q)
    have named : ∀ {x : Str} {c : Value} {np : Pos} {Q E : Value → Shared → Prop}, Names X x c → Q c { s' with heap := g3 } →
        wpAny (model X.prog X.w) (X.A.mark (some (.ref a))) (eval (.Name x np) X.env) Q E { s' with heap := g3 } := fun {x c np Q E} hc q => by
      obtain ⟨hg, hdbg, hm | ⟨hm, hv, hnn⟩⟩ := hc
      · exact ld_glob (X := X.suite a ((a, o3) :: (X.pn ++ pins))) S3 hg hm q hdbg
      · exact ld_blt (X := X.suite a ((a, o3) :: (X.pn ++ pins))) S3 hg hm hv q hnn hdbg
    have go : ∀ {hs1 : List ExceptHandler} {l1 : List Cl}, HMix X hs1 l1 → wMix X.K Wo D l1 cls d τ1 G1 →
        wpAny (model X.prog X.w) X.A (handleBy (.ref a) X.env hs1) (SP X pins D) X.xe { s' with heap := g3 } := by
      intro hs1 l1 hk
      induction hk with
      | nil =>
        intro w
        refine wpAny_handleBy_nil ?_
        obtain ⟨k1, k2, k3, oe, vs, T, oT, ts', he, hz, hd, h1, hr⟩ := id fl3
        unfold PySem.passOn
        refine wpAny_bind (wpAny_field he hd h1 ?_)
        rw [if_neg (show ¬ ((Value.ref T == Value.none) = true) from by simp)]
        have fin : wpAny (model X.prog X.w) X.A (setFlight (.ref a) X.env.frame) (fun _ s4 => wpAny (model X.prog X.w) X.A (throw (.ref a) : Sem Flow) (SP X pins D) X.xe s4) X.xe { s' with heap := g3 } := by
          rw [fr]
          refine HandSPX.setFlight_upZ fl3 fun g4 hh4 up4 => wpAny_throw (tk _ _ ?_)
          exact ⟨a, B, sI, pins, τ1, G1, cls, d, rfl, J, nb, (up.trans up3).trans up4, .inr (.inr (by rw [st]; exact hh4)), na, os, ag, w⟩
        first
          | exact wpAny_bind (wpAny_pure (wpAny_bind fin))
          | exact wpAny_bind fin
      | @bare x c ts b0 bs q1 q2 hs2 l2 hc su r ih =>
        rintro ⟨b, hb1, yes, no⟩
        have LM := PySem.W.exm_one (M := model X.prog X.w) (J3.kIn) typ hb1
        refine wpAny_handleBy_cons (codeAny_handlers_test ?_) (by intro q; cases q)
        refine named hc (LM.here ?_)
        cases b with
        | false =>
          show wpAny _ X.A (handleBy (.ref a) X.env hs2) _ _ _
          exact ih (no rfl)
        | true =>
          refine codeAny_handlers_suite ?_
          refine HandSPX.lands_againZ fl3 fun g4 fl4 up4 => ?_
          have J4 : Inv X pins τ1 G1 { s' with heap := g4 } := J.landed nb fl4.1 ((up.trans up3).trans up4) os ag
          obtain ⟨o4, v4, e4, z4, d4⟩ := fl4.there
          have S4 := J4.suite e4 d4 na nL nF
          refine wpAny_mono ((su a o4 cls d (X.pn ++ pins) z4 ⟨_, d4⟩).run [] _ _ G1 _ S4 (yes rfl a na)) (fun f s6 sp => ?_) (fun _ _ z => False.elim z)
          cases f with
          | next => obtain ⟨t6, G6, S6, q6⟩ := sp; exact ⟨_, _, S6.unsuite ok, q6⟩
          | brk => obtain ⟨t6, G6, S6, q6⟩ := sp; exact ⟨_, _, S6.unsuite ok, q6⟩
          | cont => obtain ⟨t6, G6, S6, q6⟩ := sp; exact ⟨_, _, S6.unsuite ok, q6⟩
          | ret u => obtain ⟨v6, t6, G6, S6, r6, q6⟩ := sp; exact ⟨_, _, _, S6.unsuite ok, r6, q6⟩
      | @named x n i c ts b0 bs q1 q2 hs2 l2 hc hi hl su r ih =>
        rintro ⟨b, hb1, yes, no⟩
        have LM := PySem.W.exm_one (M := model X.prog X.w) (J3.kIn) typ hb1
        refine wpAny_handleBy_cons (codeAny_handlers_test ?_) (by intro q; cases q)
        refine named hc (LM.here ?_)
        cases b with
        | false =>
          show wpAny _ X.A (handleBy (.ref a) X.env hs2) _ _ _
          exact ih (no rfl)
        | true =>
          refine codeAny_handlers_suite_as ?_
          refine HandSPX.lands_againZ fl3 fun g4 fl4 up4 => ?_
          have J4 : Inv X pins τ1 G1 { s' with heap := g4 } := J.landed nb fl4.1 ((up.trans up3).trans up4) os ag
          obtain ⟨o4, v4, e4, z4, d4⟩ := fl4.there
          have S4 := J4.suite e4 d4 na nL nF
          refine store_ok (X := X.suite a ((a, o4) :: (X.pn ++ pins))) (v := .ref a) S4 nd hi (.inl hl) rfl (fun s5 S5 => ?_) (.inr hl)
          refine wpAny_mono ((su a o4 cls d (X.pn ++ pins) z4 ⟨_, d4⟩).run [] s5 _ G1 _ S5 (yes rfl a na)) (fun f s6 sp => ?_) (fun _ _ z => False.elim z)
          have fin : ∀ {t6 : L2.St} {G6 : Hp} {Q : Shared → Prop}, Inv (X.suite a ((a, o4) :: (X.pn ++ pins))) [] t6 G6 s6 → (∀ s7, Inv X pins (t6.set i none) G6 s7 → Q s7) →
              wpAny (model X.prog X.w) X.A (do bindName X.env n .none; unbindBehindTheSuite X.env n q2) (fun _ s7 => Q s7) X.xe s6 := fun {t6 G6 Q} S6 hq => gone_ok (S6.unsuite ok) nd hi hl hq
          cases f with
          | next => obtain ⟨t6, G6, S6, q6⟩ := sp; exact fin S6 fun s7 J7 => ⟨_, _, J7, q6⟩
          | brk => obtain ⟨t6, G6, S6, q6⟩ := sp; exact fin S6 fun s7 J7 => ⟨_, _, J7, q6⟩
          | cont => obtain ⟨t6, G6, S6, q6⟩ := sp; exact fin S6 fun s7 J7 => ⟨_, _, J7, q6⟩
          | ret u => obtain ⟨v6, t6, G6, S6, r6, q6⟩ := sp; exact fin S6 fun s7 J7 => ⟨_, _, _, J7, r6, q6⟩
    exact go hh w
end

/-! ## f(e, ..) where f is any expression that gives a def -/
structure CanCall (X : Cx) (CX : CXT) (k : Nat) (f : Addr) (sp : Sp) : Prop where
  ex : ∃ (fd : FuncData) (ps : List Str), FnOk X.prog X.w X.K X.mg X.base CX k f fd ps sp ∧ PySem.W.keepIn X.K (.ref f) = true ∧ Binds X.K fd ps []
/-- the promise goes with the address: S f sp -/
def tCallE (S : Addr → Sp → Prop) (E : L2.St → XK) (tf : TE) (t : TA) : TE := fun σ H Q => tf σ H fun y H1 => ∃ f sp, y = .ref f ∧ S f sp ∧ t σ H1 fun vs H2 => sp vs H2 Q (E σ)
section
variable {X : Cx} {CX : CXT} {k : Nat} {S : Addr → Sp → Prop} {E : L2.St → XK} {fe e : Expr} {es : List Expr} {tf : TE} {t : TA} {pos : Pos}
theorem pe_callE (hf : PE X fe tf) (A : ∀ f sp, S f sp → CanCall X CX k f sp) (hr : Room k X.A) (hx : ∀ σ, PassesAt CX X σ (E σ)) (ha : PA X (e :: es) t)
    (ht : eval (.Call fe (e :: es) [] pos) X.env = (do callWith pos (← eval fe X.env) [] (backTo pos (starEach (e :: es) X.env)) (backToKw pos (keywordEach [] X.env))) := by rfl)
    (he : starEach (e :: es) X.env = (false, eval e X.env) :: starEach es X.env := by rfl) (hpl : (backTo pos (starEach es X.env)).any (·.1) = false := by rfl) :
    PE X (.Call fe (e :: es) [] pos) (tCallE S E tf t) := by
  refine ⟨fun pins s σ H Q I h => ?_⟩
  rw [ht]
  refine wpAny_bind (thn (hf.run pins s σ H _ I h) fun u s1 q1 => ?_)
  obtain ⟨y, H1, I1, ry, f, sp, ey, hs, q⟩ := q1
  subst ey
  cases ry
  obtain ⟨fd, ps, F, hk, hb⟩ := (A f sp hs).ex
  refine PySem.W.callWith_K (h₀ := X.base) I.ok.mod.kin hk (thn (ha.run pos pins s1 σ H1 _ I1 q) fun us s2 q2 => ?_) he hpl
  obtain ⟨vs, H2, I2, r, q3⟩ := q2
  exact ⟨I2.kIn, run_fnS F hr hb (hx σ) I2 r q3⟩
end
end Bk
namespace Bk
open PySem PySem.Spec PyProof.Rows L2

/-! ## for i, x in enumerate(a tuple) -/
set_option maxHeartbeats 4000000 in
theorem enum_new1 {v : Value} {o : Obj} {G : Heap → Prop} (B : Begins v o G) :
    Meets (Builtin.«enumerate.__new__» ⟨[.type "enumerate", v], []⟩) (fun _ R s => G s.heap ∧
      R (.ok (.ret (.ref (s.heap.push o).objs.size))) { s with heap := (s.heap.push o).push { cls := .type "enumerate", data := .fields #[.none, .bool false, .ref s.heap.objs.size, rawInt 0, .none, .none] } }) :=
  .of_wp fun prog w A R s h => by
    obtain ⟨hp, g, d, tk, os⟩ := s
    obtain ⟨h1, h⟩ := h
    have hsub := sub_enumerate
    have it0 : ∀ {A' : Around} {E : Value → Shared → Prop} {Q : Value → Shared → Prop}, Q (.ref hp.objs.size) ⟨hp.push o, g, d, tk, os⟩ → wpAny (model prog w) A' (pyIter v) Q E ⟨hp, g, d, tk, os⟩ :=
      fun q => B.iter prog w _ _ ⟨hp, g, d, tk, os⟩ _ h1 q
    wp_walk using it0
    refine wpAny_stack_any fun st => wpAny_pure ?_
    split
    · rename_i c _ _ _ _ _
      cases (c == Value.type "enumerate") <;> (wp_walk using it0; exact ⟨_, rfl, h⟩)
    · wp_walk using it0
      exact ⟨_, rfl, h⟩
section
variable {prog : Program} {w : World} {A : Around} {E : Value → Shared → Prop} {s : Shared}
theorem enum_call1 {v : Value} {o : Obj} {G : Heap → Prop} {Q : Value → Shared → Prop} (B : Begins v o G) (h1 : G s.heap)
    (h : ∀ g, IsEnum g (s.heap.objs.size + 1) s.heap.objs.size 0 .none → g.get? s.heap.objs.size = some o → g.objs.size = s.heap.objs.size + 2 →
      (∀ b o, s.heap.get? b = some o → g.get? b = some o) → Q (.ref (s.heap.objs.size + 1)) { s with heap := g }) :
    wpAny (model prog w) A (call (.type "enumerate") [v]) Q E s := by
  refine callType_new F.called_enumerate (by decide) (F.typeCall_enumerate_1 _) (F.newCall_enumerate_1 _) (fun obj => F.args_object_init_2 obj _) F.entry_enumerate_new (enum_new1 B) ⟨h1, ?_⟩
  have z : (s.heap.push o).objs.size = s.heap.objs.size + 1 := Heap.size_push ..
  show _ ∧ _
  rw [z]
  have e0 := Heap.get?_push_size (s.heap.push o) (o := { cls := .type "enumerate", data := .fields #[.none, .bool false, .ref s.heap.objs.size, rawInt 0, .none, .none] }) rfl
  rw [z] at e0
  exact ⟨⟨_, e0, rfl⟩, h _ e0 (Heap.get?_push_of_some _ (Heap.get?_push_size _ B.free)) (by rw [Heap.size_push, z]) fun b o x => Heap.get?_push_of_some _ (Heap.get?_push_of_some _ x)⟩
end
/-- the tuple at a, each item in a new pair -/
def ItEt (K : PySem.W.Frag) (a : Addr) : It :=
  ⟨fun i G => ∃ (xs : List V) (x : V), SqT K G a xs ∧ xs[i]? = some x,
   fun i G v G' => ∃ T x, v = .ref T ∧ G T = none ∧ G' = upd G T (.tup [.int (i : Nat), x]) ∧ ∀ xs, SqT K G a xs → xs[i]? = some x,
   fun i G => ∃ xs : List V, SqT K G a xs ∧ xs.length ≤ i⟩
theorem turn_enumT {P : Program} {w : World} {K : PySem.W.Frag} {elts : List Expr} {kk : Nat} {tpos : Pos} (a e it : Addr) (hai : a ≠ it) (hea : e ≠ a) :
    Turn P w K (.Tuple elts kk tpos) (ItEt K a) [e, it] e (fun i g => (∃ old, IsEnum g e it ((i : Nat) : Int) old) ∧ g.IsTupleIter it a i ∧ e ≠ it) where
  mem := by simp
  obj := fun i g st b hb => by
    obtain ⟨⟨old, he⟩, ⟨o, ho, hc, hd⟩, _⟩ := st
    have two : b = e ∨ b = it := by simpa using hb
    rcases two with z | z
    · rw [z]; exact ⟨_, he, fun v q => nomatch q⟩
    · rw [z]; exact ⟨o, ho, fun v q => by rw [hd] at q; cases q⟩
  keep := fun i g g' st k => let ⟨⟨old, he⟩, hi, hne⟩ := st; ⟨⟨old, k e (by simp) _ he⟩, hi.at fun o q => k it (by simp) o q, hne⟩
  item := by
    intro X eP ew eK hc i pins s τ G E I hf st hg
    subst eP ew eK
    obtain ⟨⟨old, he⟩, hit, hne⟩ := st
    obtain ⟨xs, x, hq, hx⟩ := hg
    obtain ⟨its, rv, p, hz⟩ := I.tuple hq
    obtain ⟨u, hu, ru⟩ := rv.get hx
    have hel : e < s.heap.objs.size := Heap.lt_size he
    have hil : it < s.heap.objs.size := by obtain ⟨_, q, _⟩ := hit; exact Heap.lt_size q
    have lt : i < its.toArray.size := by
      have l1 := (List.getElem?_eq_some_iff.mp hu).1
      simpa using l1
    have tup : s.heap.IsTuple a its.toArray := p
    refine wpAny_pyNext_enum_itemD (Draws.tuple (show X.A.in1.handled = none from I.ok.hd hc) it a hai its.toArray) he ⟨hit, tup⟩ lt hne (by simp [hne, hea]) fun y g' tk hy ho hst hT hsz hk => ?_
    obtain rfl : u = y := by
      have h1 : its.toArray[i]? = some u := by simpa using hu
      exact Option.some.inj (h1.symm.trans hy)
    refine ⟨_, rfl, wpAny_letOwnedTupleGo_enum (s := { s with heap := g', toks := tk + 1 }) ho fun g2 he2 sb => ?_⟩
    have hT2 : g2.get? s.heap.objs.size = some { cls := .type "tuple", data := .seq #[.int i tk, u] } := (sb.2 _ (Nat.ne_of_gt hel)).trans hT
    have new : ObjOk X.prog X.w (upd G s.heap.objs.size (.tup [.int (i : Nat), x])) g2 s.heap.objs.size (.tup [.int (i : Nat), x]) :=
      ⟨by show 2 ≤ sizeLine; decide, [.int i tk, u], .cons ⟨_, rfl⟩ (.cons ru .nil), ⟨_, hT2, rfl, _, rfl⟩⟩
    have I1 : Inv X pins τ (upd G s.heap.objs.size (.tup [.int (i : Nat), x])) { s with heap := g2, toks := tk + 1 } :=
      I.turnedNew (ch := [e, it]) (fun b ob hb q => (sb.2 b (fun z => hb (by simp [z]))).trans (hk b ob (fun z => hb (by simp [z])) (fun z => hb (by simp [z])) q)) hf (Nat.le_refl _) new
    refine ⟨.ref s.heap.objs.size, _, I1, rfl, ⟨_, x, rfl, I.hok.fresh (Nat.le_refl _), rfl, fun ys hy => by rw [I.tuple_inj hy hq]; exact hx⟩, ⟨⟨u, ?_⟩, hst.1.at fun o q => (sb.2 it (Ne.symm hne)).trans q, hne⟩, fun b hb => ?_⟩
    · have e1 : ((i + 1 : Nat) : Int) = (i : Int) + 1 := by omega
      rw [e1]
      exact he2
    · have two : b = e ∨ b = it := by simpa using hb
      have lt2 : b < s.heap.objs.size := by
        rcases two with z | z
        · rw [z]; exact hel
        · rw [z]; exact hil
      rw [upd_ne (Nat.ne_of_lt lt2)]
      exact (hf b hb).1
  done := by
    intro X eP ew eK hc i pins s τ G E I hf st hg
    subst eP ew eK
    obtain ⟨⟨old, he⟩, hit, hne⟩ := st
    obtain ⟨xs, hq, hx⟩ := hg
    obtain ⟨its, rv, p, hz⟩ := I.tuple hq
    obtain ⟨f0, f1, f2, f3, f4, f5⟩ := hf it (by simp)
    have tup : s.heap.IsTuple a its.toArray := p
    have hl := rv.length
    have hT : s.TypeIs (.ref e) "enumerate" := ⟨_, he, rfl⟩
    unfold pyNext
    refine wpAny_bind (wpAny_attempt (wpAny_callSpecial?_slot (name := Str.ofString "__next__") hT F.slot_enumerate_next (wpAny_call_entry F.slot_enumerate_next hT F.entry_enumerate_next ?_ (F.args_enumerate_next_1 _))))
    show wpAny _ _ (field (.ref e) 2 >>= _) _ _ _
    refine wpAny_bind (wpAny_field he rfl (x := .ref it) rfl ?_)
    refine wpAny_bind (wpAny_nextOf_tuple_end (show X.A.in1.handled = none from I.ok.hd hc) hit tup (by simp; omega) fun g' x' eb hx' => ?_)
    obtain ⟨o, ho, hc'⟩ := hx'
    refine wpAny_bind (wpAny_isInstance (T := "StopIteration") (b := true) ⟨o, ho, hc'⟩ isSubtype_stop ?_)
    exact wpAny_pure ⟨rfl, I.turned (t' := s.toks) (fun b o hb q => eb b o hb q) f0 f1 f3 f4 f5⟩
  self := fun A i s Q E st h => let ⟨⟨_, he⟩, _⟩ := st; wpAny_pyIter_enum he h
def iEnumT (K : PySem.W.Frag) (ta : TA) : TI := fun τ G R => ta τ G fun vs G1 => ∃ a xs, vs = [.ref a] ∧ SqT K G1 a xs ∧ R (ItEt K a) G1
theorem pi_enumT {X : Cx} {e : Expr} {ta : TA} {p pos tpos : Pos} {elts : List Expr} {kk : Nat} (hg : Gl X "enumerate") (hm : X.mg "enumerate" = none) (ha : PA X [e] ta) (hs : starEach [e] X.env = [(false, eval e X.env)] := by rfl) :
    PI X (.Tuple elts kk tpos) (.Call (.Name "enumerate" p) [e] [] pos) (iEnumT X.K ta) := by
  refine ⟨fun pins s τ G R I h => ?_⟩
  refine Call_ (ld_blt I hg hm boot_enumerate (PyProof.Rows.callWith_type1 (thn (ha.run pos pins s τ G _ I h) fun us s1 q0 => ?_) hs rfl))
  obtain ⟨vs, G1, I1, r1, a, xs, ex, hq, q⟩ := q0
  subst ex
  cases r1 with
  | cons r rr =>
    cases rr
    cases r
    obtain ⟨its, rv, p', hz⟩ := I1.tuple hq
    have tup : s1.heap.IsTuple a its.toArray := p'
    have hlt : a < s1.heap.objs.size := by obtain ⟨o, eo, _⟩ := tup; exact Heap.lt_size eo
    refine enum_call1 (begins_tuple a its.toArray) tup fun g he hit hsz hk => wpAny_pyIter_enum he ?_
    have I2 : Inv X pins τ G1 { s1 with heap := g } := I1.kept (t' := s1.toks) hk
    refine ⟨s1.heap.objs.size + 1, [s1.heap.objs.size + 1, s1.heap.objs.size], _, _, G1, rfl, I2, turn_enumT a (s1.heap.objs.size + 1) s1.heap.objs.size (Nat.ne_of_lt hlt) (Nat.ne_of_gt (Nat.lt_succ_of_lt hlt)),
      ⟨⟨.none, he⟩, ⟨_, hit, rfl, rfl⟩, Nat.succ_ne_self _⟩, fun b hb => ?_, q⟩
    have two : b = s1.heap.objs.size + 1 ∨ b = s1.heap.objs.size := by simpa using hb
    have hle : s1.heap.objs.size ≤ b := by
      rcases two with z | z
      · rw [z]; exact Nat.le_add_right _ _
      · rw [z]; exact Nat.le_refl _
    exact I1.fpOk hle (I1.hok.fresh hle)
/-- over a tuple that the body leaves as it is -/
theorem for_enumT {K : PySem.W.Frag} {a : Addr} {xs : List V} {g : TG} {tb : TS} {D : Ends} {τ : L2.St} {G : Hp} (Pv : Nat → L2.St → Hp → Prop) (h0 : Pv 0 τ G) (hl : ∀ i τ G, i ≤ xs.length → Pv i τ G → SqT K G a xs)
    (step : ∀ i x τ G T, xs[i]? = some x → Pv i τ G → G T = none → g (.ref T) τ (upd G T (.tup [.int (i : Nat), x])) fun τ2 G2 => tb { D with nx := Pv (i + 1), ct := Pv (i + 1), bk := D.nx } τ2 G2)
    (last : ∀ τ G, Pv xs.length τ G → D.nx τ G) :
    ∃ W : Nat → Nat → L2.St → Hp → Prop, (∃ m, W 0 m τ G) ∧ ∀ i m τ G, W i m τ G → ((ItEt K a).stop i G ∧ D.nx τ G) ∨ ((ItEt K a).go i G ∧ ∃ N : L2.St → Hp → Prop,
      (∀ τ' G', N τ' G' → ∃ m', m' < m ∧ W (i + 1) m' τ' G') ∧ ∀ x G', (ItEt K a).yld i G x G' → g x τ G' fun τ2 G2 => tb { D with nx := N, ct := N, bk := D.nx } τ2 G2) := by
  refine ⟨fun i m τ G => m = xs.length - i ∧ i ≤ xs.length ∧ Pv i τ G, ⟨xs.length, by simp, Nat.zero_le _, h0⟩, ?_⟩
  rintro i m τ G ⟨rfl, hi, p⟩
  have q := hl i τ G hi p
  by_cases c : i < xs.length
  · refine .inr ⟨⟨xs, xs[i], q, by simp [c]⟩, Pv (i + 1), fun τ' G' p' => ⟨xs.length - (i + 1), by omega, rfl, c, p'⟩, fun x G' y => ?_⟩
    obtain ⟨T, z, rfl, hT, rfl, hz⟩ := y
    exact step i z τ G T (hz xs q) p hT
  · have e : i = xs.length := by omega
    subst e
    exact .inl ⟨⟨xs, q, Nat.le_refl _⟩, last τ G p⟩

/-! ## a dict against a text -/
theorem deq_str (l : Addr) (o : Obj) (b : Str) (u : Tok) (es : Array DictEntry) (n : Nat) (hd : o.data = .dict es n) (hc : o.cls = .type "dict") :
    Meets (Builtin.«dict.__eq__» ⟨[.ref l, .str b u], []⟩) (fun _ R s => s.heap.get? l = some o ∧ R (.ok (.ret .notImplemented)) s) :=
  .of_wp fun prog w A R s h => by
    obtain ⟨hp, g, d, tk, os⟩ := s
    obtain ⟨hl, h⟩ := h
    obtain ⟨c, dd, dt, sl⟩ := o
    dsimp only at hd hc
    subst hd hc
    have f1 := F.sub_str_dict
    wp_walk using PySem.AutoSeq1.wpAny_loadPart' hl
    exact ⟨_, rfl, h⟩
end Bk
namespace Bk
open PySem PySem.Spec PyProof.Rows L2
theorem dne_str (l : Addr) (o : Obj) (b : Str) (u : Tok) (es : Array DictEntry) (n : Nat) (hd : o.data = .dict es n) (hc : o.cls = .type "dict") :
    Meets (Builtin.«dict.__ne__» ⟨[.ref l, .str b u], []⟩) (fun _ R s => s.heap.get? l = some o ∧ R (.ok (.ret .notImplemented)) s) :=
  .of_wp fun prog w A R s h => by
    obtain ⟨hp, g, d, tk, os⟩ := s
    obtain ⟨hl, h⟩ := h
    obtain ⟨c, dd, dt, sl⟩ := o
    dsimp only at hd hc
    subst hd hc
    have f1 := F.sub_str_dict
    wp_walk using PySem.AutoSeq1.wpAny_loadPart' hl
    exact ⟨_, rfl, h⟩
theorem sne_dict (b : Str) (u : Tok) (l : Addr) (o : Obj) (es : Array DictEntry) (n : Nat) (hd : o.data = .dict es n) :
    Meets (Builtin.«str.__ne__» ⟨[.str b u, .ref l], []⟩) (fun _ R s => s.heap.get? l = some o ∧ R (.ok (.ret .notImplemented)) s) :=
  .of_wp fun prog w A R s h => by
    obtain ⟨hp, g, d, tk, os⟩ := s
    obtain ⟨hl, h⟩ := h
    obtain ⟨c, dd, dt, sl⟩ := o
    dsimp only at hd
    subst hd
    wp_walk using PySem.AutoSeq1.wpAny_loadPart' hl, wpAny_load hl
    exact ⟨_, rfl, h⟩
theorem seq_dict (b : Str) (u : Tok) (l : Addr) (o : Obj) (es : Array DictEntry) (n : Nat) (hd : o.data = .dict es n) :
    Meets (Builtin.«str.__eq__» ⟨[.str b u, .ref l], []⟩) (fun _ R s => s.heap.get? l = some o ∧ R (.ok (.ret .notImplemented)) s) :=
  .of_wp fun prog w A R s h => by
    obtain ⟨hp, g, d, tk, os⟩ := s
    obtain ⟨hl, h⟩ := h
    obtain ⟨c, dd, dt, sl⟩ := o
    dsimp only at hd
    subst hd
    wp_walk using PySem.AutoSeq1.wpAny_loadPart' hl, wpAny_load hl
    exact ⟨_, rfl, h⟩
section
variable {X : Cx}
/-- a tracked dict against a text -/
def rDS (c : Bool) : R2 := fun x y G Q => ∃ a kvs z, x = .ref a ∧ y = .str z ∧ G a = some (.dK kvs) ∧ Q (.bl c) G
theorem dict_obj {pins : List (Addr × Obj)} {τ : L2.St} {G : Hp} {s : Shared} {a : Addr} {kvs : List (Key × V)} (I : Inv X pins τ G s) (h : G a = some (.dK kvs)) :
    ∃ o es n, s.heap.get? a = some o ∧ o.data = .dict es n ∧ o.cls = .type "dict" := by
  obtain ⟨_, _, vs, _, o, es, ep, h1, h2, r⟩ := (show ObjOk X.prog X.w G s.heap a (.dK kvs) from I.hok a _ h)
  exact ⟨o, es, ep, h1, r.1, h2.1⟩
theorem op_ne_ds (hu : X.A.units < cLine) : OpR X (compareOp .NotEq) (rDS true) := by
  intro pins s τ G x y v u Q I rx ry h
  obtain ⟨a, kvs, z, rfl, rfl, ha, q⟩ := h
  cases rx
  obtain ⟨t, rfl⟩ := ry
  obtain ⟨o, es, n, ho, hd, hc⟩ := dict_obj I ha
  show wpAny _ _ (richCompare .NotEq _ _) _ _ s
  exact SeqAt.rc_ne_decline_or (k := false) ⟨o, ho, hc⟩ (typeIs_str s z t) (by decide) F.sub_str_dict F.slot_dict_ne F.slot_str_ne_refl
    (fun _ hq => call_meets F.slot_dict_ne ⟨o, ho, hc⟩ F.entry_dict_ne (F.args_dict_ne_2 _ _) (dne_str a o z t es n hd hc) ⟨ho, hq⟩)
    (fun _ hq => call_meets F.slot_str_ne_refl (typeIs_str s z t) F.entry_str_ne (F.args_str_ne_2 _ _) (sne_dict z t a o es n hd) ⟨ho, hq⟩)
    (fun _ hq => wpAny_of_eq (rfl : isSame (.ref a) (.str z t) = pure false) hq) (.inr hu) ⟨.bl true, G, I, rfl, q⟩
theorem op_eq_ds (hu : X.A.units < cLine) : OpR X (compareOp .Eq) (rDS false) := by
  intro pins s τ G x y v u Q I rx ry h
  obtain ⟨a, kvs, z, rfl, rfl, ha, q⟩ := h
  cases rx
  obtain ⟨t, rfl⟩ := ry
  obtain ⟨o, es, n, ho, hd, hc⟩ := dict_obj I ha
  show wpAny _ _ (richCompare .Eq _ _) _ _ s
  exact SeqAt.rc_eq_decline_or (k := false) ⟨o, ho, hc⟩ (typeIs_str s z t) (by decide) F.sub_str_dict F.slot_dict_eq F.slot_str_eq_refl
    (fun _ hq => call_meets F.slot_dict_eq ⟨o, ho, hc⟩ F.entry_dict_eq (F.args_dict_eq_2 _ _) (deq_str a o z t es n hd hc) ⟨ho, hq⟩)
    (fun _ hq => call_meets F.slot_str_eq_refl (typeIs_str s z t) F.entry_str_eq (F.args_str_eq_2 _ _) (seq_dict z t a o es n hd) ⟨ho, hq⟩)
    (fun _ hq => wpAny_of_eq (rfl : isSame (.ref a) (.str z t) = pure false) hq) (.inr hu) ⟨.bl false, G, I, rfl, q⟩
/-- of two rules for one operator either -/
theorem op_or {f : Value → Value → Sem Value} {r r' : R2} (h : OpR X f r) (h' : OpR X f r') : OpR X f (fun x y G Q => r x y G Q ∨ r' x y G Q) := by
  intro pins s τ G x y v u Q I rx ry q
  rcases q with q | q
  · exact h pins s τ G x y v u Q I rx ry q
  · exact h' pins s τ G x y v u Q I rx ry q
end
end Bk
/-! the mirror of buildroom.paths: what its checks say, over texts -/
namespace Bm
open PySem L2 TL
/-- [a, b, ..] below [c, ..] for single signs -/
theorem lt_one (a b : Nat) : decide (([a] : List Nat) < [b]) = decide (a < b) := by
  rw [Bool.eq_iff_iff, decide_eq_true_eq, decide_eq_true_eq]
  constructor
  · intro h
    cases h with
    | rel h => exact h
    | cons h => cases h
  · intro h
    exact List.Lex.rel h
def sgnN (c : Nat) : Bool := (decide (97 ≤ c) && decide (c ≤ 122)) || (decide (48 ≤ c) && decide (c ≤ 57))
def sgnT (c : Nat) : Bool := (decide (32 ≤ c) && decide (c ≤ 126)) || decide (c = 10)
def nameB (x : Str) : Bool := decide (1 ≤ x.length) && decide (x.length ≤ 6) && x.cps.toList.all sgnN
def partsOf (x : Str) : List Str := Txt.split x (Str.ofString "/")
def pathB (x : Str) : Bool := decide ((partsOf x).length ≤ 3) && (partsOf x).all nameB
def textB (x : Str) : Bool := decide (x.length ≤ 200) && x.cps.toList.all sgnT
def within (p f : Str) : Bool := decide (f = Str.ofString "") || Txt.startswith p (f ++ Str.ofString "/")
def isPathV : V → Bool
  | .str x => pathB x
  | _ => false
def isTextV : V → Bool
  | .str x => textB x
  | _ => false
def isFolderV : V → Bool
  | .str x => pathB x || decide (x = Str.ofString "")
  | _ => false
theorem spl_len {S : List Nat} : ∀ (l : List Nat) (k : Nat) (acc p : List Nat), p ∈ spl S k acc l → p.length ≤ acc.length + l.length
  | [], k, acc, p, h => by
    rw [spl_nil] at h
    have e : p = acc := by simpa using h
    subst e
    simp
  | c :: r, 0, acc, p, h => by
    by_cases q : pre S (c :: r) = true
    · rw [spl_hit q] at h
      rcases List.mem_cons.mp h with rfl | h
      · simp
      · have ih := spl_len r _ _ p h
        simp at ih ⊢
        omega
    · rw [spl_miss (by simpa using q)] at h
      have ih := spl_len r _ _ p h
      simp at ih ⊢
      omega
  | c :: r, k + 1, acc, p, h => by
    have h' : p ∈ spl S k acc r := h
    have ih := spl_len r _ _ p h'
    simp at ih ⊢
    omega
theorem str_len (x : Str) : (tl x).length = x.length := by simp [tl, Str.length]
theorem part_len {x p : Str} (h : p ∈ partsOf x) : p.length ≤ x.length := by
  have e := split_spl x (Str.ofString "/") (by decide) (kind_ok (by decide +kernel))
  have h1 : tl p ∈ (Txt.split x (Str.ofString "/")).map tl := List.mem_map.mpr ⟨p, h, rfl⟩
  rw [e] at h1
  have h2 := spl_len _ _ _ _ h1
  rw [str_len, str_len] at h2
  simpa using h2
example : pathB (Str.ofString "e/f/g") = true := by decide +kernel
example : pathB (Str.ofString "a/b/c/d") = false := by decide +kernel
end Bm
/-! more of what readings evaluate to -/
namespace Be
open PySem PySem.Spec PyProof.Rows L2 Bk Bm Evl
section
variable {K : PySem.W.Frag} {σ : L2.St} {H H' : Hp} {ta tb tc te tx : TE} {t u : TT} {x y z v : V} {r r' : R2}
theorem ev_chain {b1 b2 : Bool} (ha : Ev ta σ H x) (hb : Ev tb σ H y) (hr : RV r x y H (.bl b1)) (hc : b1 = true → Ev tc σ H z) (hr' : b1 = true → RV r' y z H (.bl b2)) : Ev (tChain r r' ta tb tc) σ H (.bl (b1 && b2)) := fun H1 e Q q =>
  ha H1 e _ fun H2 e2 => hb H2 (e.trans e2) _ fun H3 e3 => hr H3 ((e.trans e2).trans e3) _ fun H4 e4 => ⟨b1, rfl, by
    have e14 := (e2.trans e3).trans e4
    cases b1 with
    | false =>
      rw [if_neg (by decide)]
      exact q H4 e14
    | true =>
      rw [if_pos rfl]
      exact hc rfl H4 (e.trans e14) _ fun H5 e5 => hr' rfl H5 ((e.trans e14).trans e5) Q fun H6 e6 => q H6 ((e14.trans e5).trans e6)⟩
theorem ev_isL {xs ys : List V} (h : EvL te σ H xs) (e : xs = ys) : EvL te σ H ys := by
  rw [← e]
  exact h
theorem ev_and {a b : Bool} (h1 : Ev ta σ H (.bl a)) (h2 : a = true → Ev tb σ H (.bl b)) : Ev (tAndV ta tb) σ H (.bl (a && b)) := ev_andV h1 h2
/-- a comprehension over a text, no test -/
theorem el_lcS {j : Nat} {w : Str} {tl : TE} (f : Nat → V) (h : Ev tl σ H (.str w)) (hz : w.length ≤ 40000)
    (he : ∀ (c : Nat) H1, Ex H H1 → c ∈ w.cps.toList → Ev te (σ.set j (some (.str ⟨#[c]⟩))) H1 (f c)) : EvL (tLc (iStr tl) (gName j) tYes te [j]) σ H (w.cps.toList.map f) := fun H0 e Q q => h H0 e _ fun H1 e1 => ⟨w, rfl, fun D hD =>
  lc_it (walk_str (z := w)) (fun i G => Ex H1 G ∧ G D = some (.lst ((w.cps.toList.take i).map f))) ⟨Ex.new hD, upd_same⟩ (fun _ _ _ _ => trivial) (by
    rintro i v G G' hi ⟨s1, hd⟩ ⟨rfl, c, hc, rfl⟩
    have hl : w.cps.toList[i]? = some c := by simpa using hc
    have ee : (wipe σ [j]).set j (some (V.str ⟨#[c]⟩)) = σ.set j (some (V.str ⟨#[c]⟩)) := by
      show (σ.set j none).set j (some (V.str ⟨#[c]⟩)) = _
      rw [List.set_set]
    show wipe ((wipe σ [j]).set j (some (V.str ⟨#[c]⟩))) [j] = wipe σ [j] ∧ _
    rw [ee]
    refine ⟨by show (σ.set j _).set j none = σ.set j none; rw [List.set_set], ?_⟩
    unfold tYes
    dsimp only
    rw [if_pos rfl]
    refine he c G' ((e.trans e1).trans s1) (List.mem_of_getElem? hl) G' (Ex.refl _) _ fun G2 e2 => ⟨_, e2 D _ hd, sz_lt ?_, (s1.trans e2).mut hD, ?_⟩
    · rw [List.length_map]
      have h1 := List.length_take_le i w.cps.toList
      have h2 : w.cps.toList.length = w.length := by simp [Str.length]
      have h3 := List.length_take_le' i w.cps.toList
      omega
    · rw [upd_same, List.take_succ, hl]
      simp) (by
    rintro G ⟨s1, hd⟩
    refine q D G (fresh_back e1 hD) (e1.trans s1) ?_
    rw [hd]
    have h2 : w.cps.toList.length = w.cps.size := by simp
    rw [List.take_of_length_le (Nat.le_of_eq h2)])⟩
/-- over a list, no test -/
theorem el_lcN {j : Nat} {xs : List V} {tl : TE} (f : V → V) (h : EvL tl σ H xs) (hz : xs.length ≤ 40000)
    (he : ∀ (x : V) H1, Ex H H1 → x ∈ xs → Ev te (σ.set j (some x)) H1 (f x)) : EvL (tLc (iList K tl) (gName j) tYes te [j]) σ H (xs.map f) := fun H0 e Q q => h H0 e _ fun a H1 ha e1 hx => ⟨a, rfl, ⟨xs, sq_of hx⟩, fun D hD =>
  lc_it (walk_list (K := K) (a := a) (xs := xs)) (fun i G => Ex H1 G ∧ G D = some (.lst ((xs.take i).map f))) ⟨Ex.new hD, upd_same⟩ (fun i G _ p => sq_of (p.1 a _ hx)) (by
    rintro i v G G' hi ⟨s1, hd⟩ ⟨rfl, hl⟩
    have ee : (wipe σ [j]).set j (some v) = σ.set j (some v) := by
      show (σ.set j none).set j (some v) = _
      rw [List.set_set]
    show wipe ((wipe σ [j]).set j (some v)) [j] = wipe σ [j] ∧ _
    rw [ee]
    refine ⟨by show (σ.set j _).set j none = σ.set j none; rw [List.set_set], ?_⟩
    unfold tYes
    dsimp only
    rw [if_pos rfl]
    refine he v G' ((e.trans e1).trans s1) (List.mem_of_getElem? hl) G' (Ex.refl _) _ fun G2 e2 => ⟨_, e2 D _ hd, sz_lt ?_, (s1.trans e2).mut hD, ?_⟩
    · rw [List.length_map]
      have h3 := List.length_take_le' i xs
      omega
    · rw [upd_same, List.take_succ, hl]
      simp) (by
    rintro G ⟨s1, hd⟩
    refine q D G (fresh_back e1 hD) (e1.trans s1) ?_
    rw [hd, List.take_of_length_le (Nat.le_refl _)])⟩
/-- over a tuple, no test -/
theorem el_lcT {j : Nat} {a : Addr} {xs : List V} {tl : TE} (f : V → V) (h : Ev tl σ H (.ref a)) (hx : SqT K H a xs) (hz : xs.length ≤ 40000)
    (he : ∀ (x : V) H1, Ex H H1 → x ∈ xs → Ev te (σ.set j (some x)) H1 (f x)) : EvL (tLc (iTup K tl) (gName j) tYes te [j]) σ H (xs.map f) := fun H0 e Q q => h H0 e _ fun H1 e1 => ⟨a, rfl, ⟨xs, ex_t (e.trans e1) hx⟩, fun D hD =>
  lc_it (walk_tup (K := K) (a := a) (xs := xs)) (fun i G => Ex H1 G ∧ G D = some (.lst ((xs.take i).map f))) ⟨Ex.new hD, upd_same⟩ (fun i G _ p => ex_t ((e.trans e1).trans p.1) hx) (by
    rintro i v G G' hi ⟨s1, hd⟩ ⟨rfl, hl⟩
    have ee : (wipe σ [j]).set j (some v) = σ.set j (some v) := by
      show (σ.set j none).set j (some v) = _
      rw [List.set_set]
    show wipe ((wipe σ [j]).set j (some v)) [j] = wipe σ [j] ∧ _
    rw [ee]
    refine ⟨by show (σ.set j _).set j none = σ.set j none; rw [List.set_set], ?_⟩
    unfold tYes
    dsimp only
    rw [if_pos rfl]
    refine he v G' ((e.trans e1).trans s1) (List.mem_of_getElem? hl) G' (Ex.refl _) _ fun G2 e2 => ⟨_, e2 D _ hd, sz_lt ?_, (s1.trans e2).mut hD, ?_⟩
    · rw [List.length_map]
      have h3 := List.length_take_le' i xs
      omega
    · rw [upd_same, List.take_succ, hl]
      simp) (by
    rintro G ⟨s1, hd⟩
    refine q D G (fresh_back e1 hD) (e1.trans s1) ?_
    rw [hd, List.take_of_length_le (Nat.le_refl _)])⟩
theorem ev_all {bs : List Bool} (h : EvL te σ H (bs.map V.bl)) : Ev (tCB (rAll K) (tCons te tNil)) σ H (.bl (bs.all id)) := fun H1 e Q q =>
  h H1 e _ fun p H2 _ e2 h2 => ⟨p, bs, rfl, sq_of h2, q H2 e2⟩
theorem ev_any {bs : List Bool} (h : EvL te σ H (bs.map V.bl)) : Ev (tCB (rAny K) (tCons te tNil)) σ H (.bl (bs.any id)) := fun H1 e Q q =>
  h H1 e _ fun p H2 _ e2 h2 => ⟨p, bs, rfl, sq_of h2, q H2 e2⟩
theorem ev_lenS {w : Str} (h : Ev te σ H (.str w)) (hl : w.length ≤ 100000) : Ev (tCB (fun xs H Q => ∃ z, xs = [V.str z] ∧ z.length ≤ sizeLine ∧ Q (.int z.length) H) (tCons te tNil)) σ H (.int (w.length : Int)) := fun H1 e Q q =>
  h H1 e _ fun H2 e2 => ⟨w, rfl, sz_of hl, q H2 e2⟩
/-- what isinstance asks of any value of these programs -/
inductive Kd (K : PySem.W.Frag) (H : Hp) : V → String → Prop
  | mk {v : V} {n : String} (h : TyX K H v (.type n)) (k : n ∈ (["NoneType", "bool", "int", "str", "list", "tuple", "dict"] : List String)) : Kd K H v n
theorem kd_str (x : Str) : Kd K H (.str x) "str" := ⟨.base (.str x), by decide⟩
theorem kd_non : Kd K H .non "NoneType" := ⟨.base .non, by decide⟩
theorem kd_int (i : Int) : Kd K H (.int i) "int" := ⟨.base (.int i), by decide⟩
theorem kd_bl (b : Bool) : Kd K H (.bl b) "bool" := ⟨.base (.bl b), by decide⟩
theorem kd_lst {a : Addr} {xs : List V} (h : H a = some (.lst xs)) : Kd K H (.ref a) "list" := ⟨.base (.lst h), by decide⟩
theorem kd_tup {a : Addr} {xs : List V} (h : H a = some (.tup xs)) : Kd K H (.ref a) "tuple" := ⟨.base (.tup h), by decide⟩
theorem kd_dK {a : Addr} {kvs : List (Key × V)} (h : H a = some (.dK kvs)) : Kd K H (.ref a) "dict" := ⟨.base (.dK h), by decide⟩
theorem tyOf_mono {v : V} {T : Value} (e : Ex H H') (h : TyOf K H v T) : TyOf K H' v T := by
  cases h with
  | non => exact .non
  | bl b => exact .bl b
  | int i => exact .int i
  | str x => exact .str x
  | flt x => exact .flt x
  | lst h => exact .lst (e _ _ h)
  | frz h => exact .frz (e _ _ h)
  | tup h => exact .tup (e _ _ h)
  | dK h => exact .dK (e _ _ h)
  | dT h => exact .dT (e _ _ h)
  | ins h a b c d f => exact .ins (e _ _ h) a b c d f
theorem tyX_mono {v : V} {T : Value} (e : Ex H H') (h : TyX K H v T) : TyX K H' v T := by
  cases h with
  | base h => exact .base (tyOf_mono e h)
  | byt b => exact .byt b
  | set h => exact .set (e _ _ h)
  | kList h c => exact .kList h c
  | kTuple h c => exact .kTuple h c
  | kDict h c => exact .kDict h c
  | fTuple h => exact .fTuple (e _ _ h)
  | fDict h => exact .fDict (e _ _ h)
theorem Kd.mono {n : String} (e : Ex H H') (h : Kd K H v n) : Kd K H' v n := by
  obtain ⟨h, k⟩ := h
  exact ⟨tyX_mono e h, k⟩
theorem kd_kit {n m : String} (h : Kd K H v n) (hm : m = "str" ∨ m = "tuple") : PySem.W.kitOne K (.type n) (.type m) = some (decide (n = m)) := by
  obtain ⟨_, k⟩ := h
  simp only [List.mem_cons, List.not_mem_nil, or_false] at k
  rcases hm with rfl | rfl <;> rcases k with rfl | rfl | rfl | rfl | rfl | rfl | rfl <;> exact kit_ty (by decide +kernel)
theorem ev_isi {n m : String} (h : Ev te σ H v) (hc : Ev tx σ H (.ty m)) (k : Kd K H v n) (hm : m = "str" ∨ m = "tuple") : Ev (tCB (rIsi K) (tCons te (tCons tx tNil))) σ H (.bl (decide (n = m))) := fun H1 e Q q =>
  h H1 e _ fun H2 e2 => hc H2 (e.trans e2) _ fun H3 e3 => by
    obtain ⟨ty, kk⟩ := id (k.mono ((e.trans e2).trans e3))
    exact ⟨v, .ty m, .type n, .type m, _, rfl, .ty m, ty, kd_kit k hm, q H3 (e2.trans e3)⟩
/-- s.split(sep) -/
theorem el_split {w s : Str} (h : Ev te σ H (.str w)) (hs : Ev tx σ H (.str s)) (h0 : (s.length == 0) = false) (hl : w.length ≤ 100000) :
    EvL (tM1 (fun x xs H Q => ∃ a b, x = .str a ∧ xs = [.str b] ∧ (b.length == 0) = false ∧ a.length + 2 ≤ sizeLine ∧ rNewStrs (Txt.split a b) H Q) te tx) σ H ((Txt.split w s).map V.str) := fun H1 e Q q =>
  h H1 e _ fun H2 e2 => ⟨⟨w, rfl⟩, hs H2 (e.trans e2) _ fun H3 e3 => ⟨w, s, rfl, rfl, h0, Nat.le_trans (Nat.add_le_add_right hl 2) (by rw [sizeLine_eq]; decide), fun p hp => q p _ (fresh_back (e2.trans e3) hp) ((e2.trans e3).trans (Ex.new hp)) upd_same⟩⟩
/-- over a list that stands, no test -/
theorem el_lcA {j : Nat} {a : Addr} {xs : List V} {tl : TE} (f : V → V) (h : Ev tl σ H (.ref a)) (hx : SqL K H a xs) (hz : xs.length ≤ 40000)
    (he : ∀ (x : V) H1, Ex H H1 → x ∈ xs → Ev te (σ.set j (some x)) H1 (f x)) : EvL (tLc (iList K tl) (gName j) tYes te [j]) σ H (xs.map f) := fun H0 e Q q => h H0 e _ fun H1 e1 => ⟨a, rfl, ⟨xs, ex_l (e.trans e1) hx⟩, fun D hD =>
  lc_it (walk_list (K := K) (a := a) (xs := xs)) (fun i G => Ex H1 G ∧ G D = some (.lst ((xs.take i).map f))) ⟨Ex.new hD, upd_same⟩ (fun i G _ p => ex_l ((e.trans e1).trans p.1) hx) (by
    rintro i v G G' hi ⟨s1, hd⟩ ⟨rfl, hl⟩
    have ee : (wipe σ [j]).set j (some v) = σ.set j (some v) := by
      show (σ.set j none).set j (some v) = _
      rw [List.set_set]
    show wipe ((wipe σ [j]).set j (some v)) [j] = wipe σ [j] ∧ _
    rw [ee]
    refine ⟨by show (σ.set j _).set j none = σ.set j none; rw [List.set_set], ?_⟩
    unfold tYes
    dsimp only
    rw [if_pos rfl]
    refine he v G' ((e.trans e1).trans s1) (List.mem_of_getElem? hl) G' (Ex.refl _) _ fun G2 e2 => ⟨_, e2 D _ hd, sz_lt ?_, (s1.trans e2).mut hD, ?_⟩
    · rw [List.length_map]
      have h3 := List.length_take_le' i xs
      omega
    · rw [upd_same, List.take_succ, hl]
      simp) (by
    rintro G ⟨s1, hd⟩
    refine q D G (fresh_back e1 hD) (e1.trans s1) ?_
    rw [hd, List.take_of_length_le (Nat.le_refl _)])⟩
theorem kd_strV {x : Str} {n : String} (h : Kd K H (.str x) n) : n = "str" := by
  obtain ⟨h, _⟩ := h
  cases h with
  | base h => cases h; rfl
theorem kd_isStr {v : V} (h : Kd K H v "str") : ∃ x, v = .str x := by
  obtain ⟨h, _⟩ := h
  generalize e : Value.type "str" = T at h
  cases h with
  | base h =>
    cases h with
    | str x => exact ⟨x, rfl⟩
    | ins => cases e
    | _ => simp at e
  | _ => simp at e
theorem kd_isTup {v : V} (h : Kd K H v "tuple") : ∃ a, v = .ref a := by
  obtain ⟨h, _⟩ := h
  generalize e : Value.type "tuple" = T at h
  cases h with
  | base h =>
    cases h with
    | tup h => exact ⟨_, rfl⟩
    | ins => cases e
    | _ => simp at e
  | kTuple h c => exact ⟨_, rfl⟩
  | fTuple h => exact ⟨_, rfl⟩
  | _ => simp at e
/-- a def as its callers see it -/
structure Cal (P : Program) (w : World) (K : PySem.W.Frag) (mg : Str → Option Value) (base : Heap) (CX : CXT) (k : Nat) (x : Str) (ps : List Str) (sp : Sp) where
  f : Addr
  fd : FuncData
  F : FnOk P w K mg base CX k f fd ps sp
  g : mg x = some (.ref f)
  kp : PySem.W.keepIn K (.ref f) = true
  b : Binds K fd ps []
end
end Be
/-! own classes: len, ==; zip of tuples in a comprehension -/
namespace Cr
open PySem PySem.Spec PyProof.Rows L2 Bk Bm Evl Be
section
variable {X : Cx} {n : Nat} {C f : Addr} {fd : FuncData} {ps : List Str} {sp : Sp}
/-- len(x), x of an own class with a __len__ -/
theorem call_lenI (F : FnOk X.prog X.w X.K X.mg X.base CX0 n f fd ps sp) (hs : PySem.W.findIn X.K (.ref C) "__len__" = some (some (.ref f))) (hf : PySem.W.isFn X.K (.ref f) = true) (hb : Binds X.K fd ps []) (hr : Room (n + 1) X.A) :
    CallR X (.builtin "len") (fun xs H Q => ∃ a dx fs, xs = [.ref a] ∧ H a = some (.ins C dx fs) ∧ sp [.ref a] H (fun v H' => ∃ i, v = .int i ∧ 0 ≤ i ∧ i < 2 ^ 63 ∧ Q (.int i) H') E0) := by
  intro pins s σ H xs us Q I r h
  obtain ⟨a, dx, fs, rfl, ha, hsp⟩ := h
  obtain ⟨u, rfl, ru⟩ := vals1 r
  cases ru
  obtain ⟨mA, J, _⟩ := ins_get I.hok ha
  obtain ⟨od, J, _⟩ := J.look
  obtain ⟨m, hF⟩ := I.fr
  refine PySem.W.len_K hF I.ok.mod.kin J hs hf ?_
  have hl := F.len _ _ _ _ hsp
  have r2 : Vals [V.ref a] [Value.ref a] := .cons rfl .nil
  refine wpAny_call (codeAny_mono (F.run X.A.in1 X.stack s H ⟨[.ref a], []⟩ [.ref a] [.ref a] _ E0 hr.in1 I.env0.in1 (by
    have := hb s [.ref a] I.kIn (by simpa using hl)
    simpa using this) r2 hsp) fun r s' hq => ?_)
  cases r with
  | error e => exact pass0 pins σ H s e s' I hq
  | ok fl =>
    cases fl with
    | ret w =>
      obtain ⟨z, H', I', rz, i, rfl, h0, h1, q⟩ := I.after hq
      obtain ⟨t, rfl⟩ := rz
      exact ⟨⟨h0, h1⟩, .int i, H', I'.tok _, ⟨_, rfl⟩, q⟩
    | next => exact False.elim hq
    | brk => exact False.elim hq
    | cont => exact False.elim hq
/-- the other side of an own == -/
inductive Oth (K : PySem.W.Frag) (C : Addr) (H : Hp) : V → Prop
  | ins {b dx : Addr} {fs : List (Str × V)} (h : H b = some (.ins C dx fs)) : Oth K C H (.ref b)
  | tup {b : Addr} {xs : List V} (h : H b = some (.tup xs)) (hn : PySem.W.notFirst K C (.type "tuple") = true) : Oth K C H (.ref b)
/-- x == y, x of an own class with an __eq__ -/
theorem op_eqI (F : FnOk X.prog X.w X.K X.mg X.base CX0 n f fd ps sp) (hs : PySem.W.findIn X.K (.ref C) "__eq__" = some (some (.ref f))) (hf : PySem.W.isFn X.K (.ref f) = true) (hb : Binds X.K fd ps []) (hr : Room n X.A) :
    OpR X (compareOp .Eq) (fun x y H Q => ∃ a dx fs b, x = .ref a ∧ H a = some (.ins C dx fs) ∧ y = .ref b ∧ Oth X.K C H y ∧ sp [.ref a, .ref b] H (fun v H' => ∃ i, v = .bl i ∧ Q (.bl i) H') E0) := by
  intro pins s σ H x y v u Q I rx ry h
  obtain ⟨a, dx, fs, b, rfl, ha, rfl, oth, hsp⟩ := h
  cases rx
  cases ry
  obtain ⟨mA, J, _⟩ := ins_get I.hok ha
  obtain ⟨od, J, _⟩ := J.look
  obtain ⟨m, hF⟩ := I.fr
  have ty : ∃ tb, PySem.W.Looks (model X.prog X.w) s.heap (typeOf (.ref b)) tb ∧ PySem.W.notFirst X.K C tb = true := by
    cases oth with
    | ins hb' =>
      obtain ⟨mB, J', _⟩ := ins_get I.hok hb'
      obtain ⟨od', J', _⟩ := J'.look
      exact ⟨_, J'.type, by simp [PySem.W.notFirst]⟩
    | tup hb' hn =>
      obtain ⟨_, its, _, o, ho, hc, _⟩ := I.hok b _ hb'
      exact ⟨_, hc ▸ (PySem.W.Looks.ld ho).andThen .now, hn⟩
  obtain ⟨tb, hL, hn⟩ := ty
  show wpAny (model X.prog X.w) X.A (richCompare .Eq (.ref a) (.ref b)) (EP X pins σ Q) X.xe s
  refine PySem.W.cmp_K (op := .Eq) hr.units0 hF I.ok.mod.kin J hL hn hs hf ?_
  have hl := F.len _ _ _ _ hsp
  have r2 : Vals [V.ref a, V.ref b] [Value.ref a, Value.ref b] := .cons rfl (.cons rfl .nil)
  refine wpAny_call (codeAny_mono (F.run X.A X.stack s H ⟨[.ref a, .ref b], []⟩ [.ref a, .ref b] [.ref a, .ref b] _ E0 hr I.env0 (by
    have := hb s [.ref a, .ref b] I.kIn (by simpa using hl)
    simpa using this) r2 hsp) fun r s' hq => ?_)
  cases r with
  | error e => exact pass0 pins σ H s e s' I hq
  | ok fl =>
    cases fl with
    | ret w =>
      obtain ⟨z, H', I', rz, i, rfl, q⟩ := I.after hq
      cases rz
      exact ⟨.bl i, H', I', rfl, q⟩
    | next => exact False.elim hq
    | brk => exact False.elim hq
    | cont => exact False.elim hq
end
section
variable {K : PySem.W.Frag} {σ : L2.St} {H H' : Hp} {ta tb tc te tx : TE} {x y z v : V}
/-- pairs of two tuples -/
theorem walk_zipT {a b : Addr} {xs ys : List V} {n : Nat} (hn : n = min xs.length ys.length) : Walk (RZ.ItzT K a b) n (fun H => SqT K H a xs ∧ SqT K H b ys) (YPair (fun i => xs[i]?) (fun i => ys[i]?)) := by
  subst hn
  refine ⟨fun i _ hi q => ?_, fun _ q => ⟨xs, ys, q.1, q.2, by omega⟩, fun i H v H' _ q y => ?_⟩
  · have h1 : i < xs.length := by omega
    have h2 : i < ys.length := by omega
    exact ⟨xs, ys, xs[i], ys[i], q.1, q.2, by simp [h1], by simp [h2]⟩
  · obtain ⟨T, x, z, h1, h2, h3, h4, h5⟩ := y
    exact ⟨T, x, z, h1, h2, h3, h4 xs q.1, h5 ys q.2⟩
end
end Cr
/-! tuples that are known to be plain: dict(a tuple of pairs) -/
namespace Kr
open PySem PySem.Spec PyProof.Rows L2 Bk Bm Evl Be
/-- a plain tuple, as tuple(a list) lays it -/
def Pln (o : Obj) : Prop := o.cls = .type "tuple" ∧ o.dict = none
section
variable {X : Cx}
theorem call_tuple_ofZ : CallR X (.type "tuple") (fun vs G Q => ∃ p ys, vs = [.ref p] ∧ SqL X.K G p ys ∧ ∀ l o, G l = none → Pln o → Q (.ref l) (upd G l (.frz o (.tup ys)))) := by
  intro pins s τ G vs us Q I rv h
  obtain ⟨p, ys, rfl, hq, q⟩ := h
  obtain ⟨u, rfl, ru⟩ := vals1 rv
  cases ru
  obtain ⟨its, r2, pl, small⟩ := I.list hq
  have count := r2.length
  refine call_tuple_list pl.isList (fun g kp => ?_) (by simp only [List.size_toArray]; omega)
  have J : Inv X pins τ G { s with heap := g } := I.kept (t' := s.toks) kp
  have at_ : (g.push { cls := .type "tuple", data := .seq its.toArray }).get? g.objs.size = some { cls := .type "tuple", data := .seq its.toArray } := Heap.get?_push_size _ rfl
  have J2 : Inv X pins τ (upd G g.objs.size (.frz { cls := .type "tuple", data := .seq its.toArray } (.tup ys))) { s with heap := g.push { cls := .type "tuple", data := .seq its.toArray } } :=
    J.laid (t' := s.toks) (fun b o e => Heap.get?_push_of_some _ e) (Nat.le_refl _) (show ObjOk X.prog X.w _ _ _ (.frz _ (.tup ys)) from ⟨at_, small, its, r2, IsTup.new _ _⟩)
  exact ⟨.ref g.objs.size, _, J2, rfl, q _ _ (J.hok.fresh (Nat.le_refl _)) ⟨rfl, rfl⟩⟩
theorem pairs_raw {pins : List (Addr × Obj)} {τ : L2.St} {G : Hp} {s : Shared} (I : Inv X pins τ G s) : ∀ {ps : List Addr} {kvs : List (Key × V)}, Paired (fun p kv => SqT X.K G p [kV kv.1, kv.2]) ps kvs →
    ∃ (prs : List (Key × Value)) (raw : List (Value × Value)), KV kvs prs ∧ prs.length = ps.length ∧ raw.length = ps.length ∧
      ∀ (j : Nat) (k v : Value), raw[j]? = some (k, v) → ∃ b key, ps[j]? = some b ∧ PairAt s.heap b k v ∧ prs[j]? = some (key, v) ∧ keyIs key k = true
  | _, _, .nil => ⟨[], [], .nil, rfl, rfl, fun j k v e => by simp at e⟩
  | _, _, .cons (a := p) (b := kv) h t => by
    obtain ⟨prs, raw, r, l1, l2, hp⟩ := pairs_raw I t
    obtain ⟨its, rv, ht, _⟩ := I.tuple h
    obtain ⟨u, y, rfl, ru, ry⟩ := vals2 rv
    refine ⟨(kv.1, y) :: prs, (u, y) :: raw, .cons ⟨rfl, ry⟩ r, by rw [List.length_cons, List.length_cons, l1], by rw [List.length_cons, List.length_cons, l2], fun j k v e => ?_⟩
    cases j with
    | zero =>
      have e' : (u, y) = (k, v) := Option.some.inj e
      cases e'
      exact ⟨p, kv.1, rfl, .inl ht, rfl, kV_is (P := X.prog) (w := X.w) ru⟩
    | succ j =>
      obtain ⟨b, key, e1, e2, e3, e4⟩ := hp j k v (by simpa using e)
      exact ⟨b, key, by simpa using e1, e2, by simpa using e3, e4⟩
/-- dict(a plain tuple of pairs) -/
def rDictT (K : PySem.W.Frag) : List V → Hp → VK → Prop := fun vs G Q => ∃ (a : Addr) (o : Obj) (ps : List Addr) (kvs : List (Key × V)), vs = [.ref a] ∧ G a = some (.frz o (.tup (ps.map V.ref))) ∧ Pln o ∧
    Paired (fun p kv => SqT K G p [kV kv.1, kv.2]) ps kvs ∧ ∀ p, G p = none → Q (.ref p) (upd G p (.dK (mergeK [] kvs)))
theorem call_dictT (hcalm : X.calm = true) : CallR X (.type "dict") (rDictT X.K) := by
  intro pins s τ G vs us Q I rv h
  obtain ⟨a, o, ps, kvs, rfl, ha, hpl, hp, q⟩ := h
  obtain ⟨u, rfl, ru⟩ := vals1 rv
  cases ru
  obtain ⟨at_, small, its, r2, o2, e2, hc2, n, hdat⟩ := I.hok a _ ha
  have ei := refs_at r2
  subst ei
  rw [at_] at e2
  cases e2
  rw [List.length_map] at small
  obtain ⟨prs, raw, rel, l1, l2, hpr⟩ := pairs_raw I hp
  have P := PairArg.tuple (prog := X.prog) (w := X.w) a (ps.map Value.ref).toArray (fun j => ps.getD j 0) raw
  refine PySem.call_dict_pairs (knd := mixKind X.prog X.w) (kvs := prs) P (I.ok.hd hcalm) ⟨⟨o, n, at_, hc2, hpl.2, hdat⟩, by simp [l2], fun j k v e => ?_⟩ ⟨by rw [l1, l2], fun i key v e => ?_⟩ (by rw [l2]; exact small) fun g tk hd k => ?_
  · obtain ⟨b, key, e1, e2, _, _⟩ := hpr j k v e
    have eb : ps.getD j 0 = b := by rw [List.getD_eq_getElem?_getD, e1]; rfl
    refine ⟨by simp [e1, eb], ?_⟩
    show PairAt s.heap (ps.getD j 0) k v
    rw [eb]
    exact e2
  · obtain ⟨b, k, e1, e2, e3, e4⟩ := hpr i key v e
    exact ⟨k, e3, e4⟩
  · have hm : (s.heap.objs.size == sysModules) = false := beq_eq_false_iff_ne.mpr (Nat.ne_of_gt I.big)
    have few : (mergeK [] kvs).length ≤ sizeLine := by
      refine Nat.le_trans (length_mergeK kvs []) ?_
      rw [List.length_nil, Nat.zero_add, rel.length, l1]
      exact small
    have fine : ObjOk X.prog X.w (upd G s.heap.objs.size (.dK (mergeK [] kvs))) g s.heap.objs.size (.dK (mergeK [] kvs)) := ⟨few, hm, _, KV.merge rel .nil, hd⟩
    exact ⟨.ref s.heap.objs.size, upd G s.heap.objs.size (.dK (mergeK [] kvs)), I.laid (t' := tk) (fun b ob e => k b ob (by simp) e) (Nat.le_refl _) fine, rfl, q _ (I.hok.fresh (Nat.le_refl _))⟩
end
end Kr
/-! sorted of any alike data -/
namespace Kr
open PySem PySem.Spec PyProof.Rows L2 Bk Bm Evl Be
section
variable {X : Cx}
theorem each_vals : ∀ {bs : List (V × PyData)} {us : List Value}, Vals (bs.map Prod.fst) us → PySem.W.EachIs (fun v b => RelV b.1 v) us bs
  | [], us, r => by
    cases r
    exact .nil
  | b :: t, us, r => by
    rw [List.map_cons] at r
    cases r with
    | cons h t' => exact .cons h (each_vals t')
theorem vals_each {bs : List (V × PyData)} {us : List Value} (h : PySem.W.EachIs (fun v b => RelV b.1 v) us bs) : Vals (bs.map Prod.fst) us := by
  induction h with
  | nil => exact .nil
  | cons r _ ih => exact .cons r ih
theorem each_reads {pins : List (Addr × Obj)} {τ : L2.St} {G : Hp} {s : Shared} (I : Inv X pins τ G s) {bs : List (V × PyData)} {us : List Value} (h : PySem.W.EachIs (fun v b => RelV b.1 v) us bs) : (∀ b ∈ bs, Dp X.K G b.1 b.2) → PySem.W.EachIs (fun v b => ∃ as, Reads s.heap v b.2 as) us bs := by
  induction h with
  | nil => exact fun _ => .nil
  | @cons v b vs bs r _ ih => exact fun hd => .cons (Dp.reads I b.2 b.1 v (hd b List.mem_cons_self) r) (ih fun c hc => hd c (List.mem_cons_of_mem _ hc))
theorem cr_sortedW (hu : X.A.units + 70 < cLine) : CallR X (.builtin "sorted") (fun vs G Q => ∃ (a : Addr) (bs : List (V × PyData)), vs = [.ref a] ∧ SqL X.K G a (bs.map Prod.fst) ∧ (∀ b ∈ bs, Dp X.K G b.1 b.2) ∧ (∀ b ∈ bs, b.2.depth ≤ 64) ∧
    PySem.W.AllAlike (bs.map Prod.snd) ∧ PySem.W.Sortable (bs.map Prod.snd) ∧ ∀ p, G p = none → Q (.ref p) (upd G p (.lst ((bs.mergeSort (PySem.W.dataLe false Prod.snd)).map Prod.fst)))) := by
  intro pins s τ G vs us Q I rv h
  obtain ⟨a, bs, rfl, hq, hd, hdep, hal, hk, q⟩ := h
  obtain ⟨u, rfl, ru⟩ := vals1 rv
  cases ru
  obtain ⟨its, r2, pl, small⟩ := I.list hq
  rw [List.length_map] at small
  have each := each_vals r2
  refine PySem.W.sorted_data (R := fun v b => RelV b.1 v) (enc := Prod.snd) (bs := bs) pl.isList each (each_reads I each hd) hal hk small (fun b hb => by have := hdep b hb; omega) fun out ho eo => ?_
  obtain ⟨ep, he⟩ := PyProof.Rows.sortedAll_at s.heap its (List.toArray out)
  have few : ((bs.mergeSort (PySem.W.dataLe false Prod.snd)).map Prod.fst).length ≤ sizeLine := by rw [List.length_map, List.length_mergeSort]; exact small
  exact ⟨.ref _, upd G (s.heap.objs.size + 1) (.lst _), I.laid (t' := s.toks) (fun _ _ => PyProof.Rows.sortedAll_old) (Nat.le_succ _) ⟨few, out, ep, vals_each eo, he⟩, rfl, q _ (I.hok.fresh (Nat.le_succ _))⟩
end
end Kr
/-! sets of texts: what is in them, and their table -/
namespace Ks
open PySem PySem.Spec PyProof.Rows L2
def txt (e : Int × Value) : Str := match e.2 with
  | .str x _ => x
  | _ => Str.empty
def Txe (P : Program) (w : World) (e : Int × Value) : Prop := ∃ x tk, e.2 = Value.str x tk ∧ e.1 = (strKind P w).hash x
/-- the set of texts at a -/
def TxS (P : Program) (w : World) (h : Heap) (a : Addr) (S : Str → Bool) (n : Nat) : Prop :=
  ∃ ob xs era tab, h.get? a = some ob ∧ ob.ExactSet ∧ ob.data = .set xs era tab ∧ (∀ e ∈ xs.toList, Txe P w e) ∧ (xs.toList.map txt).Nodup ∧ (∀ x, S x = true ↔ x ∈ xs.toList.map txt) ∧
    xs.size < scanBound ∧ tab.fits xs.size = true ∧ xs.size = n ∧ Ris tab.place.toList ∧ (w.params.followText "set-order" = true ∨ tab.led = true)
section
variable {P : Program} {w : World} {A : Around} {E : Value → Shared → Prop} {s : Shared} {h h' : Heap} {a : Addr} {S : Str → Bool} {n : Nat}
theorem TxS.at (T : TxS P w h a S n) (k : ∀ o, h.get? a = some o → h'.get? a = some o) : TxS P w h' a S n := by
  obtain ⟨ob, xs, era, tab, at0, rest⟩ := T
  exact ⟨ob, xs, era, tab, k ob at0, rest⟩
theorem tx_elems {l : List (Int × Value)} (gd : ∀ e ∈ l, Txe P w e) : ElemsOf (strKind P w) l := fun e he => by
  obtain ⟨x, tk, e1, e2⟩ := gd e he
  exact ⟨⟨x, by rw [e1]; exact strKind_is P w x tk, e2⟩, by rw [e1]; rfl⟩
theorem tx_is {e : Int × Value} (gd : Txe P w e) (y : Str) : (strKind P w).is y e.2 = true ↔ txt e = y := by
  obtain ⟨x, tk, e1, _⟩ := gd
  unfold txt
  rw [e1]
  constructor
  · intro q
    have q' : (x == y) = true := q
    simpa using q'
  · rintro rfl
    exact strKind_is P w x tk
theorem tx_mem {l : List (Int × Value)} (gd : ∀ e ∈ l, Txe P w e) (y : Str) : y ∈ l.map txt ↔ ∃ e ∈ l, (strKind P w).is y e.2 = true := by
  rw [List.mem_map]
  exact ⟨fun ⟨e, he, q⟩ => ⟨e, he, (tx_is (gd e he) y).2 q⟩, fun ⟨e, he, q⟩ => ⟨e, he, (tx_is (gd e he) y).1 q⟩⟩
theorem tx_tail {giv : Bool → Sem Unit} (hgiv : ∀ (b : Bool) (s₁ : Shared) (Z : Unit → Shared → Prop), Z () s₁ → wpAny (model P w) A (giv b) Z E s₁)
    {ob : Obj} {xs : Array (Int × Value)} {era : Nat} {tab : SetTable} (at0 : s.heap.get? a = some ob) (exa : ob.ExactSet) (dat : ob.data = .set xs era tab)
    {ys : Array (Int × Value)} {tab2 : SetTable} {S' : Str → Bool} (gd : ∀ e ∈ ys.toList, Txe P w e) (nod : (ys.toList.map txt).Nodup) (mem : ∀ x, S' x = true ↔ x ∈ ys.toList.map txt)
    (few : ys.size < scanBound) (fit : tab2.fits ys.size = true) (ris : Ris tab2.place.toList) (led : w.params.followText "set-order" = true ∨ tab2.led = true) {dum : Bool} {Z : Option Bool → Shared → Prop}
    (fin : ∀ g, Heap.SameBut a s.heap g → TxS P w g a S' ys.size → Z (some true) { s with heap := g }) :
    wpAny (model P w) A (do
        storeSet a ys tab2
        if (!dum && tab2.tooFull) = true then do
            giv (relayAll tab2 ys (SetTable.grown ys.size)).2.2
            storeSet a (relayAll tab2 ys (SetTable.grown ys.size)).1 (relayAll tab2 ys (SetTable.grown ys.size)).2.1
            pure (some true)
          else pure (some true)) Z E s := by
  have at1 := store_at (es' := ys) (t' := tab2) at0 dat
  have same1 := Heap.SameBut.update s.heap a (Obj.putSet ys tab2)
  refine wpAny_bind (wpAny_storeSet_of at0 dat ?_ (fits_of_scanBound few))
  by_cases full : (!dum && tab2.tooFull) = true
  · rw [if_pos full]
    have perm := relayAll_perm tab2 ys (SetTable.grown ys.size)
    have fit3 := relayAll_fits tab2 ys (SetTable.grown ys.size)
    have ris3 := relayAll_ris tab2 ys (SetTable.grown ys.size)
    have led3 := relayAll_led tab2 ys (SetTable.grown ys.size)
    generalize relayAll tab2 ys (SetTable.grown ys.size) = laid at perm fit3 ris3 led3 ⊢
    obtain ⟨zs, tab3, gave⟩ := laid
    dsimp only at perm fit3 ris3 led3 ⊢
    have size3 : zs.size = ys.size := by
      rw [← Array.length_toList, ← Array.length_toList]
      exact perm.length_eq
    have at2 := store_at (es' := zs) (t' := tab3) at1 rfl
    refine wpAny_bind (hgiv _ _ _ (wpAny_bind (wpAny_storeSet_of at1 rfl (wpAny_pure (fin _ (same1.trans (Heap.SameBut.update _ a _)) ?_)) (fits_of_scanBound (by rw [size3]; exact few)))))
    refine ⟨_, zs, _, tab3, at2, exa, rfl, fun e he => gd e (perm.mem_iff.mp he), (perm.map txt).nodup_iff.mpr nod, fun x => (mem x).trans (perm.map txt).mem_iff.symm, by rw [size3]; exact few, fit3, size3, ris3, ?_⟩
    exact led.imp id fun z => led3.trans z
  · rw [if_neg full]
    exact wpAny_pure (fin _ same1 ⟨_, ys, _, tab2, at1, exa, rfl, gd, nod, mem, few, fit, rfl, ris, led⟩)
end
end Ks
/-! a text put to a set of texts -/
namespace Ks
open PySem PySem.Spec PyProof.Rows L2
section
variable {P : Program} {w : World} {A : Around} {E : Value → Shared → Prop} {s : Shared} {a : Addr} {S : Str → Bool} {n : Nat}
theorem tx_put {x : Str} {tk : Tok} {Z : Bool → Shared → Prop} (T : TxS P w s.heap a S n) (room : n + 1 < scanBound)
    (fin : ∀ g, Heap.SameBut a s.heap g → TxS P w g a (fun y => S y || decide (y = x)) (if S x = true then n else n + 1) → Z (!S x) { s with heap := g }) :
    wpAny (model P w) A (setAddHashed a (.str x tk) ((strKind P w).hash x)) Z E s := by
  obtain ⟨ob, xs, era, tab, at0, exa, dat, gd, nod, mem, few, fit, cnt, ris, led⟩ := T
  have isx : (strKind P w).is x (.str x tk) = true := strKind_is P w x tk
  have scan : (Value.str x tk).scannable = true := rfl
  have els : ElemsOf (strKind P w) xs.toList := tx_elems gd
  unfold setAddHashed setAddHashedIn
  refine wpAny_holding (wpAny_bind (wpAny_setState_of at0 dat fit ?_))
  dsimp only
  rw [byScan_of scan few els]
  simp only [↓reduceIte]
  unfold setAddByScan
  refine wpAny_bind (wpAny_bind (wpAny_rule (wpAny_bind (wpAny_setScan_of isx at0 dat fit els ?_))))
  cases met : List.findIdx? (fun e => (strKind P w).is x e.2) xs.toList with
  | some j =>
    dsimp only
    obtain ⟨hj, pj, _⟩ := List.findIdx?_eq_some_iff_getElem.mp met
    have inS : S x = true := (mem x).2 ((tx_mem gd x).2 ⟨xs.toList[j], List.getElem_mem hj, pj⟩)
    have q := fin s.heap (Heap.SameBut.refl a s.heap) ⟨ob, xs, era, tab, at0, exa, dat, gd, nod, fun y => by
      rw [Bool.or_eq_true, decide_eq_true_eq, ← mem y]
      exact ⟨fun z => z.elim id (fun e => e ▸ inS), .inl⟩, few, fit, by rw [if_pos inS]; exact cnt, ris, led⟩
    rw [inS] at q
    exact wpAny_pure (wpAny_pure q)
  | none =>
    dsimp only
    have away : x ∉ xs.toList.map txt := fun z => by
      obtain ⟨e, he, q⟩ := (tx_mem gd x).1 z
      have c := List.findIdx?_eq_none_iff.mp met e he
      rw [q] at c
      cases c
    have outS : S x = false := by
      cases q : S x with
      | false => rfl
      | true => exact absurd ((mem x).1 q) away
    have way : ∀ (b : Bool) {s₁ : Shared} {Z' : Unit → Shared → Prop}, Z' () s₁ → wpAny (model P w) A (match b with | true => rule "set.scan.the-table-gave-way" | false => pure ()) Z' E s₁ := fun b s₁ Z' q => by
      cases b
      · exact wpAny_pure q
      · exact wpAny_rule q
    have perm := layNew_perm tab xs ((strKind P w).hash x) (.str x tk)
    have fit1 := layNew_fits tab xs ((strKind P w).hash x) (.str x tk)
    have ris1 := layNew_ris tab xs ((strKind P w).hash x) (.str x tk) ris
    have led1 := layNew_led tab xs ((strKind P w).hash x) (.str x tk)
    generalize layNew tab xs ((strKind P w).hash x) (.str x tk) = laid at perm fit1 ris1 led1 ⊢
    obtain ⟨ys, tab1, dum, gave⟩ := laid
    dsimp only at perm fit1 ris1 led1 ⊢
    rw [Array.toList_push] at perm
    have permc : ys.toList.Perm (((strKind P w).hash x, Value.str x tk) :: xs.toList) := perm.trans (List.perm_append_singleton _ _)
    have permk : (ys.toList.map txt).Perm (x :: xs.toList.map txt) := permc.map txt
    have gd1 : ∀ e ∈ ys.toList, Txe P w e := fun e he => by
      rcases List.mem_cons.mp (permc.mem_iff.mp he) with rfl | z
      · exact ⟨x, tk, rfl, rfl⟩
      · exact gd e z
    have nod1 : (ys.toList.map txt).Nodup := permk.nodup_iff.mpr (List.nodup_cons.mpr ⟨away, nod⟩)
    have mem1 : ∀ y, (S y || decide (y = x)) = true ↔ y ∈ ys.toList.map txt := fun y => by
      rw [Bool.or_eq_true, decide_eq_true_eq, mem y, permk.mem_iff, List.mem_cons]
      exact ⟨Or.symm, Or.symm⟩
    have size1 : ys.size = n + 1 := by
      rw [← Array.length_toList, permc.length_eq]
      show xs.toList.length + 1 = n + 1
      rw [Array.length_toList, cnt]
    have few1 : ys.size < scanBound := by
      rw [size1]
      exact room
    have led2 : w.params.followText "set-order" = true ∨ tab1.led = true := led.imp id fun z => led1.trans z
    have last : ∀ g, Heap.SameBut a s.heap g → TxS P w g a (fun y => S y || decide (y = x)) ys.size → Z true { s with heap := g } := fun g same r => by
      have q := fin g same
      rw [outS] at q
      rw [size1] at r
      exact q r
    refine wpAny_bind (way _ ?_)
    split
    · refine wpAny_bind ?_
      rw [hashByValue_scannable 8 scan]
      refine wpAny_pure (tx_tail (fun b s₁ Z' q => ?_) at0 exa dat gd1 nod1 mem1 few1 ?_ ?_ ?_ fun g same r => ?_)
      · cases b
        · exact wpAny_pure q
        · exact wpAny_rule q
      · first | (split <;> first | exact fit1 | exact SetTable.fits_plain_off fit1) | exact fit1
      · first | (split <;> exact ris1) | exact ris1
      · first | (split <;> exact led2) | exact led2
      · dsimp only
        exact wpAny_pure (last g same r)
    · refine wpAny_bind (wpAny_pure ?_)
      simp only [↓reduceIte]
      refine tx_tail (fun b s₁ Z' q => ?_) at0 exa dat gd1 nod1 mem1 few1 fit1 ris1 led2 fun g same r => ?_
      · cases b
        · exact wpAny_pure q
        · exact wpAny_rule q
      · dsimp only
        exact wpAny_pure (last g same r)
theorem tx_fresh {h : Heap} {a : Addr} (at0 : h.get? a = some { cls := .type "set", dict := none, data := .set #[] 0 (.fresh 0 0 (!w.params.followText "set-order")) }) : TxS P w h a (fun _ => false) 0 := by
  refine ⟨_, #[], 0, _, at0, ⟨rfl, rfl, rfl⟩, rfl, fun e he => ?_, List.nodup_nil, fun x => ?_, by decide, rfl, rfl, List.Pairwise.nil, ?_⟩
  · simp at he
  · simp
  · show _ ∨ (!w.params.followText "set-order") = true
    cases w.params.followText "set-order"
    · exact .inr rfl
    · exact .inl rfl
end
end Ks
/-! set(a list of texts) -/
namespace Ks
open PySem PySem.Spec PyProof.Rows L2
section
variable {P : Program} {w : World} {A : Around} {E : Value → Shared → Prop} {s : Shared}
/-- the set at a has just the texts of l -/
def Has (P : Program) (w : World) (h : Heap) (a : Addr) (l : List Str) : Prop := ∃ n, n ≤ l.length ∧ TxS P w h a (fun y => decide (y ∈ l)) n
theorem Has.at {h h' : Heap} {a : Addr} {l : List Str} (x : Has P w h a l) (k : ∀ o, h.get? a = some o → h'.get? a = some o) : Has P w h' a l := by
  obtain ⟨n, hn, T⟩ := x
  exact ⟨n, hn, T.at k⟩
theorem Has.next {h : Heap} {a : Addr} {l : List Str} {x : Str} {n m : Nat} (hm : m ≤ n + 1) (hn : n ≤ l.length) (T : TxS P w h a (fun y => decide (y ∈ l) || decide (y = x)) m) : Has P w h a (l ++ [x]) := by
  refine ⟨m, by rw [List.length_append]; show m ≤ _ + 1; omega, ?_⟩
  have e : (fun y => decide (y ∈ l) || decide (y = x)) = fun y => decide (y ∈ l ++ [x]) := funext fun y => by simp
  rw [← e]
  exact T
theorem tx_loop {I : Addr} {fp wr : List Addr} {GG : Array GenState → Array GenState → Prop} {n : Nat} {Pv : Nat → Value → Prop} {St : Nat → Shared → Prop} {R : Result → Shared → Prop}
    (W : WalksS P w A.in1 I fp wr GG n Pv St) (b0 : Addr) (off : b0 ∉ fp) (xs : List Str) (cnt : n = xs.length) (few : xs.length + 1 < scanBound) (val : ∀ i v, Pv i v → ∃ x tk, xs[i]? = some x ∧ v = .str x tk) :
    ∀ (k i : Nat) (s : Shared), n - i = k → i ≤ n → St i s → Has P w s.heap b0 (xs.take i) → (∀ s', Moved (b0 :: wr) GG s s' → Has P w s'.heap b0 xs → R (.ok (.ret .none)) s') → codeAny (model P w) A (.builtin "set.update.loop" ⟨[.ref b0, .ref I], []⟩) R s := by
  have apart : b0 ∉ wr := fun h => off (W.sub _ h)
  have more : ∀ b ∈ wr, b ∈ b0 :: wr := fun b hb => List.mem_cons_of_mem _ hb
  intro k
  induction k with
  | zero =>
    intro i s hk hi at_ has fin
    obtain rfl : i = n := by omega
    apply codeAny_builtin F.entry_set_update_loop
    rw [show _ = _ from Around.under_plainId F.plain_set_update_loop _]
    show wpAny _ A.in1 (pyNext (Value.ref I) >>= _) _ _ s
    refine wpAny_bind (W.done s _ _ at_ fun s' mv => wpAny_pure (fin s' (mv.mono more) ?_))
    rw [cnt, List.take_length] at has
    exact has.at fun o e => mv.heap b0 o apart e
  | succ k again =>
    intro i s hk hi at_ has fin
    have lt : i < n := by omega
    apply codeAny_builtin F.entry_set_update_loop
    rw [show _ = _ from Around.under_plainId F.plain_set_update_loop _]
    show wpAny _ A.in1 (pyNext (Value.ref I) >>= _) _ _ s
    refine wpAny_bind (W.item i s _ _ lt at_ fun v s' pv at2 mv => ?_)
    obtain ⟨x, tk, hx, rfl⟩ := val i v pv
    obtain ⟨m, hm, T⟩ := has.at fun o e => mv.heap b0 o apart e
    have hmi : m ≤ i := Nat.le_trans hm (List.length_take_le _ _)
    show wpAny _ A.in1 (holding [Value.str x tk] (setAdd b0 (.str x tk)) >>= _) _ _ s'
    refine wpAny_bind (wpAny_holding ?_)
    unfold setAdd
    refine wpAny_holding (wpAny_bind ((strKind P w).pyHash (k := x) (strKind_is P w x tk) ?_))
    refine tx_put (s := { s' with toks := s'.toks + 1 }) T (by omega) fun g same T2 => ?_
    have has2 : Has P w g b0 (xs.take (i + 1)) := by
      rw [List.take_succ, hx]
      exact Has.next (by split <;> omega) hm T2
    refine wpAny_pure ⟨plainId_quiet F.plain_set_update_loop _, again (i + 1) _ (by omega) lt (W.frame _ s' _ _ at2 (Nat.le_succ _) fun b hb o e => ?_) has2 fun s3 mv3 has3 => ?_⟩
    · have nb : b ≠ b0 := fun z => off (z ▸ hb)
      exact (same.2 b nb).trans e
    · refine fin s3 (Moved.trans W.gtrans ((mv.mono more).then_heap (Nat.le_succ _) fun b o hb e => ?_) mv3) has3
      have nb : b ≠ b0 := fun z => hb (z ▸ List.mem_cons_self)
      exact (same.2 b nb).trans e
end
end Ks
namespace Ks
open PySem PySem.Spec PyProof.Rows L2
section
variable {P : Program} {w : World} {A : Around} {E : Value → Shared → Prop} {s : Shared}
/-- a set that was just made -/
abbrev noSet (w : World) : Obj := { cls := .type "set", dict := none, data := .set #[] 0 (.fresh 0 0 (!w.params.followText "set-order")) }
theorem set_of_texts {l : Addr} {items : Array Value} (xs : List Str) {Z : Value → Shared → Prop} (calm : A.handled = none) (isl : s.heap.IsList l items) (val : ∀ (i : Nat) (v : Value), items[i]? = some v → ∃ x tk, xs[i]? = some x ∧ v = Value.str x tk)
    (cnt : items.size = xs.length) (few : xs.length + 1 < scanBound)
    (fin : ∀ (g : Heap) (tk : Nat), Has P w g s.heap.objs.size xs → (∀ b o, s.heap.get? b = some o → g.get? b = some o) → Z (.ref s.heap.objs.size) { s with heap := g, toks := tk }) :
    wpAny (model P w) A (call (.type "set") [.ref l]) Z E s := by
  obtain ⟨c, tl, inMro⟩ := F.called_set.mro
  have isMade := F.called_set.made
  have isSub := F.called_set.sub
  refine wpAny_call (codeAny_of_tree ?_)
  show wpAny _ _ (callAny (.type "set") _) _ _ _
  refine wpAny_pure ⟨Code.quiet_builtin _ (by decide +kernel), codeAny_builtin F.entry_type_call ?_⟩
  rw [show _ = _ from Around.under_plain (weight_type_call_type "set" [.ref l] []) rfl]
  have ok1 := F.called_set.notType
  have ok2 := F.called_set.canCreate
  have ok3 := F.typeCall_set_1 (.ref l)
  repeat (any_goals (first | assumption | wp_step))
  refine codeAny_mono (code_set_led1 (.ref l) (E := E) (Q₁ := fun obj s₁ => obj = .ref s.heap.objs.size ∧ s₁ = { s with heap := s.heap.push (noSet w) }) ⟨rfl, rfl⟩) fun out s₁ got => ?_
  cases out with
  | error e => exact got
  | ok fl =>
    cases fl with
    | ret obj =>
      obtain ⟨rfl, rfl⟩ := got
      have at0 : (s.heap.push (noSet w)).get? s.heap.objs.size = some (noSet w) := Heap.get?_push_size _ rfl
      have ty0 : Shared.TypeIs { s with heap := s.heap.push (noSet w) } (.ref s.heap.objs.size) "set" := ⟨_, at0, rfl⟩
      have look0 := F.called_set.init.lookup
      have bind0 := F.called_set.init.bind (.ref s.heap.objs.size)
      repeat (any_goals (first | assumption | wp_step))
      refine codeAny_mono (codeAny_call_builtin (R := wants (fun r s₂ => r = .none ∧ ∃ g tk, s₂ = { s with heap := g, toks := tk } ∧ Has P w g s.heap.objs.size xs ∧ (∀ b o, s.heap.get? b = some o → g.get? b = some o)) E)
        F.called_set.init.plain F.entry_set_init (check_set_init_1 ty0 ?_)) fun out2 s₂ got2 => ?_
      · obtain ⟨ol, hol, hcl, nl, hdl⟩ := isl
        obtain ⟨ocls, odict, odata, oslots⟩ := ol
        simp only at hcl hdl
        subst hcl hdl
        have hol2 : (s.heap.push (noSet w)).get? l = some { cls := .type "list", dict := odict, data := .seq items nl, slots := oslots } := Heap.get?_push_of_some _ hol
        have no1 := F.sub_list_set
        have no2 := F.sub_list_frozenset
        have no3 : (Value.type "list" == Value.type "dict") = false := by decide
        have isl2 : (s.heap.push (noSet w)).IsList l items := ⟨_, hol2, rfl, nl, rfl⟩
        unfold Builtin.«set.__init__» noKeywords Builtin.Frozenset.updateFrom
        generalize hPI : pyIter = PI
        wp_walk
        subst hPI
        refine wpAny_pyIter_list isl2 ?_
        refine wpAny_bind (wpAny_runValue ?_)
        have low : l < s.heap.objs.size := Heap.lt_size hol
        have calm3 : A.in1.in1.in1.handled = none := by simp [calm]
        have size1 : (s.heap.push (noSet w)).objs.size = s.heap.objs.size + 1 := Heap.size_push ..
        have apart1 : l ≠ (s.heap.push (noSet w)).objs.size := by rw [size1]; exact Nat.ne_of_lt (Nat.lt_succ_of_lt low)
        have apart2 : s.heap.objs.size ∉ [(s.heap.push (noSet w)).objs.size, l] := by
          rw [size1]
          intro z
          rcases List.mem_cons.mp z with z | z
          · exact absurd z (Nat.ne_of_lt (Nat.lt_succ_self _))
          · exact absurd (List.mem_singleton.mp z) (Nat.ne_of_gt low)
        refine tx_loop ((Walks.list calm3 _ l apart1 items).toS) s.heap.objs.size apart2 xs cnt few val (items.size - 0) 0 _ (by omega) (Nat.zero_le _) ⟨⟨_, Heap.get?_push_size _ rfl, rfl, rfl⟩, (isl2.push _)⟩ ?has0 ?end0
        case has0 => exact ⟨0, Nat.le_refl _, by
          have T := tx_fresh (P := P) (w := w) (h := (s.heap.push (noSet w)).push { cls := .type "list_iterator", data := .fields #[.ref l, .int 0 0] }) (Heap.get?_push_of_some _ at0)
          have e : (fun y => decide (y ∈ xs.take 0)) = fun _ : Str => false := funext fun y => by simp
          rw [e]
          exact T⟩
        case end0 =>
          intro s' mv has
          obtain ⟨g, gens, drawn, tk, os⟩ := s'
          obtain rfl : gens = s.gens := mv.gens
          obtain rfl : drawn = s.drawn := mv.drawn
          obtain rfl : os = s.os := mv.os
          have keep : ∀ b o, s.heap.get? b = some o → g.get? b = some o := fun b o e => mv.heap b o (fun z => by
            have lt := Heap.lt_size e
            rcases List.mem_cons.mp z with z | z
            · exact absurd z (Nat.ne_of_lt lt)
            · have e3 := List.mem_singleton.mp z
              rw [size1] at e3
              exact absurd e3 (Nat.ne_of_lt (Nat.lt_succ_of_lt lt))) (Heap.get?_push_of_some _ (Heap.get?_push_of_some _ e))
          show wpAny _ _ _ _ _ _
          refine wpAny_pure ?_
          show wpAny _ _ (ret Value.none) _ _ _
          exact wpAny_pure ⟨rfl, g, tk, rfl, has, keep⟩
      · cases out2 with
        | error e => exact got2
        | ok fl2 =>
          cases fl2 with
          | ret r =>
            obtain ⟨rfl, g, tk, rfl, has, keep⟩ := got2
            repeat (any_goals (first | assumption | wp_step))
            exact fin _ _ has keep
          | _ => exact got2.elim
    | _ => exact got.elim
end
end Ks
/-! sorted(a set of texts); both as rules of the hand layer -/
namespace Ks
open PySem PySem.Spec PyProof.Rows L2
theorem strs_of : ∀ (l : List Value), (∀ v ∈ l, ∃ x tk, v = Value.str x tk) → StrsAre l (l.map fun v => txt (0, v))
  | [], _ => .nil
  | v :: r, h => by
    obtain ⟨x, tk, rfl⟩ := h v List.mem_cons_self
    exact .cons x tk (strs_of r fun u hu => h u (List.mem_cons_of_mem _ hu))
section
variable {P : Program} {w : World} {A : Around} {E : Value → Shared → Prop} {s : Shared}
theorem sort_texts {a : Addr} {xs : List Str} {Z : Value → Shared → Prop} (has : Has P w s.heap a xs) (calm : A.handled = none) (few : xs.length < 64)
    (fin : ∀ s' p (out : Array Value) (c : Nat) (ys : List Str), (∀ b o, s.heap.get? b = some o → s'.heap.get? b = some o) → s'.gens = s.gens → s'.os = s.os → s.heap.objs.size ≤ p →
      s'.heap.get? p = some (seqObj "list" out c) → StrsAre out.toList ys → sortedS ys = true → ys.Nodup → (∀ y, y ∈ ys ↔ y ∈ xs) → ys.length ≤ xs.length → Z (.ref p) s') :
    wpAny (model P w) A (call (.builtin "sorted") [.ref a]) Z E s := by
  obtain ⟨n, hn, ob, es, era, tab, at0, exa, dat, gd, nod, mem, small, fit, cnt, ris, led⟩ := has
  refine Calls.call_function_entry kind_sorted plain_sorted entry_sorted (args_sorted1 _) ?_
  unfold Builtin.«sorted»
  refine wpAny_bind (m := checkCount "sorted" 1 1 _) (wpAny_pure (wpAny_bind (collect_set (A := A.in1) calm ⟨ob, at0, exa.1, dat⟩ fit small ris led fun s1 vs k1 hz g1 o1 pm => ?_)))
  have count : vs.length = n := by
    rw [pm.length_eq, List.length_map, Array.length_toList]
    exact cnt
  have texts : ∀ v ∈ vs, ∃ x tk, v = Value.str x tk := fun v hv => by
    obtain ⟨e, he, rfl⟩ := List.mem_map.mp (pm.mem_iff.mp hv)
    obtain ⟨x, tk, h1, _⟩ := gd e he
    exact ⟨x, tk, h1⟩
  have txs := strs_of vs texts
  have pk : (vs.map fun v => txt (0, v)).Perm (es.toList.map txt) := by
    have q := pm.map fun v => txt (0, v)
    rw [List.map_map] at q
    exact q
  refine wpAny_bind (wpAny_newList ?_ (by rw [count, sizeLine_eq]; omega))
  have atL : (s1.heap.push (seqObj "list" vs.toArray 0)).get? s1.heap.objs.size = some (seqObj "list" vs.toArray 0) := Heap.get?_push_size _ rfl
  refine wpAny_bind (wpAny_holding (wpAny_call_entry slot_list_sort ⟨_, atL, rfl⟩ entry_list_sort (list_sort_treeK strKind_oneLt atL txs.keysOf (fun v₁ v₂ rest e => keyKind_strs (by rw [← e]; exact txs)) (by omega) fun st' hp hs => ?_) (args_list_sort _)))
  obtain ⟨ys, a1, a2, a3⟩ := sorted_out_str txs hp hs
  refine ⟨_, rfl, ?_⟩
  obtain ⟨c, hc⟩ := sortedHeap_at (vs := vs) (out := (arrOf st').map (·.2)) atL
  have py := a2.trans pk
  refine wpAny_pure ⟨_, rfl, fin _ s1.heap.objs.size _ c ys (fun b u e => ?_) g1 o1 hz hc a1 a3 (py.nodup_iff.mpr nod) (fun y => by rw [py.mem_iff, ← mem y]; simp) ?_⟩
  · have old := k1 b u e
    have below := Heap.lt_size old
    show (sortedHeap (s1.heap.push (seqObj "list" vs.toArray 0)) s1.heap.objs.size vs ((arrOf st').map (·.2))).get? b = some u
    rw [sortedHeap_old (Nat.ne_of_lt below) (by rw [size_push']; exact Nat.lt_succ_of_lt below)]
    exact Heap.get?_push_of_some _ old
  · rw [py.length_eq, List.length_map, Array.length_toList, cnt]
    exact hn
end
/-- the set of the texts of xs -/
def SetX (P : Program) (w : World) (a : Addr) (xs : List Str) : HO := .ext fun h => Has P w h a xs
section
variable {X : Cx}
theorem cr_setX (hc : X.calm = true) : CallR X (.type "set") (fun vs G Q => ∃ (a : Addr) (xs : List Str), vs = [.ref a] ∧ SqL X.K G a (xs.map V.str) ∧ xs.length < 1000 ∧ ∀ p, G p = none → Q (.ref p) (upd G p (SetX X.prog X.w p xs))) := by
  intro pins s τ G vs us Q I rv h
  obtain ⟨a, xs, rfl, hq, few, q⟩ := h
  obtain ⟨u, rfl, ru⟩ := vals1 rv
  cases ru
  obtain ⟨its, r2, pl, small⟩ := I.list hq
  have count := r2.length
  rw [List.length_map] at count
  refine set_of_texts xs (I.ok.hd hc) pl.isList (fun i v e => ?_) (by simp only [List.size_toArray]; exact count.symm) (by unfold scanBound; omega) fun g tk has keep => ?_
  · have e' : its[i]? = some v := by simpa using e
    have lt : i < (xs.map V.str).length := by
      have := (List.getElem?_eq_some_iff.mp e').1
      rw [List.length_map]
      omega
    obtain ⟨v2, h1, h2⟩ := r2.get (List.getElem?_eq_getElem lt)
    rw [e'] at h1
    cases h1
    rw [List.length_map] at lt
    rw [List.getElem_map] at h2
    obtain ⟨tk, rfl⟩ := h2
    exact ⟨xs[i], tk, List.getElem?_eq_getElem lt, rfl⟩
  · obtain ⟨n, hn, ob, rest⟩ := id has
    have fine : ObjOk X.prog X.w (upd G s.heap.objs.size (SetX X.prog X.w s.heap.objs.size xs)) g s.heap.objs.size (SetX X.prog X.w s.heap.objs.size xs) := by
      refine ⟨has, ?_, fun h1 h2 h3 k => h3.at k⟩
      obtain ⟨_, _, _, at0, _⟩ := rest
      exact ⟨ob, at0⟩
    exact ⟨.ref s.heap.objs.size, _, I.laid (t' := tk) keep (Nat.le_refl _) fine, rfl, q _ (I.hok.fresh (Nat.le_refl _))⟩
theorem cr_sortedX (hc : X.calm = true) : CallR X (.builtin "sorted") (fun vs G Q => ∃ (a : Addr) (xs : List Str), vs = [.ref a] ∧ G a = some (SetX X.prog X.w a xs) ∧ xs.length < 64 ∧
    ∀ (ys : List Str) p, sortedS ys = true → ys.Nodup → (∀ y, y ∈ ys ↔ y ∈ xs) → G p = none → Q (.ref p) (upd G p (.lst (ys.map V.str)))) := by
  intro pins s τ G vs us Q I rv h
  obtain ⟨a, xs, rfl, ha, few, q⟩ := h
  obtain ⟨u, rfl, ru⟩ := vals1 rv
  cases ru
  have has : Has X.prog X.w s.heap a xs := (I.hok a _ ha).1
  refine sort_texts has (I.ok.hd hc) few fun s' p out c ys keep g o hp hg txs so nd mem len => ?_
  have small : (ys.map V.str).length ≤ sizeLine := by rw [List.length_map, sizeLine_eq]; omega
  have new : G p = none := I.hok.fresh hp
  have J : Inv X pins τ (upd G p (.lst (ys.map V.str))) { s with heap := s'.heap, gens := s'.gens, drawn := s'.drawn, toks := s'.toks } :=
    I.call (ch := []) (Un.laid keep hp new) (I.hok.laid keep hp ⟨small, out.toList, c, vals_of_strs txs, hg⟩) (by rw [g]; exact I.bare) (fun _ z => nomatch z)
  obtain ⟨h', g', d', t', o'⟩ := s'
  obtain rfl : o' = s.os := o
  exact ⟨.ref p, _, J, rfl, q ys p so nd mem new⟩
end
end Ks
/-! dict(a plain tuple of pairs), as a dict that stands -/
namespace Kr
open PySem PySem.Spec PyProof.Rows L2 Bk Bm Evl Be
section
variable {X : Cx}
def rDictZ (K : PySem.W.Frag) : List V → Hp → VK → Prop := fun vs G Q => ∃ (a : Addr) (o : Obj) (ps : List Addr) (kvs : List (Key × V)), vs = [.ref a] ∧ G a = some (.frz o (.tup (ps.map V.ref))) ∧ Pln o ∧
    Paired (fun p kv => SqT K G p [kV kv.1, kv.2]) ps kvs ∧ ∀ p od, G p = none → Q (.ref p) (upd G p (.frz od (.dK (mergeK [] kvs))))
theorem call_dictZ (hcalm : X.calm = true) : CallR X (.type "dict") (rDictZ X.K) := by
  intro pins s τ G vs us Q I rv h
  obtain ⟨a, o, ps, kvs, rfl, ha, hpl, hp, q⟩ := h
  obtain ⟨u, rfl, ru⟩ := vals1 rv
  cases ru
  obtain ⟨at_, small, its, r2, o2, e2, hc2, n, hdat⟩ := I.hok a _ ha
  have ei := refs_at r2
  subst ei
  rw [at_] at e2
  cases e2
  rw [List.length_map] at small
  obtain ⟨prs, raw, rel, l1, l2, hpr⟩ := pairs_raw I hp
  have P := PairArg.tuple (prog := X.prog) (w := X.w) a (ps.map Value.ref).toArray (fun j => ps.getD j 0) raw
  refine PySem.call_dict_pairs (knd := mixKind X.prog X.w) (kvs := prs) P (I.ok.hd hcalm) ⟨⟨o, n, at_, hc2, hpl.2, hdat⟩, by simp [l2], fun j k v e => ?_⟩ ⟨by rw [l1, l2], fun i key v e => ?_⟩ (by rw [l2]; exact small) fun g tk hd k => ?_
  · obtain ⟨b, key, e1, e2, _, _⟩ := hpr j k v e
    have eb : ps.getD j 0 = b := by rw [List.getD_eq_getElem?_getD, e1]; rfl
    refine ⟨by simp [e1, eb], ?_⟩
    show PairAt s.heap (ps.getD j 0) k v
    rw [eb]
    exact e2
  · obtain ⟨b, k, e1, e2, e3, e4⟩ := hpr i key v e
    exact ⟨k, e3, e4⟩
  · have hm : (s.heap.objs.size == sysModules) = false := beq_eq_false_iff_ne.mpr (Nat.ne_of_gt I.big)
    have few : (mergeK [] kvs).length ≤ sizeLine := by
      refine Nat.le_trans (length_mergeK kvs []) ?_
      rw [List.length_nil, Nat.zero_add, rel.length, l1]
      exact small
    obtain ⟨od, eod⟩ : ∃ od, g.get? s.heap.objs.size = some od := by
      obtain ⟨od, _, _, e, _⟩ := id hd
      exact ⟨od, e⟩
    have fine : ObjOk X.prog X.w (upd G s.heap.objs.size (.frz od (.dK (mergeK [] kvs)))) g s.heap.objs.size (.frz od (.dK (mergeK [] kvs))) := ⟨eod, few, hm, _, KV.merge rel .nil, hd⟩
    exact ⟨.ref s.heap.objs.size, upd G s.heap.objs.size (.frz od (.dK (mergeK [] kvs))), I.laid (t' := tk) (fun b ob e => k b ob (by simp) e) (Nat.le_refl _) fine, rfl, q _ _ (I.hok.fresh (Nat.le_refl _))⟩
end
end Kr
/-! sorted of a tuple of alike data -/
namespace Kr
open PySem PySem.Spec PyProof.Rows L2 Bk Bm Evl Be
section
variable {P : Program} {w : World} {A : Around} {E : Value → Shared → Prop} {s : Shared}
theorem coll_tup {l : Addr} {o : Obj} {vs : List Value} {n : Nat} {Q : List Value → Shared → Prop} (ho : s.heap.get? l = some o) (hc : o.cls = .type "tuple") (hd : o.data = .seq vs.toArray n) (hz : vs.length ≤ sizeLine)
    (h : Q vs { s with heap := (s.heap.push (seqObj "list" #[] 0)).update s.heap.objs.size (Obj.mapSeq (· ++ vs.toArray)) }) : wpAny (model P w) A (collect (.ref l)) Q E s := by
  unfold collect
  refine wpAny_bind (wpAny_runValue (codeAny_builtin entry_proto_collect' (wpAny_bind (wpAny_newList (wpAny_pure ⟨Code.quiet_builtin _ (by decide +kernel), codeAny_builtin entry_list_iadd' ?_⟩)))))
  have at0 : (s.heap.push (seqObj "list" #[] 0)).get? s.heap.objs.size = some (seqObj "list" #[] 0) := Heap.get?_push_size _ rfl
  have hl2 := Heap.get?_push_of_some (seqObj "list" #[] 0) ho
  show wpAny _ _ (Builtin.List.listExtendWith (.ref s.heap.objs.size) (.ref l) (.ref s.heap.objs.size)) _ _ _
  unfold Builtin.List.listExtendWith; refine wpAny_bind (wpAny_typeOf (T := "tuple") ⟨o, hl2, hc⟩ ?_)
  rw [if_pos (by simp)]
  refine wpAny_bind (listItems_at hl2 hd (wpAny_bind (listItems_at (xs := #[]) (n := 0) at0 rfl ?_)))
  rw [if_neg (by simp)]; refine wpAny_bind (listUpdate_at (xs := #[]) (n := 0) at0 rfl (wpAny_pure ?_) (Nat.zero_le _) (by simp; omega))
  refine wpAny_bind (wpAny_load (get?_update_seq at0 _) ?_)
  have e : ((#[] : Array Value) ++ vs.toArray).toList = vs := by simp
  show wpAny _ _ (pure ((#[] : Array Value) ++ vs.toArray).toList : Sem _) _ _ _
  rw [e]
  exact wpAny_pure h
theorem sort_tup {l : Addr} {o : Obj} {vs : List Value} {n : Nat} {κ : PyProof.Rows.KeyKind} {Q : Value → Shared → Prop} (ho : s.heap.get? l = some o) (hc : o.cls = .type "tuple") (hd : o.data = .seq vs.toArray n) (hz : vs.length ≤ sizeLine)
    (S : PySem.W.SortsAt P w A.in1.in1 { s with heap := PySem.W.sortingHeap (PySem.W.copyHeap s.heap vs) (s.heap.objs.size + 1) vs } κ vs)
    (h : Q (.ref (s.heap.objs.size + 1)) { s with heap := sortedAll s.heap vs (PySem.W.sortVals κ false vs vs).toArray }) : wpAny (model P w) A (call (.builtin "sorted") [.ref l]) Q E s := by
  refine Calls.call_function_entry kind_sorted plain_sorted entry_sorted (args_sorted1 _) (show wpAny _ _ (Builtin.«sorted» _) _ _ _ from ?_)
  unfold Builtin.«sorted»; refine wpAny_bind (m := checkCount "sorted" 1 1 _) (wpAny_pure (wpAny_bind (coll_tup ho hc hd hz (wpAny_bind (wpAny_newList ?_ hz)))))
  have at1 := PySem.W.copyHeap_at s.heap vs
  have e1 : ((s.heap.push (seqObj "list" #[] 0)).update s.heap.objs.size (Obj.mapSeq (· ++ vs.toArray))).objs.size = s.heap.objs.size + 1 := by rw [Heap.size_update, size_push']
  show wpAny _ _ _ _ _ { s with heap := PySem.W.copyHeap s.heap vs }; rw [e1]
  refine wpAny_bind (wpAny_holding (wpAny_call_entry slot_list_sort ⟨_, at1, rfl⟩ entry_list_sort (PySem.W.list_sort_vals (s := { s with heap := PySem.W.copyHeap s.heap vs }) at1 S hz ⟨_, rfl, ?_⟩) (args_list_sort _)))
  exact wpAny_pure ⟨_, rfl, h⟩
/-- sorted(a tuple): a list of THE sorted data -/
theorem sort_tup_data {l : Addr} {o : Obj} {vs : List Value} {bs : List (V × PyData)} {n : Nat} {Q : Value → Shared → Prop} (ho : s.heap.get? l = some o) (hc : o.cls = .type "tuple") (hd : o.data = .seq vs.toArray n)
    (e : PySem.W.EachIs (fun v b => RelV b.1 v) vs bs) (er : PySem.W.EachIs (fun v b => ∃ as, Reads s.heap v b.2 as) vs bs) (hal : PySem.W.AllAlike (bs.map Prod.snd)) (hk : PySem.W.Sortable (bs.map Prod.snd)) (hL : bs.length ≤ sizeLine)
    (hu : ∀ b, b ∈ bs → A.units + 2 + b.2.depth < cLine)
    (h : ∀ out, out.length = bs.length → PySem.W.EachIs (fun v b => RelV b.1 v) out (bs.mergeSort (PySem.W.dataLe false Prod.snd)) → Q (.ref (s.heap.objs.size + 1)) { s with heap := sortedAll s.heap vs (List.toArray out) }) :
    wpAny (model P w) A (call (.builtin "sorted") [.ref l]) Q E s := by
  have er2 : PySem.W.EachIs (fun v b => ∃ as, Reads (PySem.W.sortingHeap (PySem.W.copyHeap s.heap vs) (s.heap.objs.size + 1) vs) v b.2 as) vs bs := er.mono fun _ _ ⟨as, r⟩ => ⟨as, PyProof.Rows.Reads.keeps (fun _ _ => PySem.W.sorting_copy_old) r⟩
  have ew := PySem.W.each_map (R := fun v d => ∃ as, Reads (PySem.W.sortingHeap (PySem.W.copyHeap s.heap vs) (s.heap.objs.size + 1) vs) v d as) Prod.snd er2
  refine sort_tup ho hc hd (by rw [e.length]; exact hL) (PySem.W.SortsAt.data (s := { s with heap := PySem.W.sortingHeap (PySem.W.copyHeap s.heap vs) (s.heap.objs.size + 1) vs }) ew hal hk (PySem.W.bound_map hu)) (h _ ?_ (PySem.W.sortVals_data false e er2 hal))
  rw [PySem.W.sortVals_length false rfl, e.length]
end
section
variable {X : Cx}
def rSortedD (Sq : Hp → Addr → List V → Prop) (K : PySem.W.Frag) : List V → Hp → VK → Prop := fun vs G Q => ∃ (a : Addr) (bs : List (V × PyData)), vs = [.ref a] ∧ Sq G a (bs.map Prod.fst) ∧ (∀ b ∈ bs, Dp K G b.1 b.2) ∧ (∀ b ∈ bs, b.2.depth ≤ 64) ∧
    PySem.W.AllAlike (bs.map Prod.snd) ∧ PySem.W.Sortable (bs.map Prod.snd) ∧ ∀ p, G p = none → Q (.ref p) (upd G p (.lst ((bs.mergeSort (PySem.W.dataLe false Prod.snd)).map Prod.fst)))
theorem cr_sortedDL (hu : X.A.units + 70 < cLine) : CallR X (.builtin "sorted") (rSortedD (SqL X.K) X.K) := cr_sortedW hu
theorem cr_sortedDT (hu : X.A.units + 70 < cLine) : CallR X (.builtin "sorted") (rSortedD (SqT X.K) X.K) := by
  intro pins s τ G vs us Q I rv h
  obtain ⟨a, bs, rfl, hq, hd, hdep, hal, hk, q⟩ := h
  obtain ⟨u, rfl, ru⟩ := vals1 rv
  cases ru
  obtain ⟨its, r2, pl, small⟩ := I.tuple hq
  rw [List.length_map] at small
  have each := each_vals r2
  obtain ⟨o, ho, hc, n, hdat⟩ := pl
  refine sort_tup_data (bs := bs) ho hc hdat each (each_reads I each hd) hal hk small (fun b hb => by have := hdep b hb; omega) fun out ho eo => ?_
  obtain ⟨ep, he⟩ := PyProof.Rows.sortedAll_at s.heap its (List.toArray out)
  have few : ((bs.mergeSort (PySem.W.dataLe false Prod.snd)).map Prod.fst).length ≤ sizeLine := by rw [List.length_map, List.length_mergeSort]; exact small
  exact ⟨.ref _, upd G (s.heap.objs.size + 1) (.lst _), I.laid (t' := s.toks) (fun _ _ => PyProof.Rows.sortedAll_old) (Nat.le_succ _) ⟨few, out, ep, vals_each eo, he⟩, rfl, q _ (I.hok.fresh (Nat.le_succ _))⟩
end
end Kr
namespace Bp
open PySem PySem.Spec PyProof.Rows L2 Bk Bm Evl Be Cr
def top (i : Nat) : Stmt := PySem.Challenge.pw_buildroom_k03_whole_told.main.body.getD i (.Pass ⟨0, 0, 0, 0⟩)
abbrev sLies : Stmt := top 8
abbrev sWay : Stmt := top 9
abbrev sIsName : Stmt := top 10
abbrev sIsPath : Stmt := top 11
abbrev sIsFolder : Stmt := top 12
abbrev sIsText : Stmt := top 13
abbrev sHas : Stmt := top 14
/-- the built-ins and the module's constants -/
structure Gv (mg : Str → Option Value) : Prop where
  len : mg "len" = none
  all : mg "all" = none
  any : mg "any" = none
  isi : mg "isinstance" = none
  str : mg "str" = none
  tup : mg "tuple" = none
  lst : mg "list" = none
  int : mg "int" = none
  rng : mg "range" = none
  enu : mg "enumerate" = none
  mn : ∃ t, mg "MOST_NAMES" = some (.int 3 t)
  ln : ∃ t, mg "LONGEST_NAME" = some (.int 6 t)
  lt : ∃ t, mg "LONGEST_TEXT" = some (.int 200 t)
  zip : mg "zip" = none
  srt : mg "sorted" = none
  set_ : mg "set" = none
  max : mg "max" = none
  mr : ∃ t, mg "MOST_RULES" = some (.int 8 t)
  mj : ∃ t, mg "MOST_JOINED" = some (.int 4 t)
  lw : ∃ t, mg "LONGEST_WORD" = some (.int 8 t)
section
variable {σ : L2.St} {H : Hp}
theorem rv_leS {a b : Str} {k : Bool} (e : (!decide (b.cps.toList < a.cps.toList)) = k) : RV (fun x y H Q => ∃ i j, x = V.str i ∧ y = V.str j ∧ Q (.bl (!decide (j.cps.toList < i.cps.toList))) H) (.str a) (.str b) H (.bl k) := fun H1 _ Q q =>
  ⟨a, b, rfl, rfl, by rw [e]; exact q H1 (Ex.refl H1)⟩
theorem rv_gtS {a b : Str} : RV (fun x y H Q => ∃ i j, x = V.str i ∧ y = V.str j ∧ Q (.bl (decide (j.cps.toList < i.cps.toList))) H) (.str a) (.str b) H (.bl (decide (b.cps.toList < a.cps.toList))) := fun H1 _ Q q =>
  ⟨a, b, rfl, rfl, q H1 (Ex.refl H1)⟩
theorem not_lt_dec (a b : Nat) : (!decide (a < b)) = decide (b ≤ a) := by
  by_cases h : a < b
  · rw [decide_eq_true h, decide_eq_false (by omega)]; rfl
  · rw [decide_eq_false h, decide_eq_true (by omega)]; rfl
theorem le_lo {c n : Nat} : (!decide ((⟨#[c]⟩ : Str).cps.toList < (⟨#[n]⟩ : Str).cps.toList)) = decide (n ≤ c) := by
  show (!decide (([c] : List Nat) < [n])) = _
  rw [lt_one, not_lt_dec]
end
section
variable {P : Program} {w : World} {K : PySem.W.Frag} {mg : Str → Option Value} {base : Heap}
/-! ### is_name -/
def spName : Sp := fun vs H Q _ => ∃ x : Str, vs = [.str x] ∧ x.length ≤ 100000 ∧ RetV (.bl (nameB x)) H Q
theorem scName : FnScope ["word", "sign"] ["word"] (defScope sIsName) := ⟨rfl, rfl, rfl, by decide +kernel, rfl, by decide +kernel, by decide +kernel⟩
theorem ok_name {f : Addr} {fd : FuncData} (F : Fun K "is_name" "is_name" sIsName f fd) (T : Gv mg) : FnOk P w K mg base CX0 1 f fd ["word"] spName := by
  refine F.ok scName (fun vs H Q E h => ?_) (fun cdv A outer s H vs Q E hr h => ?_)
  · obtain ⟨x, rfl, _⟩ := h
    rfl
  · obtain ⟨x, rfl, hl, k⟩ := h
    obtain ⟨t1, m1⟩ := T.ln
    refine ⟨_, pss_one (ps_ret (pe_and (pe_chain op_le op_le pe_int (pe_callB call_len_str (by rfl) T.len PySem.boot_len (pa_cons (pv 0) pa_nil)) (pe_glob (v := .int 6) (by rfl) m1 ⟨_, rfl⟩))
      (pe_one (pe_callB (cr_all rfl) (by rfl) T.all boot_all (pa_cons (pe_lc (own := [("sign", 1)]) (g := gName 1) (tt := tYes) rfl scName.nd (pi_str (pv 0)) (blkOk_by (N := ["word", "sign"]) (sc := defScope sIsName) (by decide +kernel))
        (fun _ _ _ _ _ => pg_name (i := 1) scName.nd rfl (Or.inl rfl)) (fun _ _ _ _ _ => pts_nil)
        (fun _ _ _ _ _ => pe_or (pe_chain op_le_str op_le_str pe_str (pv 1) pe_str) (pe_one (pe_chain op_le_str op_le_str pe_str (pv 1) pe_str)))) pa_nil))))), ?_⟩
    refine s_ret (v := .bl (nameB x)) ?_ k
    refine ev_is (ev_and (a := decide ((1:Int) ≤ x.length) && decide ((x.length : Int) ≤ 6)) (b := (x.cps.toList.map sgnN).all id)
      (ev_chain ev_c (ev_lenS (ev_var rfl) hl) (rv_I0) (fun _ => ev_c) (fun _ => rv_I0))
      (fun hh => ev_all (ev_isL (el_lcS (fun c => .bl (sgnN c)) (ev_var rfl) ?_ fun c H1 e1 hc => ?_) ?_))) ?_
    · simp only [Bool.and_eq_true, decide_eq_true_eq] at hh
      omega
    · exact ev_orV (a := decide (97 ≤ c) && decide (c ≤ 122)) (b := decide (48 ≤ c) && decide (c ≤ 57)) (ev_chain ev_c (ev_var rfl) (rv_leS le_lo) (fun _ => ev_c) (fun _ => rv_leS le_lo)) (fun _ => ev_chain ev_c (ev_var rfl) (rv_leS le_lo) (fun _ => ev_c) (fun _ => rv_leS le_lo))
    · simp
    · have d1 : decide ((1 : Int) ≤ (x.length : Int)) = decide (1 ≤ x.length) := decide_eq_decide.mpr (by omega)
      have d2 : decide ((x.length : Int) ≤ 6) = decide (x.length ≤ 6) := decide_eq_decide.mpr (by omega)
      rw [d1, d2]
      simp [nameB, List.all_map]
/-! ### is_path -/
def spPath : Sp := fun vs H Q _ => ∃ v n, vs = [v] ∧ Kd K H v n ∧ (∀ x, v = .str x → x.length ≤ 100000) ∧ RetV (.bl (isPathV v)) H Q
theorem scPath : FnScope ["value", "names", "name"] ["value"] (defScope sIsPath) := ⟨rfl, rfl, rfl, by decide +kernel, rfl, by decide +kernel, by decide +kernel⟩
theorem ok_path {f : Addr} {fd : FuncData} (F : Fun K "is_path" "is_path" sIsPath f fd) (T : Gv mg) (cN : Cal P w K mg base CX0 1 "is_name" ["word"] spName) : FnOk P w K mg base CX0 2 f fd ["value"] (spPath (K := K)) := by
  refine F.ok scPath (fun vs H Q E h => ?_) (fun cdv A outer s H vs Q E hr h => ?_)
  · obtain ⟨x, n, rfl, _⟩ := h
    rfl
  · obtain ⟨v, n, rfl, kd, hl, k⟩ := h
    obtain ⟨t1, m1⟩ := T.mn
    refine ⟨_, pss_cons (ps_if (pt_not (pt_val (pe_callB call_isi (by rfl) T.isi boot_isinstance (pa_cons (pv 0) (pa_cons (pe_bltn (v := .ty "str") (by rfl) T.str (by decide +kernel) rfl) pa_nil))))) (pss_one (ps_ret pe_bl)) pss_nil)
      (pss_cons (ps_set (i := 1) scPath.nd rfl (Or.inl rfl) (pe_split (pv 0) pe_str))
      (pss_one (ps_ret (pe_and (pe_cmpR op_le (pe_callB call_len_seq (by rfl) T.len PySem.boot_len (pa_cons (pv 1) pa_nil)) (pe_glob (v := .int 3) (by rfl) m1 ⟨_, rfl⟩) (nomark _))
        (pe_one (pe_callB (cr_all rfl) (by rfl) T.all boot_all (pa_cons (pe_lc (own := [("name", 2)]) (g := gName 2) (tt := tYes) rfl scPath.nd (pi_list (pv 1)) (blkOk_by (N := ["value", "names", "name"]) (sc := defScope sIsPath) (by decide +kernel))
          (fun _ _ _ _ _ => pg_name (i := 2) scPath.nd rfl (Or.inl rfl)) (fun _ _ _ _ _ => pts_nil)
          (fun _ _ _ _ _ => pe_call cN.F hr rfl cN.g cN.kp cN.b .nil pass0 (pa_cons (pv 2) pa_nil))) pa_nil))))))), ?_⟩
    refine q_when (et_not (et_B (ev_isi (ev_var rfl) ev_c kd (.inl rfl)))) (fun hb H1 e1 => ?_) (fun hb H1 e1 => ?_)
    · have hn : n ≠ "str" := by simpa using hb
      refine s_ret (v := .bl (isPathV v)) (ev_is ev_c ?_) fun H2 e2 => k H2 (e1.trans e2)
      cases v with
      | str x => exact absurd (kd_strV kd) hn
      | _ => rfl
    · have hn : n = "str" := by simpa using hb
      subst hn
      obtain ⟨x, rfl⟩ := kd_isStr kd
      have hx := hl x rfl
      refine q_asgL (el_split (ev_var rfl) ev_c (by decide) hx) fun p H2 hp e2 h2 => ?_
      refine s_ret (v := .bl (pathB x)) ?_ fun H3 e3 => k H3 ((e1.trans e2).trans e3)
      refine ev_is (ev_and (a := decide (((partsOf x).length : Int) ≤ 3)) (b := ((partsOf x).map nameB).all id)
        (ev_is (ev_op (ev_len (ev_var rfl) (sq_of h2)) ev_c rv_I0) ?_)
        (fun hh => ev_all (ev_isL (el_lcA (fun y => match y with | .str z => .bl (nameB z) | _ => .non) (ev_var rfl) (sq_of h2) ?_ fun y H4 e4 hy => ?_) ?_))) ?_
      · rw [List.length_map]
        rfl
      · have h3 : ((partsOf x).length : Int) ≤ 3 := by simpa using hh
        rw [List.length_map]
        have h4 : (Txt.split x (Str.ofString "/")).length = (partsOf x).length := rfl
        omega
      · obtain ⟨z, hz, rfl⟩ := List.mem_map.mp hy
        have h5 := part_len (x := x) (p := z) hz
        exact ev_call (ea_cons (ev_var rfl) ea_nil) fun H5 e5 Q' q' E' => ⟨z, rfl, by omega, q'⟩
      · simp [partsOf]
      · have d1 : decide (((partsOf x).length : Int) ≤ 3) = decide ((partsOf x).length ≤ 3) := decide_eq_decide.mpr (by omega)
        rw [d1]
        simp [pathB, List.all_map]
/-! ### is_text -/
def spText : Sp := fun vs H Q _ => ∃ v n, vs = [v] ∧ Kd K H v n ∧ (∀ x, v = .str x → x.length ≤ 100000) ∧ RetV (.bl (isTextV v)) H Q
theorem scHas : FnScope ["value", "most", "sign"] ["value", "most"] (defScope sHas) := ⟨rfl, rfl, rfl, by decide +kernel, rfl, by decide +kernel, by decide +kernel⟩
def hasB (m : Nat) (x : Str) : Bool := decide (x.length ≤ m) && x.cps.toList.all sgnT
def hasV (m : Nat) : V → Bool
  | .str x => hasB m x
  | _ => false
def spHas : Sp := fun vs H Q _ => ∃ v n, ∃ m : Nat, vs = [v, .int (m : Int)] ∧ m ≤ 40000 ∧ Kd K H v n ∧ (∀ x, v = .str x → x.length ≤ 100000) ∧ RetV (.bl (hasV m v)) H Q
theorem ok_has {f : Addr} {fd : FuncData} (F : Fun K "has_signs" "has_signs" sHas f fd) (T : Gv mg) : FnOk P w K mg base CX0 1 f fd ["value", "most"] (spHas (K := K)) := by
  refine F.ok scHas (fun vs H Q E h => ?_) (fun cdv A outer s H vs Q E hr h => ?_)
  · obtain ⟨x, n, m, rfl, _⟩ := h
    rfl
  · obtain ⟨v, n, m, rfl, hm, kd, hl, k⟩ := h
    refine ⟨_, pss_cons (ps_if (pw_or (pt_not (pt_val (pe_callB call_isi (by rfl) T.isi boot_isinstance (pa_cons (pv 0) (pa_cons (pe_bltn (v := .ty "str") (by rfl) T.str (by decide +kernel) rfl) pa_nil)))))
        (pw_or1 (pt_cmpR op_gt (pe_callB call_len_str (by rfl) T.len PySem.boot_len (pa_cons (pv 0) pa_nil)) (pv 1) (nomark _)))).pt (pss_one (ps_ret pe_bl)) pss_nil)
      (pss_one (ps_ret (pe_callB (cr_all rfl) (by rfl) T.all boot_all (pa_cons (pe_lc (own := [("sign", 2)]) (g := gName 2) (tt := tYes) rfl scHas.nd (pi_str (pv 0)) (blkOk_by (N := ["value", "most", "sign"]) (sc := defScope sHas) (by decide +kernel))
          (fun _ _ _ _ _ => pg_name (i := 2) scHas.nd rfl (Or.inl rfl)) (fun _ _ _ _ _ => pts_nil)
          (fun _ _ _ _ _ => pe_or (pe_chain op_le_str op_le_str pe_str (pv 2) pe_str) (pe_one (pe_cmpR op_eq (pv 2) pe_str (nomark _))))) pa_nil)))), ?_⟩
    refine q_when (b := !(decide (n = "str")) || (match v with | .str x => decide ((m : Int) < x.length) | _ => false)) (et_or (et_not (et_B (ev_isi (ev_var rfl) ev_c kd (.inl rfl)))) fun hb => ?_) (fun hb H1 e1 => ?_) (fun hb H1 e1 => ?_)
    · have hn : n = "str" := by simpa using hb
      subst hn
      obtain ⟨x, rfl⟩ := kd_isStr kd
      exact et_test (ev_op (ev_lenS (ev_var rfl) (hl x rfl)) (ev_var rfl) rv_I0)
    · refine s_ret (v := .bl (hasV m v)) (ev_is ev_c ?_) fun H2 e2 => k H2 (e1.trans e2)
      cases v with
      | str x =>
        have hn := kd_strV kd
        subst hn
        have h6 : (m : Int) < x.length := by simpa using hb
        have h7 : hasB m x = false := by
          simp only [hasB, Bool.and_eq_false_iff, decide_eq_false_iff_not]
          left
          omega
        show _ = V.bl (hasB m x)
        rw [h7]
      | _ => rfl
    · have hb' := hb
      simp only [Bool.or_eq_false_iff] at hb'
      have hn : n = "str" := by simpa using hb'.1
      subst hn
      obtain ⟨x, rfl⟩ := kd_isStr kd
      have h6 : (x.length : Int) ≤ m := by simpa using hb'.2
      refine s_ret (v := .bl (hasB m x)) ?_ fun H2 e2 => k H2 (e1.trans e2)
      refine ev_is (ev_all (bs := x.cps.toList.map sgnT) (ev_isL (el_lcS (fun c => .bl (sgnT c)) (ev_var rfl) (by omega) fun c H1 e1 hc => ?_) ?_)) ?_
      · exact ev_orV (a := decide (32 ≤ c) && decide (c ≤ 126)) (b := decide (c = 10)) (ev_chain ev_c (ev_var rfl) (rv_leS le_lo) (fun _ => ev_c) (fun _ => rv_leS le_lo)) (fun _ => ev_is (ev_op (ev_var rfl) ev_c (rv_eq rfl)) (by
          congr 1
          rw [Bool.eq_iff_iff, decide_eq_true_eq, decide_eq_true_eq]
          constructor
          · intro h
            injection h with h
            have h8 : ([c] : List Nat) = [10] := congrArg (fun z : Str => z.cps.toList) h
            simpa using h8
          · rintro rfl
            rfl))
      · simp
      · simp [hasB, List.all_map]
        intro _
        omega
theorem scText : FnScope ["value"] ["value"] (defScope sIsText) := ⟨rfl, rfl, rfl, by decide +kernel, rfl, by decide +kernel, by decide +kernel⟩
theorem ok_text {f : Addr} {fd : FuncData} (F : Fun K "is_text" "is_text" sIsText f fd) (T : Gv mg) (cH : Cal P w K mg base CX0 1 "has_signs" ["value", "most"] (spHas (K := K))) : FnOk P w K mg base CX0 2 f fd ["value"] (spText (K := K)) := by
  refine F.ok scText (fun vs H Q E h => ?_) (fun cdv A outer s H vs Q E hr h => ?_)
  · obtain ⟨x, n, rfl, _⟩ := h
    rfl
  · obtain ⟨v, n, rfl, kd, hl, k⟩ := h
    obtain ⟨t1, m1⟩ := T.lt
    refine ⟨_, pss_one (ps_ret (pe_call cH.F hr (by rfl) cH.g cH.kp cH.b .nil pass0 (pa_cons (pv 0) (pa_cons (pe_glob (v := .int 200) (by rfl) m1 ⟨_, rfl⟩) pa_nil)))), ?_⟩
    refine s_ret (v := .bl (isTextV v)) (ev_call (ea_cons (ev_var rfl) (ea_cons ev_c ea_nil)) fun H1 e Q q E => ⟨v, n, 200, rfl, by decide, kd.mono e, hl, ?_⟩) k
    have z : hasV 200 v = isTextV v := by cases v <;> rfl
    rw [z]
    exact q
/-! ### is_folder -/
theorem scFolder : FnScope ["value"] ["value"] (defScope sIsFolder) := ⟨rfl, rfl, rfl, by decide +kernel, rfl, by decide +kernel, by decide +kernel⟩
/-! ### lies_within -/
def spLies : Sp := fun vs H Q _ => ∃ p f : Str, vs = [.str p, .str f] ∧ f.length ≤ 100000 ∧ RetV (.bl (within p f)) H Q
theorem scLies : FnScope ["path", "folder"] ["path", "folder"] (defScope sLies) := ⟨rfl, rfl, rfl, by decide +kernel, rfl, by decide +kernel, by decide +kernel⟩
theorem ok_lies {f : Addr} {fd : FuncData} (F : Fun K "lies_within" "lies_within" sLies f fd) : FnOk P w K mg base CX0 1 f fd ["path", "folder"] spLies := by
  refine F.ok scLies (fun vs H Q E h => ?_) (fun cdv A outer s H vs Q E hr h => ?_)
  · obtain ⟨x, n, rfl, _⟩ := h
    rfl
  · obtain ⟨p, fo, rfl, hl, k⟩ := h
    refine ⟨_, pss_one (ps_ret (pe_or (pe_cmpR op_eq (pv 1) pe_str (nomark _)) (pe_one (pe_m1 PySem.F.slot_str_startswith PySem.F.type_str_startswith mt_startswith (pv 0) (pe_op op_add_str (pv 1) pe_str))))), ?_⟩
    refine s_ret (v := .bl (within p fo)) ?_ k
    refine ev_is (ev_orV (a := decide (V.str fo = V.str (Str.ofString ""))) (b := Txt.startswith p (fo ++ Str.ofString "/")) (ev_op (ev_var rfl) ev_c (rv_eq rfl)) (fun _ =>
      fun H1 e1 Q q => ⟨_, rfl, ⟨p, rfl⟩, ev_op (r := fun x y H Q => ∃ i j, x = .str i ∧ y = .str j ∧ i.length + j.length ≤ sizeLine ∧ Q (.str (i ++ j)) H) (ev_var (v := .str fo) rfl) (ev_c (v := .str (Str.ofString "/"))) (z := .str (fo ++ Str.ofString "/"))
        (fun H2 e2 Q2 q2 => ⟨fo, _, rfl, rfl, Nat.le_trans (Nat.add_le_add_right hl 1) (by rw [sizeLine_eq]; decide), q2 H2 (Ex.refl _)⟩) H1 e1 _ fun H2 e2 => ⟨p, _, rfl, rfl, q H2 e2⟩⟩)) ?_
    simp [within]
/-! ### in_the_way -/
def way (p q : Str) : Bool := decide (p = q) || (within p q || within q p)
def spWay : Sp := fun vs H Q _ => ∃ p q : Str, vs = [.str p, .str q] ∧ p.length ≤ 100000 ∧ q.length ≤ 100000 ∧ RetV (.bl (way p q)) H Q
theorem scWay : FnScope ["one", "other"] ["one", "other"] (defScope sWay) := ⟨rfl, rfl, rfl, by decide +kernel, rfl, by decide +kernel, by decide +kernel⟩
theorem ok_way {f : Addr} {fd : FuncData} (F : Fun K "in_the_way" "in_the_way" sWay f fd) (cL : Cal P w K mg base CX0 1 "lies_within" ["path", "folder"] spLies) : FnOk P w K mg base CX0 2 f fd ["one", "other"] spWay := by
  refine F.ok scWay (fun vs H Q E h => ?_) (fun cdv A outer s H vs Q E hr h => ?_)
  · obtain ⟨x, n, rfl, _⟩ := h
    rfl
  · obtain ⟨p, q, rfl, hp, hq, k⟩ := h
    refine ⟨_, pss_one (ps_ret (pe_or (pe_cmpR op_eq (pv 0) (pv 1) (nomark _)) (pe_or (pe_call cL.F hr (by rfl) cL.g cL.kp cL.b .nil pass0 (pa_cons (pv 0) (pa_cons (pv 1) pa_nil)))
      (pe_one (pe_call cL.F hr (by rfl) cL.g cL.kp cL.b .nil pass0 (pa_cons (pv 1) (pa_cons (pv 0) pa_nil))))))), ?_⟩
    refine s_ret (v := .bl (way p q)) ?_ k
    refine ev_is (ev_orV (a := decide (V.str p = V.str q)) (b := within p q || within q p) (ev_op (ev_var rfl) (ev_var rfl) (rv_eq rfl)) (fun _ =>
      ev_orV (ev_call (ea_cons (ev_var rfl) (ea_cons (ev_var rfl) ea_nil)) fun H5 e5 Q' q' E' => ⟨p, q, rfl, hq, q'⟩) (fun _ => ev_call (ea_cons (ev_var rfl) (ea_cons (ev_var rfl) ea_nil)) fun H5 e5 Q' q' E' => ⟨q, p, rfl, hp, q'⟩))) ?_
    simp [way]
end
/-- a small value of any kind -/
inductive Sm (H : Hp) : V → Prop
  | non : Sm H .non
  | bl (b : Bool) : Sm H (.bl b)
  | int (i : Int) : Sm H (.int i)
  | str (x : Str) (h : x.length ≤ 1000) : Sm H (.str x)
  | l1 {a : Addr} (h : H a = some (.lst [.str (Str.ofString "a")])) : Sm H (.ref a)
  | t1 {a : Addr} (h : H a = some (.tup [.str (Str.ofString "a")])) : Sm H (.ref a)
  | d0 {a : Addr} (h : H a = some (.dK [])) : Sm H (.ref a)
section
variable {H H' : Hp} {K : PySem.W.Frag} {v : V}
theorem Sm.mono (e : Ex H H') (h : Sm H v) : Sm H' v := by
  cases h with
  | non => exact .non
  | bl b => exact .bl b
  | int i => exact .int i
  | str x h => exact .str x h
  | l1 h => exact .l1 (e _ _ h)
  | t1 h => exact .t1 (e _ _ h)
  | d0 h => exact .d0 (e _ _ h)
theorem Sm.kd (h : Sm H v) : ∃ n, Kd K H v n := by
  cases h with
  | non => exact ⟨_, kd_non⟩
  | bl b => exact ⟨_, kd_bl b⟩
  | int i => exact ⟨_, kd_int i⟩
  | str x h => exact ⟨_, kd_str x⟩
  | l1 h => exact ⟨_, kd_lst h⟩
  | t1 h => exact ⟨_, kd_tup h⟩
  | d0 h => exact ⟨_, kd_dK h⟩
theorem Sm.len {x : Str} (h : Sm H (.str x)) : x.length ≤ 1000 := by
  cases h with
  | str _ h => exact h
/-- v == "z", v != "z" for small values -/
theorem sh_a : SeqAt.shaped (.tuple [.str (Str.ofString "a")]) = true := by decide +kernel
theorem sh_l : SeqAt.shaped (.list [.str (Str.ofString "a")]) = true := by decide +kernel
def rEqSm (K : PySem.W.Frag) : R2 := fun x y H Q => rEq x y H Q ∨ (rEqD K x y H Q ∨ rDS false x y H Q)
def rNeSm (K : PySem.W.Frag) : R2 := fun x y H Q => rNe x y H Q ∨ (rNeD K x y H Q ∨ rDS true x y H Q)
theorem op_eqSm {X : Cx} (hu : X.A.units + 64 < cLine) : OpR X (compareOp .Eq) (rEqSm X.K) := op_or op_eq (op_or (op_eqD hu) (op_eq_ds (by omega)))
theorem op_neSm {X : Cx} (hu : X.A.units + 64 < cLine) : OpR X (compareOp .NotEq) (rNeSm X.K) := op_or op_ne (op_or (op_neD hu) (op_ne_ds (by omega)))
theorem rv_eqSm {z : Str} (h : Sm H v) (hz : SeqAt.shaped (.str z) = true) : RV (rEqSm K) v (.str z) H (.bl (decide (v = .str z))) := fun H1 e Q q => by
  have g := h.mono e
  have q1 := q H1 (Ex.refl _)
  cases g with
  | non => exact .inl ⟨rfl, q1⟩
  | bl b => exact .inl ⟨rfl, q1⟩
  | int i => exact .inl ⟨rfl, q1⟩
  | str x h => exact .inl ⟨rfl, q1⟩
  | l1 g1 => exact .inr (.inl ⟨_, _, .lst (SqL.of g1) (.cons (.str _) .nil), .str z, sh_l, hz, by simpa [PyData.eqv] using q1⟩)
  | t1 g1 => exact .inr (.inl ⟨_, _, .tup (SqT.of g1) (.cons (.str _) .nil), .str z, sh_a, hz, by simpa [PyData.eqv] using q1⟩)
  | d0 g1 => exact .inr (.inr ⟨_, _, _, rfl, rfl, g1, by simpa using q1⟩)
theorem rv_neSm {z : Str} (h : Sm H v) (hz : SeqAt.shaped (.str z) = true) : RV (rNeSm K) v (.str z) H (.bl (!decide (v = .str z))) := fun H1 e Q q => by
  have g := h.mono e
  have q1 := q H1 (Ex.refl _)
  cases g with
  | non => exact .inl ⟨rfl, q1⟩
  | bl b => exact .inl ⟨rfl, q1⟩
  | int i => exact .inl ⟨rfl, q1⟩
  | str x h => exact .inl ⟨rfl, q1⟩
  | l1 g1 => exact .inr (.inl ⟨_, _, .lst (SqL.of g1) (.cons (.str _) .nil), .str z, sh_l, hz, by simpa [PyData.eqv] using q1⟩)
  | t1 g1 => exact .inr (.inl ⟨_, _, .tup (SqT.of g1) (.cons (.str _) .nil), .str z, sh_a, hz, by simpa [PyData.eqv] using q1⟩)
  | d0 g1 => exact .inr (.inr ⟨_, _, _, rfl, rfl, g1, by simpa using q1⟩)
end
section
variable {P : Program} {w : World} {K : PySem.W.Frag} {mg : Str → Option Value} {base : Heap}
theorem spv_path {v : V} {H : Hp} (h : Sm H v) : SpV (spPath (K := K)) [v] H (.bl (isPathV v)) := fun H1 e Q q E => by
  obtain ⟨n, kd⟩ := (h.mono e).kd (K := K)
  exact ⟨v, n, rfl, kd, fun x hx => by subst hx; exact Nat.le_trans h.len (by decide), q⟩
theorem spv_text {v : V} {H : Hp} (h : Sm H v) : SpV (spText (K := K)) [v] H (.bl (isTextV v)) := fun H1 e Q q E => by
  obtain ⟨n, kd⟩ := (h.mono e).kd (K := K)
  exact ⟨v, n, rfl, kd, fun x hx => by subst hx; exact Nat.le_trans h.len (by decide), q⟩
/-! ### is_folder -/
def spFolder : Sp := fun vs H Q _ => ∃ v, vs = [v] ∧ Sm H v ∧ RetV (.bl (isFolderV v)) H Q
theorem ok_folder {f : Addr} {fd : FuncData} (F : Fun K "is_folder" "is_folder" sIsFolder f fd) (cP : Cal P w K mg base CX0 2 "is_path" ["value"] (spPath (K := K))) : FnOk P w K mg base CX0 3 f fd ["value"] spFolder := by
  refine F.ok scFolder (fun vs H Q E h => ?_) (fun cdv A outer s H vs Q E hr h => ?_)
  · obtain ⟨x, rfl, _⟩ := h
    rfl
  · obtain ⟨v, rfl, sm, k⟩ := h
    have hu : (A.deeper (envOfC "is_folder" (defScope sIsFolder) s.heap.objs.size f cdv)).units + 64 < cLine := by have := hr.un; omega
    refine ⟨_, pss_one (ps_ret (pe_or (pe_call cP.F hr (by rfl) cP.g cP.kp cP.b .nil pass0 (pa_cons (pv 0) pa_nil)) (pe_one (pe_cmpR (op_eqSm hu) (pv 0) pe_str (nomark _))))), ?_⟩
    refine s_ret (v := .bl (isFolderV v)) ?_ k
    refine ev_is (ev_orV (a := isPathV v) (b := decide (v = .str (Str.ofString ""))) (ev_call (ea_cons (ev_var rfl) ea_nil) (spv_path sm)) (fun _ => ev_op (ev_var rfl) ev_c (rv_eqSm sm (by decide +kernel)))) ?_
    cases v <;> simp [isPathV, isFolderV]
theorem ev_lenT {σ : L2.St} {H : Hp} {ta : TE} {p : Addr} {xs : List V} (ha : Ev ta σ H (.ref p)) (h : SqT K H p xs) : Ev (tCB (rLenS K) (tCons ta tNil)) σ H (.int (xs.length : Int)) := fun H1 e Q q =>
  ha H1 e _ fun H2 e2 => ⟨p, xs, rfl, Or.inr (ex_t (e.trans e2) h), q H2 e2⟩
end
end Bp
namespace Bp
open PySem PySem.Spec PyProof.Rows L2 Bk Bm Evl Be Cr
abbrev sIsWord : Stmt := top 31
abbrev sFits : Stmt := top 32
/-- a thing behind a rule's kind: no tuple, or a tuple of small values -/
inductive Th (K : PySem.W.Frag) (H : Hp) : V → Option (List V) → Prop
  | sm {v : V} {n : String} (h : Sm H v) (k : Kd K H v n) (hn : n ≠ "tuple") : Th K H v none
  | tu {a : Addr} {xs : List V} (h : H a = some (.tup xs)) (hx : ∀ x ∈ xs, Sm H x) (hl : xs.length ≤ 1000) : Th K H (.ref a) (some xs)
section
variable {K : PySem.W.Frag} {H H' : Hp} {v : V} {o : Option (List V)}
theorem Th.mono (e : Ex H H') (h : Th K H v o) : Th K H' v o := by
  cases h with
  | sm h k hn => exact .sm (h.mono e) (k.mono e) hn
  | tu h hx hl => exact .tu (e _ _ h) (fun x hh => (hx x hh).mono e) hl
theorem Th.kd (h : Th K H v o) : ∃ n, Kd K H v n ∧ ∀ x, v = .str x → x.length ≤ 1000 := by
  cases h with
  | sm h k hn => exact ⟨_, k, fun x z => by subst z; exact h.len⟩
  | tu h hx hl => exact ⟨_, kd_tup h, fun x z => by cases z⟩
/-- every small value is such a thing -/
theorem th_of (h : Sm H v) : ∃ o, Th K H v o ∧ (isPathV v = false → ∀ xs, o = some xs → xs = [.str (Str.ofString "a")]) := by
  cases h with
  | non => exact ⟨_, .sm .non kd_non (by decide), fun _ _ z => by cases z⟩
  | bl b => exact ⟨_, .sm (.bl b) (kd_bl b) (by decide), fun _ _ z => by cases z⟩
  | int i => exact ⟨_, .sm (.int i) (kd_int i) (by decide), fun _ _ z => by cases z⟩
  | str x h => exact ⟨_, .sm (.str x h) (kd_str x) (by decide), fun _ _ z => by cases z⟩
  | l1 h => exact ⟨_, .sm (.l1 h) (kd_lst h) (by decide), fun _ _ z => by cases z⟩
  | t1 h => exact ⟨_, .tu h (fun x hx => by rw [List.mem_singleton.mp hx]; exact .str _ (by decide)) (by decide), fun _ _ z => by cases z; rfl⟩
  | d0 h => exact ⟨_, .sm (.d0 h) (kd_dK h) (by decide), fun _ _ z => by cases z⟩
end
def wordB (x : Str) : Bool := textB x && ((decide (1 ≤ x.length) && decide (x.length ≤ 8)) && !decide (10 ∈ x.cps.toList))
def isWordV : V → Bool
  | .str x => wordB x
  | _ => false
def fitsV (f : Str) (v : V) (o : Option (List V)) : Bool :=
  if f = Str.ofString "path" then isPathV v else if f = Str.ofString "word" then isWordV v else if f = Str.ofString "folder" then isFolderV v
  else match o with
    | some xs => decide (xs.length ≤ 4) && xs.all isPathV
    | none => false
section
variable {P : Program} {w : World} {K : PySem.W.Frag} {mg : Str → Option Value} {base : Heap}
theorem scWord : FnScope ["value"] ["value"] (defScope sIsWord) := ⟨rfl, rfl, rfl, by decide +kernel, rfl, by decide +kernel, by decide +kernel⟩
def spWord : Sp := fun vs H Q _ => ∃ v o, vs = [v] ∧ Th K H v o ∧ RetV (.bl (isWordV v)) H Q
theorem spv_textT {v : V} {o : Option (List V)} {H : Hp} (h : Th K H v o) : SpV (spText (K := K)) [v] H (.bl (isTextV v)) := fun H1 e Q q E => by
  obtain ⟨n, kd, hl⟩ := (h.mono e).kd (K := K)
  exact ⟨v, n, rfl, kd, fun x hx => Nat.le_trans (hl x hx) (by decide), q⟩
theorem spv_pathT {v : V} {o : Option (List V)} {H : Hp} (h : Th K H v o) : SpV (spPath (K := K)) [v] H (.bl (isPathV v)) := fun H1 e Q q E => by
  obtain ⟨n, kd, hl⟩ := (h.mono e).kd (K := K)
  exact ⟨v, n, rfl, kd, fun x hx => Nat.le_trans (hl x hx) (by decide), q⟩
theorem ok_word {f : Addr} {fd : FuncData} (F : Fun K "is_word" "is_word" sIsWord f fd) (T : Gv mg) (cT : Cal P w K mg base CX0 2 "is_text" ["value"] (spText (K := K))) : FnOk P w K mg base CX0 3 f fd ["value"] (spWord (K := K)) := by
  refine F.ok scWord (fun vs H Q E h => ?_) (fun cdv A outer s H vs Q E hr h => ?_)
  · obtain ⟨x, n, rfl, _⟩ := h
    rfl
  · obtain ⟨v, o, rfl, th, k⟩ := h
    obtain ⟨t1, m1⟩ := T.lw
    refine ⟨_, pss_one (ps_ret (pe_and (pe_call cT.F hr (by rfl) cT.g cT.kp cT.b .nil pass0 (pa_cons (pv 0) pa_nil))
      (pe_and (pe_chain op_le op_le pe_int (pe_callB call_len_str (by rfl) T.len PySem.boot_len (pa_cons (pv 0) pa_nil)) (pe_glob (v := .int 8) (by rfl) m1 ⟨_, rfl⟩))
      (pe_one (pe_cmpR op_notIn_sign pe_str (pv 0) (by rfl)))))), ?_⟩
    refine s_ret (v := .bl (isWordV v)) ?_ k
    have fin : isTextV v = true → ∃ x, v = .str x ∧ x.length ≤ 1000 := by
      intro hv
      obtain ⟨n, _, hl⟩ := th.kd
      cases v with
      | str x => exact ⟨x, rfl, hl x rfl⟩
      | _ => cases hv
    refine ev_is (ev_and (a := isTextV v) (b := match v with | .str x => ((decide ((1:Int) ≤ x.length) && decide ((x.length : Int) ≤ 8)) && !decide (10 ∈ x.cps.toList)) | _ => false) (ev_call (ea_cons (ev_var rfl) ea_nil) (spv_textT th)) fun hb => ?_) ?_
    · obtain ⟨x, rfl, hl⟩ := fin hb
      refine ev_and (ev_chain ev_c (ev_lenS (ev_var rfl) (by omega)) rv_I0 (fun _ => ev_c) (fun _ => rv_I0)) fun _ => ?_
      exact ev_op (ev_c (v := .str ⟨#[10]⟩)) (ev_var rfl) fun H1 e Q q => ⟨10, x, rfl, rfl, q H1 (Ex.refl _)⟩
    · cases v with
      | str x =>
        have d1 : decide ((1 : Int) ≤ (x.length : Int)) = decide (1 ≤ x.length) := decide_eq_decide.mpr (by omega)
        have d2 : decide ((x.length : Int) ≤ 8) = decide (x.length ≤ 8) := decide_eq_decide.mpr (by omega)
        show V.bl (textB x && _) = V.bl (wordB x)
        dsimp only
        rw [d1, d2]
        rfl
      | _ => rfl
/-! ### fits -/
theorem scFits : FnScope ["form", "value", "thing"] ["form", "value"] (defScope sFits) := ⟨rfl, rfl, rfl, by decide +kernel, rfl, by decide +kernel, by decide +kernel⟩
def spFits : Sp := fun vs H Q _ => ∃ f v o, vs = [.str f, v] ∧ Th K H v o ∧ (f = Str.ofString "folder" → Sm H v) ∧ RetV (.bl (fitsV f v o)) H Q
theorem strEq {a b : Str} : decide (V.str a = V.str b) = decide (a = b) := decide_eq_decide.mpr ⟨fun h => by injection h, fun h => by rw [h]⟩
theorem ok_fits {f : Addr} {fd : FuncData} (F : Fun K "fits" "fits" sFits f fd) (T : Gv mg) (cP : Cal P w K mg base CX0 2 "is_path" ["value"] (spPath (K := K))) (cW : Cal P w K mg base CX0 3 "is_word" ["value"] (spWord (K := K)))
    (cF : Cal P w K mg base CX0 3 "is_folder" ["value"] spFolder) : FnOk P w K mg base CX0 4 f fd ["form", "value"] (spFits (K := K)) := by
  refine F.ok scFits (fun vs H Q E h => ?_) (fun cdv A outer s H vs Q E hr h => ?_)
  · obtain ⟨x, v, o, rfl, _⟩ := h
    rfl
  · obtain ⟨fo, v, o, rfl, th, hfo, k⟩ := h
    obtain ⟨t1, m1⟩ := T.mj
    have hr2 : Room 2 _ := hr.mono (by decide)
    refine ⟨_, pss_cons (ps_if (pt_cmpR op_eq (pv 0) pe_str (nomark _)) (pss_one (ps_ret (pe_call cP.F hr2 (by rfl) cP.g cP.kp cP.b .nil pass0 (pa_cons (pv 1) pa_nil)))) pss_nil)
      (pss_cons (ps_if (pt_cmpR op_eq (pv 0) pe_str (nomark _)) (pss_one (ps_ret (pe_call cW.F hr (by rfl) cW.g cW.kp cW.b .nil pass0 (pa_cons (pv 1) pa_nil)))) pss_nil)
      (pss_cons (ps_if (pt_cmpR op_eq (pv 0) pe_str (nomark _)) (pss_one (ps_ret (pe_call cF.F hr (by rfl) cF.g cF.kp cF.b .nil pass0 (pa_cons (pv 1) pa_nil)))) pss_nil)
      (pss_one (ps_ret (pe_and (pe_callB call_isi (by rfl) T.isi boot_isinstance (pa_cons (pv 1) (pa_cons (pe_bltn (v := .ty "tuple") (by rfl) T.tup (by decide +kernel) rfl) pa_nil)))
        (pe_and (pe_cmpR op_le (pe_callB call_len_seq (by rfl) T.len PySem.boot_len (pa_cons (pv 1) pa_nil)) (pe_glob (v := .int 4) (by rfl) m1 ⟨_, rfl⟩) (nomark _))
        (pe_one (pe_callB (cr_all rfl) (by rfl) T.all boot_all (pa_cons (pe_lc (own := [("thing", 2)]) (g := gName 2) (tt := tYes) rfl scFits.nd (pi_tup (pv 1)) (blkOk_by (N := ["form", "value", "thing"]) (sc := defScope sFits) (by decide +kernel))
          (fun _ _ _ _ _ => pg_name (i := 2) scFits.nd rfl (Or.inl rfl)) (fun _ _ _ _ _ => pts_nil)
          (fun _ _ _ _ _ => pe_call cP.F hr2 rfl cP.g cP.kp cP.b .nil pass0 (pa_cons (pv 2) pa_nil))) pa_nil))))))))), ?_⟩
    refine q_when (b := decide (fo = Str.ofString "path")) (et_is (et_test (ev_op (ev_var rfl) ev_c (rv_eq rfl))) strEq) (fun hb H1 e1 => ?_) (fun hb H1 e1 => ?_)
    · refine s_ret (v := .bl (fitsV fo v o)) (ev_is (ev_call (ea_cons (ev_var rfl) ea_nil) (spv_pathT (th.mono e1))) ?_) fun H2 e2 => k H2 (e1.trans e2)
      unfold fitsV
      rw [if_pos (by simpa using hb)]
    have n1 : ¬ fo = Str.ofString "path" := by simpa using hb
    clear hb
    refine q_when (b := decide (fo = Str.ofString "word")) (et_is (et_test (ev_op (ev_var rfl) ev_c (rv_eq rfl))) strEq) (fun hb H2 e2 => ?_) (fun hb H2 e2 => ?_)
    · refine s_ret (v := .bl (fitsV fo v o)) (ev_is (ev_call (z := .bl (isWordV v)) (ea_cons (ev_var rfl) ea_nil) fun H3 e3 Q' q' E' => ⟨v, o, rfl, th.mono ((e1.trans e2).trans e3), q'⟩) ?_) fun H3 e3 => k H3 ((e1.trans e2).trans e3)
      unfold fitsV
      rw [if_neg n1, if_pos (by simpa using hb)]
    have n2 : ¬ fo = Str.ofString "word" := by simpa using hb
    clear hb
    refine q_when (b := decide (fo = Str.ofString "folder")) (et_is (et_test (ev_op (ev_var rfl) ev_c (rv_eq rfl))) strEq) (fun hb H3 e3 => ?_) (fun hb H3 e3 => ?_)
    · have sm := hfo (by simpa using hb)
      refine s_ret (v := .bl (fitsV fo v o)) (ev_is (ev_call (z := .bl (isFolderV v)) (ea_cons (ev_var rfl) ea_nil) fun H4 e4 Q' q' E' => ⟨v, rfl, sm.mono (((e1.trans e2).trans e3).trans e4), q'⟩) ?_) fun H4 e4 => k H4 (((e1.trans e2).trans e3).trans e4)
      unfold fitsV
      rw [if_neg n1, if_neg n2, if_pos (by simpa using hb)]
    have n3 : ¬ fo = Str.ofString "folder" := by simpa using hb
    clear hb
    have eG := (e1.trans e2).trans e3
    refine s_ret (v := .bl (fitsV fo v o)) ?_ fun H4 e4 => k H4 (eG.trans e4)
    unfold fitsV
    rw [if_neg n1, if_neg n2, if_neg n3]
    cases th with
    | sm sm kd hn =>
      have e : decide (_ = "tuple") = false := decide_eq_false hn
      exact ev_is (ev_and (b := false) (ev_isi (ev_var rfl) ev_c (kd.mono eG) (.inr rfl)) (fun h => by rw [e] at h; cases h)) (by rw [e]; rfl)
    | @tu a xs h hx hl =>
      refine ev_is (ev_and (a := true) (b := decide ((xs.length : Int) ≤ 4) && (xs.map isPathV).all id) (ev_is (ev_isi (ev_var rfl) ev_c (kd_tup (eG _ _ h)) (.inr rfl)) rfl) fun _ => ?_) ?_
      · refine ev_and (ev_op (ev_lenT (ev_var rfl) (st_of (eG _ _ h))) ev_c rv_I0) fun _ => ev_all (ev_isL (el_lcT (fun y => .bl (isPathV y)) (ev_var rfl) (st_of (eG _ _ h)) (by omega) fun y H4 e4 hy => ?_) ?_)
        · exact ev_call (ea_cons (ev_var rfl) ea_nil) (spv_path ((hx y hy).mono (eG.trans e4)))
        · simp
      · have d1 : decide ((xs.length : Int) ≤ 4) = decide (xs.length ≤ 4) := decide_eq_decide.mpr (by omega)
        rw [d1]
        simp [List.all_map]
end
end Bp
namespace Bp
open PySem PySem.Spec PyProof.Rows L2 Bk Bm Evl Be Cr
abbrev sIsRule : Stmt := top 33
def forms : List (Str × List Str) := [(Str.ofString "join", [Str.ofString "paths"]), (Str.ofString "size", [Str.ofString "path"]), (Str.ofString "sort", [Str.ofString "path"]), (Str.ofString "pick", [Str.ofString "path", Str.ofString "word"]),
  (Str.ofString "names", [Str.ofString "folder"]), (Str.ofString "use", [Str.ofString "path"]), (Str.ofString "choose", [Str.ofString "path", Str.ofString "path", Str.ofString "path"]), (Str.ofString "need", [Str.ofString "path", Str.ofString "word"])]
def formOf (z : Str) : Option (List Str) := (forms.find? fun p => decide (p.1 = z)).map (·.2)
/-- the kinds that are asked for -/
def kinds9 : List Str := Str.ofString "Size" :: forms.map (·.1)
/-- the module's dict of forms -/
structure Fms (K : PySem.W.Frag) (w : World) (mg : Str → Option Value) (D : Addr) (es : Array DictEntry) (n : Nat) : Prop where
  g : mg "FORMS" = some (.ref D)
  d : KDict K w D es n
  at_ : ∀ z ∈ kinds9, match formOf z with
    | some fs => ∃ t, PySem.W.nsIn K D z = some (some (.ref t)) ∧ ∀ H, SqT K H t (fs.map V.str)
    | none => PySem.W.nsIn K D z = some none
/-- what is_rule says of a thing -/
def ruleB (x0 x1 : V) (rest : List V) (os : List (Option (List V))) : Bool := isPathV x0 && match x1 with
  | .str z => (match formOf z with
    | some fs => decide (rest.length = fs.length) && (fs.zip (rest.zip os)).all fun p => fitsV p.1 p.2.1 p.2.2
    | none => false)
  | _ => false
inductive Ru (K : PySem.W.Frag) (H : Hp) : V → Bool → Prop
  | no {v : V} {n : String} (k : Kd K H v n) (h : n ≠ "tuple") : Ru K H v false
  | short {a : Addr} {xs : List V} (h : H a = some (.tup xs)) (hl : xs.length < 2) : Ru K H (.ref a) false
  | long {a : Addr} {x0 x1 : V} {rest : List V} {os : List (Option (List V))} (h : H a = some (.tup (x0 :: x1 :: rest))) (h0 : Sm H x0) (h1 : Sm H x1) (hk : ∀ z, x1 = .str z → z ∈ kinds9)
      (hr : Paired (Th K H) rest os) (hl : rest.length ≤ 100) (hf : x1 = .str (Str.ofString "names") → ∀ x ∈ rest, Sm H x) : Ru K H (.ref a) (ruleB x0 x1 rest os)
theorem pr_mono {α β : Type} {F G : α → β → Prop} {l : List α} {m : List β} (h : Paired F l m) (f : ∀ a b, F a b → G a b) : Paired G l m := by
  induction h with
  | nil => exact .nil
  | cons r _ ih => exact .cons (f _ _ r) ih
theorem pr_len {α β : Type} {F : α → β → Prop} {l : List α} {m : List β} (h : Paired F l m) : l.length = m.length := by
  induction h with
  | nil => rfl
  | cons r _ ih => simp [ih]
theorem pr_get {α β : Type} {F : α → β → Prop} {l : List α} {m : List β} (h : Paired F l m) : ∀ {i : Nat} {x : α}, l[i]? = some x → ∃ y, m[i]? = some y ∧ F x y := by
  induction h with
  | nil => intro i x e; simp at e
  | cons r _ ih =>
    intro i x e
    cases i with
    | zero =>
      have e' := Option.some.inj e
      subst e'
      exact ⟨_, rfl, r⟩
    | succ i => exact ih (i := i) e
theorem pr_app {α β : Type} {F : α → β → Prop} {l l' : List α} {m m' : List β} (h : Paired F l m) (h' : Paired F l' m') : Paired F (l ++ l') (m ++ m') := by
  induction h with
  | nil => exact h'
  | cons r _ ih => exact .cons r ih
theorem pr_take {α β : Type} {F : α → β → Prop} {l : List α} {m : List β} (h : Paired F l m) : ∀ n, Paired F (l.take n) (m.take n) := by
  induction h with
  | nil => intro n; simp; exact .nil
  | cons r _ ih =>
    intro n
    cases n with
    | zero => exact .nil
    | succ n => exact .cons r (ih n)
theorem pr_drop {α β : Type} {F : α → β → Prop} {l : List α} {m : List β} (h : Paired F l m) : ∀ n, Paired F (l.drop n) (m.drop n) := by
  induction h with
  | nil => intro n; simp; exact .nil
  | cons r h ih =>
    intro n
    cases n with
    | zero => exact .cons r h
    | succ n => exact ih n
theorem pr_mem {α β : Type} {F : α → β → Prop} {l : List α} {m : List β} (h : Paired F l m) {x : α} (hx : x ∈ l) : ∃ y ∈ m, F x y := by
  induction h with
  | nil => cases hx
  | cons r _ ih =>
    rcases List.mem_cons.mp hx with rfl | hx
    · exact ⟨_, List.mem_cons_self, r⟩
    · obtain ⟨y, hy, q⟩ := ih hx
      exact ⟨y, List.mem_cons_of_mem _ hy, q⟩
theorem Ru.mono {K : PySem.W.Frag} {H H' : Hp} {v : V} {b : Bool} (e : Ex H H') (h : Ru K H v b) : Ru K H' v b := by
  cases h with
  | no k h => exact .no (k.mono e) h
  | short h hl => exact .short (e _ _ h) hl
  | long h h0 h1 hk hr hl hf => exact .long (e _ _ h) (h0.mono e) (h1.mono e) hk (pr_mono hr fun _ _ z => z.mono e) hl fun z x hx => (hf z x hx).mono e
section
variable {σ : L2.St} {H : Hp} {K : PySem.W.Frag}
/-- xs[i:] of a tuple -/
theorem slice_from {te ti : TE} {a : Addr} {xs : List V} {i : Nat} (h : Ev te σ H (.ref a)) (hi : Ev ti σ H (.int (i : Int))) (hx : SqT K H a xs) (hl : i ≤ xs.length) :
    ∀ H1, Ex H H1 → ∀ Q : VK, (∀ p H2, Ex H1 H2 → SqT K H2 p (xs.drop i) → Q (.ref p) H2) → tSl (rSlA K) te (tPart ti) tNoPart σ H1 Q := fun H1 e Q q =>
  h H1 e _ fun H2 e2 => hi H2 (e.trans e2) _ fun H3 e3 => ⟨(i : Int), rfl, a, xs, rfl, ex_t ((e.trans e2).trans e3) hx, by
    have c1 : HT.sIx xs.length 0 (some (i : Int)) = i := by rw [HT.sIx_nat]; omega
    have c2 : HT.sIx xs.length xs.length none = xs.length := HT.sIx_none _ _
    have c3 : cutV xs (some (i : Int)) none = xs.drop i := by
      unfold cutV
      rw [c1, c2]
      exact List.take_of_length_le (by rw [List.length_drop]; omega)
    rw [c1, c2]
    refine ⟨fun z => ?_, fun z p hp => ?_⟩
    · have z2 : xs.drop i = xs := by rw [z.1]; rfl
      refine q a H3 (e2.trans e3) ?_
      rw [z2]
      exact ex_t ((e.trans e2).trans e3) hx
    · refine q p _ ((e2.trans e3).trans (Ex.new hp)) ?_
      rw [c3]
      exact st_of upd_same⟩
/-- [.. for x, y in zip(a tuple, a tuple)] -/
theorem el_lcZ {te : TE} {ta : TA} {a b : Addr} {xs ys bs : List V} {v0 v1 v2 : Option V} (h : EvA ta [v0, v1, v2, none, none] H [.ref a, .ref b]) (hx : SqT K H a xs) (hy : SqT K H b ys) (hl : xs.length = ys.length) (hz : xs.length ≤ 40000) (hb : bs.length = xs.length)
    (he : ∀ (i : Nat) (x y z : V) (H1 : Hp), Ex H H1 → xs[i]? = some x → ys[i]? = some y → bs[i]? = some z → Ev te [v0, v1, v2, some x, some y] H1 z) :
    EvL (tLc (RZ.iZipA K ta) (gTup K 2 (gCons (gName 3) (gCons (gName 4) gNil))) tYes te [3, 4]) [v0, v1, v2, none, none] H bs := fun H0 e Q q => h H0 e _ fun H1 e1 =>
  ⟨a, b, xs, ys, rfl, .inr ⟨ex_t (e.trans e1) hx, ex_t (e.trans e1) hy, fun D hD =>
    lc_it (walk_zipT (K := K) (a := a) (b := b) (xs := xs) (ys := ys) (n := xs.length) (by omega)) (fun i G => Ex H1 G ∧ G D = some (.lst (bs.take i))) ⟨Ex.new hD, upd_same⟩
      (fun i G _ p => ⟨ex_t ((e.trans e1).trans p.1) hx, ex_t ((e.trans e1).trans p.1) hy⟩) (by
      rintro i v G G' hi ⟨s1, hd⟩ ⟨T, x, y, rfl, hT, rfl, h1, h2⟩
      have e2 := Ex.new (o := .tup [x, y]) hT
      have hib : i < bs.length := by omega
      have h3 : bs[i]? = some bs[i] := List.getElem?_eq_getElem hib
      refine ⟨T, [x, y], rfl, SqT.of upd_same, rfl, x, [y], rfl, y, [], rfl, rfl, ?_⟩
      refine ⟨rfl, ?_⟩
      unfold tYes
      dsimp only
      rw [if_pos rfl]
      have nT : T ≠ D := (ne_of_none hd hT).symm
      refine he i x y bs[i] _ ((e.trans e1).trans (s1.trans e2)) h1 h2 h3 _ (Ex.refl _) _ fun G2 e3 => ⟨_, e3 D _ (e2 D _ hd), sz_lt ?_, ((s1.trans e2).trans e3).mut hD, ?_⟩
      · have h3 := List.length_take_le' i bs
        omega
      · rw [upd_same, List.take_succ, h3]
        rfl) (by
      rintro G ⟨s1, hd⟩
      refine q D G (fresh_back e1 hD) (e1.trans s1) ?_
      rw [hd, List.take_of_length_le (by omega)])⟩⟩
end
section
variable {P : Program} {w : World} {K : PySem.W.Frag} {mg : Str → Option Value} {base : Heap}
theorem scRule : FnScope ["value", "kind", "things", "form", "thing"] ["value"] (defScope sIsRule) := ⟨rfl, rfl, rfl, by decide +kernel, rfl, by decide +kernel, by decide +kernel⟩
def spRule : Sp := fun vs H Q _ => ∃ v b, vs = [v] ∧ Ru K H v b ∧ RetV (.bl b) H Q
theorem form_kind : ∀ z ∈ kinds9, ∀ fs, formOf z = some fs → fs.length ≤ 3 ∧ (Str.ofString "folder" ∈ fs → z = Str.ofString "names") := by decide +kernel
theorem ok_rule {f : Addr} {fd : FuncData} {D : Addr} {es : Array DictEntry} {n : Nat} (F : Fun K "is_rule" "is_rule" sIsRule f fd) (T : Gv mg) (Fm : Fms K w mg D es n) (cP : Cal P w K mg base CX0 2 "is_path" ["value"] (spPath (K := K)))
    (cF : Cal P w K mg base CX0 4 "fits" ["form", "value"] (spFits (K := K))) : FnOk P w K mg base CX0 5 f fd ["value"] (spRule (K := K)) := by
  refine F.ok scRule (fun vs H Q E h => ?_) (fun cdv A outer s H vs Q E hr h => ?_)
  · obtain ⟨x, b, rfl, _⟩ := h
    rfl
  · obtain ⟨v, b, rfl, ru, k⟩ := h
    have hr2 : Room 2 _ := hr.mono (by decide)
    refine ⟨_, pss_cons (ps_if (pw_or (pt_not (pt_val (pe_callB call_isi (by rfl) T.isi boot_isinstance (pa_cons (pv 0) (pa_cons (pe_bltn (v := .ty "tuple") (by rfl) T.tup (by decide +kernel) rfl) pa_nil)))))
        (pw_or (pt_cmpR op_lt (pe_callB call_len_seq (by rfl) T.len PySem.boot_len (pa_cons (pv 0) pa_nil)) pe_int (nomark _))
        (pw_or1 (pt_not (pt_val (pe_call cP.F hr2 (by rfl) cP.g cP.kp cP.b .nil pass0 (pa_cons (pe_ix ix_tup (pv 0) pe_int (fun _ _ => rfl)) pa_nil))))))).pt (pss_one (ps_ret pe_bl)) pss_nil)
      (pss_cons (ps_par (i := 1) (j := 2) rfl scRule.nd rfl rfl (by decide) rfl rfl (pa_cons (pe_ix ix_tup (pv 0) pe_int (fun _ _ => rfl)) (pa_cons (pe_slice sl_tupA (pv 0) (po_some pe_int) po_none) pa_nil)) (by rfl))
      (pss_cons (ps_if (pw_or (pt_not (pt_val (pe_callB call_isi (by rfl) T.isi boot_isinstance (pa_cons (pv 1) (pa_cons (pe_bltn (v := .ty "str") (by rfl) T.str (by decide +kernel) rfl) pa_nil)))))
        (pw_or (pt_cmpR (op_notIn_kd Fm.d) (pv 1) (pe_glob (v := .ref D) (by rfl) Fm.g rfl) (by rfl))
        (pw_or1 (pt_cmpR op_ne (pe_callB call_len_seq (by rfl) T.len PySem.boot_len (pa_cons (pv 2) pa_nil)) (pe_callB call_len_seq (by rfl) T.len PySem.boot_len (pa_cons (pe_ix ix_kdict (pe_glob (v := .ref D) (by rfl) Fm.g rfl) (pv 1) (fun _ _ => rfl)) pa_nil)) (nomark _))))).pt (pss_one (ps_ret pe_bl)) pss_nil)
      (pss_one (ps_ret (pe_callB (cr_all rfl) (by rfl) T.all boot_all (pa_cons (pe_lc (own := [("form", 3), ("thing", 4)]) (g := gTup K 2 (gCons (gName 3) (gCons (gName 4) gNil))) (tt := tYes) rfl scRule.nd
        (RZ.pi_zipA (by rfl) T.zip (pa_cons (pe_ix ix_kdict (pe_glob (v := .ref D) (by rfl) Fm.g rfl) (pv 1) (fun _ _ => rfl)) (pa_cons (pv 2) pa_nil))) (blkOk_by (N := ["value", "kind", "things", "form", "thing"]) (sc := defScope sIsRule) (by decide +kernel))
        (fun _ _ _ _ _ => pg_tup rfl (pgs_cons (pg_name (i := 3) scRule.nd rfl (Or.inl rfl)) (pgs_cons (pg_name (i := 4) scRule.nd rfl (Or.inl rfl)) pgs_nil))) (fun _ _ _ _ _ => pts_nil)
        (fun _ _ _ _ _ => pe_call cF.F hr rfl cF.g cF.kp cF.b .nil pass0 (pa_cons (pv 3) (pa_cons (pv 4) pa_nil)))) pa_nil)))))), ?_⟩
    cases ru with
    | no kd hn =>
      refine q_when (b := true) (et_is (et_or (b := true) (et_not (et_B (ev_isi (ev_var rfl) ev_c kd (.inr rfl)))) fun hb => ?_) ?_) (fun _ H1 e1 => ?_) (fun hb => by cases hb)
      · simp [hn] at hb
      · simp [hn]
      · exact s_ret (v := .bl false) ev_c fun H2 e2 => k H2 (e1.trans e2)
    | @short a xs h hl =>
      refine q_when (b := true) (et_is (et_or (b := true) (et_not (et_B (ev_isi (ev_var rfl) ev_c (kd_tup h) (.inr rfl)))) fun hb => ?_) (by simp)) (fun _ H1 e1 => ?_) (fun hb => by cases hb)
      · refine et_is (et_or (a := true) (b := true) (et_is (et_test (ev_op (ev_lenT (ev_var rfl) (st_of h)) ev_c rv_I0)) (by simp; omega)) fun z => by cases z) rfl
      · exact s_ret (v := .bl false) ev_c fun H2 e2 => k H2 (e1.trans e2)
    | @long a x0 x1 rest os h h0 h1 hk hr' hl hf =>
      refine q_when (b := !isPathV x0) (et_is (et_or (b := !isPathV x0) (et_not (et_B (ev_isi (ev_var rfl) ev_c (kd_tup h) (.inr rfl)))) fun hb => ?_) (by simp)) (fun hb H1 e1 => ?_) (fun hb H1 e1 => ?_)
      · refine et_is (et_or (a := false) (b := !isPathV x0) (et_is (et_test (ev_op (ev_lenT (ev_var rfl) (st_of h)) ev_c rv_I0)) (by simp; omega)) fun _ => ?_) (by simp)
        exact et_not (et_B (ev_call (ea_cons (ev_op (ev_var rfl) ev_c (rv_ixT (st_of h) (atI_nat (j := 0) rfl))) ea_nil) (spv_path h0)))
      · refine s_ret (v := .bl (ruleB x0 x1 rest os)) (ev_is ev_c ?_) fun H2 e2 => k H2 (e1.trans e2)
        have : isPathV x0 = false := by simpa using hb
        unfold ruleB
        rw [this]
        rfl
      have p0 : isPathV x0 = true := by simpa using hb
      clear hb
      refine ev_op (z := x1) (ev_var (i := 0) rfl) ev_c (rv_ixT (st_of (e1 _ _ h)) (atI_nat (j := 1) rfl)) H1 (Ex.refl _) _ fun H2 e2 => ?_
      refine slice_from (i := 2) (ev_var (i := 0) rfl) ev_c (st_of ((e1.trans e2) _ _ h)) (by simp) H2 (Ex.refl _) _ fun p H3 e3 hp => ?_
      have hp' : SqT K H3 p rest := hp
      refine ⟨_, _, rfl, ?_⟩
      have eG := (e1.trans e2).trans e3
      have hσ : (((L2.start ["value", "kind", "things", "form", "thing"] [V.ref a]).set 1 (some x1)).set 2 (some (.ref p)) : L2.St) = [some (.ref a), some x1, some (.ref p), none, none] := rfl
      rw [hσ]
      dsimp only
      obtain ⟨n1, kd1⟩ := (h1.mono eG).kd (K := K)
      have test2 : ∀ {b : Bool} {t2 : TT}, (n1 = "str" → EvT t2 ([some (.ref a), some x1, some (.ref p), none, none] : L2.St) H3 b) → EvT (tOr (tNot (tB (tCB (rIsi K) (tCons (tVar 1) (tCons (tC (.ty "str")) tNil))))) t2) ([some (.ref a), some x1, some (.ref p), none, none] : L2.St) H3 (!decide (n1 = "str") || b) :=
        fun h2 => et_or (et_not (et_B (ev_isi (ev_var rfl) ev_c kd1 (.inl rfl)))) fun hb => h2 (by simpa using hb)
      by_cases hs : n1 = "str"
      · subst hs
        obtain ⟨z, rfl⟩ := kd_isStr kd1
        have hz := hk z rfl
        have hat := Fm.at_ z hz
        cases hfo : formOf z with
        | none =>
          rw [hfo] at hat
          refine q_when (b := true) (et_is (test2 (b := true) fun _ => et_is (et_or (a := true) (b := true) (et_test (ev_op (z := .bl true) (ev_var rfl) ev_c fun H4 e4 Q' q' => ⟨z, none, rfl, rfl, hat, q' H4 (Ex.refl _)⟩)) fun zz => by cases zz) rfl) (by simp)) (fun _ H4 e4 => ?_) (fun hb => by cases hb)
          refine s_ret (v := .bl (ruleB x0 (.str z) rest os)) (ev_is ev_c ?_) fun H5 e5 => k H5 ((eG.trans e4).trans e5)
          unfold ruleB
          simp only [hfo]
          simp
        | some fs =>
          rw [hfo] at hat
          obtain ⟨t, ht, hT⟩ := hat
          have item : ∀ {H4 : Hp}, Ev (tOp (rIxD K w) (tC (.ref D)) (tVar 1)) ([some (.ref a), some (.str z), some (.ref p), none, none] : L2.St) H4 (.ref t) := fun {H4} => ev_op ev_c (ev_var rfl) fun H5 e5 Q' q' => ⟨D, z, .ref t, rfl, rfl, ⟨es, n, _, Fm.d.at_, Fm.d.lit, ht, rfl⟩, q' H5 (Ex.refl _)⟩
          refine q_when (b := !decide (rest.length = fs.length)) (et_is (test2 (b := !decide (rest.length = fs.length)) fun _ => et_is (et_or (a := false) (b := !decide (rest.length = fs.length)) (et_test (ev_op (z := .bl false) (ev_var rfl) ev_c fun H4 e4 Q' q' => ⟨z, some (.ref t), rfl, rfl, ht, q' H4 (Ex.refl _)⟩)) fun _ => ?_) (by simp)) (by simp)) (fun hb H4 e4 => ?_) (fun hb H4 e4 => ?_)
          · refine et_is (et_test (ev_op (ev_lenT (ev_var rfl) hp') (ev_lenT item (hT _)) (rv_ne rfl))) ?_
            rw [List.length_map]
            congr 1
            exact decide_eq_decide.mpr ⟨fun h => by injection h with h; omega, fun h => by rw [h]⟩
          · refine s_ret (v := .bl (ruleB x0 (.str z) rest os)) (ev_is ev_c ?_) fun H5 e5 => k H5 ((eG.trans e4).trans e5)
            have hb' : decide (rest.length = fs.length) = false := by simpa using hb
            unfold ruleB
            simp only [hfo]
            rw [hb']
            simp
          · have hb' : rest.length = fs.length := by simpa using hb
            have hlen := pr_len hr'
            obtain ⟨f3, f4⟩ := form_kind z hz fs hfo
            refine s_ret (v := .bl (ruleB x0 (.str z) rest os)) ?_ fun H5 e5 => k H5 ((eG.trans e4).trans e5)
            refine ev_is (ev_all (bs := (fs.zip (rest.zip os)).map fun p => fitsV p.1 p.2.1 p.2.2) (el_lcZ (K := K) (xs := fs.map V.str) (ys := rest) (ea_cons item (ea_cons (ev_var rfl) ea_nil)) (hT _) (ex_t e4 hp') (by rw [List.length_map]; omega) (by rw [List.length_map]; omega) ?_ ?_)) ?_
            · simp only [List.length_map, List.length_zip]
              omega
            · intro i x y zz H5 e5 hx hy hzz
              obtain ⟨o, ho, th⟩ := pr_get hr' hy
              rw [List.getElem?_map] at hx
              cases eg : fs[i]? with
              | none => rw [eg] at hx; cases hx
              | some g =>
                rw [eg] at hx
                have ex : V.str g = x := Option.some.inj hx
                subst ex
                have ezz : zz = .bl (fitsV g y o) := by
                  have z2 : (rest.zip os)[i]? = some (y, o) := List.getElem?_zip_eq_some.mpr ⟨hy, ho⟩
                  have z3 : (fs.zip (rest.zip os))[i]? = some (g, (y, o)) := List.getElem?_zip_eq_some.mpr ⟨eg, z2⟩
                  rw [List.getElem?_map, List.getElem?_map, z3] at hzz
                  exact (Option.some.inj hzz).symm
                subst ezz
                refine ev_call (ea_cons (ev_var rfl) (ea_cons (ev_var rfl) ea_nil)) fun H6 e6 Q' q' E' => ⟨g, y, o, rfl, th.mono (((eG.trans e4).trans e5).trans e6), fun hg => ?_, q'⟩
                subst hg
                have := f4 (List.mem_of_getElem? eg)
                subst this
                exact (hf rfl y (List.mem_of_getElem? hy)).mono (((eG.trans e4).trans e5).trans e6)
            · unfold ruleB
              simp only [hfo, p0, hb', decide_true, Bool.true_and]
              simp [List.all_map]
      · refine q_when (b := true) (et_is (test2 (b := true) fun z => absurd z hs) (by simp)) (fun _ H4 e4 => ?_) (fun hb => by cases hb)
        refine s_ret (v := .bl (ruleB x0 x1 rest os)) (ev_is ev_c ?_) fun H5 e5 => k H5 ((eG.trans e4).trans e5)
        cases x1 with
        | str z => exact absurd (kd_strV kd1) hs
        | _ => simp [ruleB]
end
end Bp
namespace Bp
open PySem PySem.Spec PyProof.Rows L2 Bk Bm Evl Be Cr
abbrev vTail : List Value := [.type "ValueError", .type "Exception", .type "BaseException", .type "object"]
/-- an error class without a field, at C -/
structure Xc (K : PySem.W.Frag) (mg : Str → Option Value) (x : Str) (C : Addr) : Prop where
  g : mg x = some (.ref C)
  q : PySem.W.excIn K C vTail "ValueError.__new__" = true
  k : PySem.W.keepIn K (.ref C) = true
  b : PySem.W.subIn K (.ref C) (.type "BaseException") = some true
  t : PySem.W.typeIn K (.ref C) = some (.type "type")
section
variable {X : Cx} {C : Addr} {x : Str} {p pos : Pos}
/-- X() -/
theorem pmk_own0 (c : Xc X.K X.mg x C) (hg : Gl X x) (hdb : (x == ("__debug__" : Str)) = false := by decide) : PMk X (.Call (.Name x p) [] [] pos) (fun _ H Q => Q (.ref C) none H) := by
  intro pins s σ H Q I h
  refine wpAny_Call_Name_kw (ld_glob I hg c.g ?_ hdb)
  refine PySem.W.callWith_K0 I.kIn c.k ?_
  show wpAny _ _ (call (.ref C) []) _ _ _
  obtain ⟨bm, N, nm, qn, bs, hdct, sn, sub, ab, col, dd, k0, k1, k2, k3, k5, mN, hC, hN, hni, T⟩ := exc_obj I.kIn c.q
  refine wpAny_call_exc_subT PySem.F.excBase_ValueError T hC hN hni (fun h' e hm => ?_) (by rw [sizeLine_eq]; decide)
  exact mk_of I hm (raises_own c.b c.t) h (I.hok.gone hm.new)
end
section
variable {P : Program} {w : World} {K : PySem.W.Frag} {mg : Str → Option Value} {base : Heap}
/-! ### BadTree: its __init__ -/
abbrev sBtI : Stmt := inClass (top 2) 0
theorem scBtI : FnScope ["self", "index"] ["self", "index"] (defScope sBtI) := ⟨rfl, rfl, rfl, by decide +kernel, rfl, by decide +kernel, by decide +kernel⟩
/-- an error class with a field index, at C, its __init__ at fI -/
structure Xi (K : PySem.W.Frag) (mg : Str → Option Value) (x : Str) (C fI : Addr) : Prop where
  g : mg x = some (.ref C)
  o : OexC K C
  f : XfC K C
  n : PySem.W.findIn K (.ref C) "index" = some none
  i : PySem.W.findIn K (.ref C) "__init__" = some (some (.ref fI))
  t : PySem.W.typeIn K (.ref fI) = some (.type "function")
def spXi (K : PySem.W.Frag) (C : Addr) : Sp := fun vs H Q _ => ∃ a v, vs = [.ref a, v] ∧ H a = some (exo a C none) ∧ OexC K C ∧ PySem.W.findIn K (.ref C) "index" = some none ∧
  ∀ dx, H dx = none → dx ≠ a → Q .non (upd (upd H dx (exd dx [(("index" : Str), v)])) a (exo a C (some dx)))
theorem ok_btI {f C : Addr} {fd : FuncData} {q : Str} (F : Fun K "__init__" q sBtI f fd) : FnOk P w K mg base CX0 1 f fd ["self", "index"] (spXi K C) := by
  refine F.ok scBtI (fun vs H Q E h => ?_) (fun cdv A outer s H vs Q E hr h => ?_)
  · obtain ⟨x, v, rfl, _⟩ := h
    rfl
  · obtain ⟨a, v, rfl, ha, o, n, k⟩ := h
    refine ⟨_, pss_one (ps_ost (pv 0) (pv 1)), ?_⟩
    exact ⟨_, rfl, _, rfl, a, C, rfl, o, n, .inl ⟨ha, fun dx hd hne => k dx hd hne⟩⟩
/-- BadTree(e) -/
theorem pmk_xi {X : Cx} {C fI : Addr} {fd : FuncData} {x : Str} {e : Expr} {te : TE} {p pos : Pos} {k : Nat} (c : Xi X.K X.mg x C fI) (F : FnOk X.prog X.w X.K X.mg X.base CX0 1 fI fd ["self", "index"] (spXi X.K C)) (b : Binds X.K fd ["self", "index"] [])
    (hr : Room k X.A) (hk : 2 ≤ k) (hg : Gl X x) (he : PE X e te) (hdb : (x == ("__debug__" : Str)) = false := by decide)
    (hs : starEach (e :: []) X.env = (false, eval e X.env) :: starEach [] X.env := by rfl) (hpl : (backTo pos (starEach [] X.env)).any (·.1) = false := by rfl) :
    PMk X (.Call (.Name x p) [e] [] pos) (tMkO C (spXi X.K C) [] (tCons te tNil)) :=
  pmk_oex c.o c.i c.t F (hr.mono hk) b .nil pass0 hg c.g (pa_cons he pa_nil hs) hdb hs hpl
theorem xi_make {C fI : Addr} {x : Str} {te : TE} {σ : L2.St} {H : Hp} {v : V} {Q : XK} (c : Xi K mg x C fI) (he : Ev te σ H v) (k : ∀ d H', Ex H H' → H' d = some (.xd [(("index" : Str), v)]) → H d = none → Q (.ref C) (some d) H') : tMkO C (spXi K C) [] (tCons te tNil) σ H Q :=
  he H (Ex.refl _) _ fun H1 e1 => ⟨by show 1 ≤ 1000; decide, fun a ha => ⟨a, v, rfl, upd_same, c.o, c.n, fun dx hd hne => by
    have hdn : H1 dx = none := by rw [upd_ne hne] at hd; exact hd
    refine ⟨rfl, dx, [(("index" : Str), v)], upd_same, ?_, hdn, ?_⟩
    · rw [upd_ne hne, upd_same]
    · refine k dx _ (e1.trans fun b o hb => ?_) upd_same (fresh_back e1 hdn)
      have nb : b ≠ a := ne_of_none hb ha
      rw [upd_ne (ne_of_none hb hdn), del_ne nb, upd_ne nb, upd_ne (ne_of_none hb hdn), upd_ne nb]
      exact hb⟩⟩
end
theorem slice_to {σ : L2.St} {H : Hp} {K : PySem.W.Frag} {te ti : TE} {a : Addr} {xs : List V} {i : Nat} (h : Ev te σ H (.ref a)) (hi : Ev ti σ H (.int (i : Int))) (hx : SqT K H a xs) (hl : i ≤ xs.length) :
    ∀ H1, Ex H H1 → ∀ Q : VK, (∀ p H2, Ex H1 H2 → SqT K H2 p (xs.take i) → Q (.ref p) H2) → tSl (rSlA K) te tNoPart (tPart ti) σ H1 Q := fun H1 e Q q =>
  h H1 e _ fun H2 e2 => hi H2 (e.trans e2) _ fun H3 e3 => ⟨(i : Int), rfl, a, xs, rfl, ex_t ((e.trans e2).trans e3) hx, by
    have c1 : HT.sIx xs.length 0 none = 0 := HT.sIx_none _ _
    have c2 : HT.sIx xs.length xs.length (some (i : Int)) = i := by rw [HT.sIx_nat]; omega
    have c3 : cutV xs none (some (i : Int)) = xs.take i := by
      unfold cutV
      rw [c1, c2]
      simp
    rw [c1, c2]
    refine ⟨fun z => ?_, fun z p hp => ?_⟩
    · have z2 : xs.take i = xs := by rw [z.2]; exact List.take_length
      refine q a H3 (e2.trans e3) ?_
      rw [z2]
      exact ex_t ((e.trans e2).trans e3) hx
    · refine q p _ ((e2.trans e3).trans (Ex.new hp)) ?_
      rw [c3]
      exact st_of upd_same⟩
abbrev sCkRules : Stmt := top 34
/-- what an item of a tuple is: a rule that makes p, or none -/
def Itr (K : PySem.W.Frag) (H : Hp) (v : V) : Option Str → Prop
  | some p => Ru K H v true ∧ (∃ a ts, v = .ref a ∧ H a = some (.tup (.str p :: ts))) ∧ p.length ≤ 1000
  | none => Ru K H v false
theorem Itr.mono {K : PySem.W.Frag} {H H' : Hp} {v : V} {o : Option Str} (e : Ex H H') (h : Itr K H v o) : Itr K H' v o := by
  cases o with
  | some p =>
    obtain ⟨h1, ⟨a, ts, h2, h3⟩, h4⟩ := h
    exact ⟨h1.mono e, ⟨a, ts, h2, e _ _ h3⟩, h4⟩
  | none => exact Ru.mono e h
theorem Itr.ru {K : PySem.W.Frag} {H : Hp} {v : V} {o : Option Str} (h : Itr K H v o) : Ru K H v o.isSome := by
  cases o with
  | some p => exact h.1
  | none => exact h
/-- the first place that is wrong -/
def fb : List Str → List (Option Str) → Option Nat
  | _, [] => none
  | acc, none :: _ => some acc.length
  | acc, some p :: r => if acc.any (way p) = true then some acc.length else fb (acc ++ [p]) r
inductive Rl (K : PySem.W.Frag) (H : Hp) : V → Option V → Prop
  | no {v : V} {n : String} (k : Kd K H v n) (h : n ≠ "tuple") : Rl K H v (some .non)
  | big {a : Addr} {xs : List V} (h : H a = some (.tup xs)) (hl : 8 < xs.length) : Rl K H (.ref a) (some .non)
  | tup {a : Addr} {xs : List V} {os : List (Option Str)} (h : H a = some (.tup xs)) (hl : xs.length ≤ 8) (hp : Paired (Itr K H) xs os) : Rl K H (.ref a) ((fb [] os).map fun i => V.int ((i : Nat) : Int))
section
variable {P : Program} {w : World} {K : PySem.W.Frag} {mg : Str → Option Value} {base : Heap}
abbrev nCk : List Str := ["value", "index", "thing", "rule"]
theorem scCkRules : FnScope nCk ["value"] (defScope sCkRules) := ⟨rfl, rfl, rfl, by decide +kernel, rfl, by decide +kernel, by decide +kernel⟩
theorem Rl.mono {H H' : Hp} {v : V} {o : Option V} (e : Ex H H') (h : Rl K H v o) : Rl K H' v o := by
  cases h with
  | no k h => exact .no (k.mono e) h
  | big h hl => exact .big (e _ _ h) hl
  | tup h hl hp => exact .tup (e _ _ h) hl (pr_mono hp fun _ _ r => r.mono e)
/-- how BadTree comes -/
def RaiseI (C : Addr) (v : V) (H : Hp) (E : XK) : Prop := ∀ d H', Ex H H' → H' d = some (.xd [(("index" : Str), v)]) → H d = none → E (.ref C) (some d) H'
theorem RaiseI.go {C : Addr} {v : V} {H H1 : Hp} {E : XK} (h : RaiseI C v H E) (e : Ex H H1) : RaiseI C v H1 E := fun d H' e1 hd hn => h d H' (e.trans e1) hd (fresh_back e hn)
def spCkRules (C : Addr) : Sp := fun vs H Q E => ∃ v o, vs = [v] ∧ Rl K H v o ∧ (o = none → RetV .non H Q) ∧ (∀ u, o = some u → RaiseI C u H E)
/-- any([in_the_way(thing[0], rule[0]) for rule in value[:index]]) -/
theorem et_ways {H G : Hp} {a b : Addr} {xs ts : List V} {ps : List Str} {p : Str} {i : Nat} {x3 : Option V} (eG : Ex H G) (h : H a = some (.tup xs)) (hix : i ≤ xs.length) (hn : xs.length ≤ 8) (hb : G b = some (.tup (.str p :: ts))) (hp1 : p.length ≤ 1000)
    (hpf : Paired (fun v p => (∃ a ts, v = .ref a ∧ H a = some (.tup (.str p :: ts))) ∧ p.length ≤ 1000) (xs.take i) ps) :
    EvT (tB (tCB (rAny K) (tCons (tLc (iTup K (tSl (rSlA K) (tVar 0) tNoPart (tPart (tVar 1)))) (gName 3) tYes (tCall spWay [] E0 (tCons (tOp (rIxT K) (tVar 2) (tC (.int 0))) (tCons (tOp (rIxT K) (tVar 3) (tC (.int 0))) tNil))) [3]) tNil)))
      [some (.ref a), some (.int (i : Int)), some (.ref b), x3] G (ps.any (way p)) := fun H3 e3 Q q => by
  refine slice_to (i := i) (ev_var (i := 0) rfl) (ev_var (i := 1) rfl) (st_of ((eG.trans e3) _ _ h)) hix H3 (Ex.refl _) _ fun l H4 e4 hl4 => ?_
  have eH4 : Ex H H4 := (eG.trans e3).trans e4
  have big : Ev (tCB (rAny K) (tCons (tLc (iTup K (tC (.ref l))) (gName 3) tYes (tCall spWay [] E0 (tCons (tOp (rIxT K) (tVar 2) (tC (.int 0))) (tCons (tOp (rIxT K) (tVar 3) (tC (.int 0))) tNil))) [3]) tNil))
      [some (.ref a), some (.int (i : Int)), some (.ref b), x3] H4 (.bl ((ps.map (way p)).any id)) := by
    refine ev_any (ev_isL (el_lcT (j := 3) (fun v => match v with | .ref c => (match H c with | some (.tup (.str z :: _)) => .bl (way p z) | _ => .non) | _ => .non) ev_c hl4 ?_ fun x H5 e5 hx => ?_) ?_)
    · have := List.length_take_le' i xs
      omega
    · obtain ⟨z, hz, ⟨c, us, rfl, hc⟩, hzl⟩ := pr_mem hpf hx
      have hcc := (eH4.trans e5) _ _ hc
      have hbb := ((e3.trans e4).trans e5) _ _ hb
      simp only [hc]
      refine ev_call (ea_cons (ev_op (ev_var rfl) ev_c (rv_ixT (st_of hbb) (atI_nat (j := 0) rfl))) (ea_cons (ev_op (ev_var rfl) ev_c (rv_ixT (st_of hcc) (atI_nat (j := 0) rfl))) ea_nil)) fun H6 e6 Q' q' E' => ⟨p, z, rfl, by omega, by omega, q'⟩
    · have hmap : ∀ {ys : List V} {ps : List Str}, Paired (fun v p => (∃ a ts, v = .ref a ∧ H a = some (.tup (.str p :: ts))) ∧ p.length ≤ 1000) ys ps →
          ys.map (fun v => match v with | .ref c => (match H c with | some (.tup (.str z :: _)) => V.bl (way p z) | _ => .non) | _ => .non) = (ps.map (way p)).map V.bl := by
        intro ys ps h
        induction h with
        | nil => rfl
        | cons r _ ih =>
          obtain ⟨⟨c, us, rfl, hc⟩, _⟩ := r
          simp only [List.map_cons, ih, hc]
      exact hmap hpf
  have eqn : (ps.map (way p)).any id = ps.any (way p) := by simp [List.any_map]
  rw [eqn] at big
  exact big H4 (Ex.refl _) _ fun H5 e5 => ⟨_, rfl, q H5 (e4.trans e5)⟩
theorem ok_ckRules {f C fI : Addr} {fd fdI : FuncData} (F : Fun K "check_rules" "check_rules" sCkRules f fd) (T : Gv mg) (c : Xi K mg "BadRules" C fI) (FI : FnOk P w K mg base CX0 1 fI fdI ["self", "index"] (spXi K C)) (bI : Binds K fdI ["self", "index"] [])
    (cR : Cal P w K mg base CX0 5 "is_rule" ["value"] (spRule (K := K))) (cM : Cal P w K mg base CX0 2 "in_the_way" ["one", "other"] spWay) : FnOk P w K mg base (L2.CX P w) 6 f fd ["value"] (spCkRules (K := K) C) := by
  refine F.okX scCkRules (fun vs H Q E h => ?_) (fun cdv A outer s H vs Q E hr h => ?_)
  · obtain ⟨x, o, rfl, _⟩ := h
    rfl
  · obtain ⟨v, o, rfl, tr, k1, k2⟩ := h
    obtain ⟨t1, m1⟩ := T.mr
    have hr2 : Room 2 _ := hr.mono (by decide)
    refine ⟨_, pss_cons (ps_if (pw_or (pt_not (pt_val (pe_callB call_isi (by rfl) T.isi boot_isinstance (pa_cons (pv 0) (pa_cons (pe_bltn (v := .ty "tuple") (by rfl) T.tup (by decide +kernel) rfl) pa_nil)))))
        (pw_or1 (pt_cmpR op_gt (pe_callB call_len_seq (by rfl) T.len PySem.boot_len (pa_cons (pv 0) pa_nil)) (pe_glob (v := .int 8) (by rfl) m1 ⟨_, rfl⟩) (nomark _)))).pt
        (pss_one (ps_raise rfl (takes_of rfl rfl rfl rfl) (pmk_xi c FI bI hr (by decide) (by rfl) pe_non))) pss_nil)
      (pss_one (ps_for (passes_of rfl) rfl (pi_enumT (by rfl) T.enu (pa_cons (pv 0) pa_nil)) (pg_tup rfl (pgs_cons (pg_name (i := 1) scCkRules.nd rfl (Or.inl rfl)) (pgs_cons (pg_name (i := 2) scCkRules.nd rfl (Or.inr rfl)) pgs_nil)))
        (pss_one (ps_if (pw_or (pt_not (pt_val (pe_call cR.F hr (by rfl) cR.g cR.kp cR.b .nil pass0 (pa_cons (pv 2) pa_nil))))
          (pw_or1 (pt_val (pe_callB (cr_any rfl) (by rfl) T.any boot_any (pa_cons (pe_lc (own := [("rule", 3)]) (g := gName 3) (tt := tYes) rfl scCkRules.nd (pi_tup (pe_slice sl_tupA (pv 0) po_none (po_some (pv 1)))) (blkOk_by (N := nCk) (sc := defScope sCkRules) (by decide +kernel))
            (fun _ _ _ _ _ => pg_name (i := 3) scCkRules.nd rfl (Or.inl rfl)) (fun _ _ _ _ _ => pts_nil)
            (fun _ _ _ _ _ => pe_call cM.F hr2 (by rfl) cM.g cM.kp cM.b .nil pass0 (pa_cons (pe_ix (r := rIxT K) ix_tup (pv 2) pe_int (fun _ _ => rfl)) (pa_cons (pe_ix (r := rIxT K) ix_tup (pv 3) pe_int (fun _ _ => rfl)) pa_nil)))) pa_nil))))).pt
          (pss_one (ps_raise rfl (takes_of rfl rfl rfl rfl) (pmk_xi c FI bI hr (by decide) (by rfl) (pv 1)))) pss_nil)))), ?_⟩
    cases tr with
    | no kd hn =>
      refine q_when (b := true) (et_is (et_or (b := true) (et_not (et_B (ev_isi (ev_var rfl) ev_c kd (.inr rfl)))) fun hb => ?_) ?_) (fun _ H1 e1 => ?_) (fun hb => by cases hb)
      · simp [hn] at hb
      · simp [hn]
      · exact xi_make c ev_c (RaiseI.go (k2 _ rfl) e1)
    | @big a xs h hl =>
      refine q_when (b := true) (et_is (et_or (b := true) (et_not (et_B (ev_isi (ev_var rfl) ev_c (kd_tup h) (.inr rfl)))) fun hb => ?_) (by simp)) (fun _ H1 e1 => ?_) (fun hb => by cases hb)
      · exact et_is (et_test (ev_op (ev_lenT (ev_var rfl) (st_of h)) ev_c rv_I0)) (by simp; omega)
      · exact xi_make c ev_c (RaiseI.go (k2 _ rfl) e1)
    | @tup a xs os h hl hp =>
      refine q_when (b := false) (et_is (et_or (b := false) (et_not (et_B (ev_isi (ev_var rfl) ev_c (kd_tup h) (.inr rfl)))) fun hb => ?_) (by simp)) (fun hb => by cases hb) (fun _ H1 e1 => ?_)
      · exact et_is (et_test (ev_op (ev_lenT (ev_var rfl) (st_of h)) ev_c rv_I0)) (by simp; omega)
      · refine ⟨_, rfl, a, xs, rfl, st_of (e1 _ _ h), for_enumT (K := K) (a := a) (xs := xs) (fun i τ G => ∃ (u v : Option V) (fs : List Str), τ = [some (.ref a), u, v, none] ∧ Ex H G ∧ fs.length = i ∧ os.take i = fs.map some ∧ fb [] os = fb fs (os.drop i))
          ⟨none, none, [], rfl, e1, rfl, rfl, rfl⟩ (fun i τ G _ q => by obtain ⟨_, _, _, _, q, _⟩ := q; exact st_of (q _ _ h)) ?_ ?_⟩
        · rintro i x τ G T0 hi ⟨u, v, fs, rfl, eG, hfl, htk, hfb⟩ hT
          obtain ⟨o, ho, it⟩ := pr_get hp hi
          have hdr : os.drop i = o :: os.drop (i + 1) := by
            obtain ⟨hh, e⟩ := List.getElem?_eq_some_iff.mp ho
            rw [List.drop_eq_getElem_cons hh, e]
          rw [hdr] at hfb
          have e2 : Ex H (upd G T0 (.tup [.int (i : Nat), x])) := eG.trans (Ex.new hT)
          have hix : i ≤ xs.length := Nat.le_of_lt (List.getElem?_eq_some_iff.mp hi).1
          have hpf : Paired (fun v p => (∃ a ts, v = .ref a ∧ H a = some (.tup (.str p :: ts))) ∧ p.length ≤ 1000) (xs.take i) fs := by
            have h1 := pr_take hp i
            rw [htk] at h1
            have gen : ∀ {ys : List V} {gs : List Str}, Paired (Itr K H) ys (gs.map some) → Paired (fun v p => (∃ a ts, v = .ref a ∧ H a = some (.tup (.str p :: ts))) ∧ p.length ≤ 1000) ys gs := by
              intro ys gs
              induction gs generalizing ys with
              | nil => intro h; cases h; exact .nil
              | cons g r ih =>
                intro h
                cases h with
                | cons r1 r2 => exact .cons r1.2 (ih r2)
            exact gen h1
          refine ⟨T0, _, rfl, SqT.of upd_same, rfl, _, _, rfl, _, _, rfl, rfl, ?_⟩
          show tIfS _ _ tNext _ ([some (.ref a), some (.int (i : Int)), some x, none] : L2.St) _
          have call1 : EvT (tNot (tB (tCall (spRule (K := K)) [] E0 (tCons (tVar 2) tNil)))) ([some (.ref a), some (.int (i : Int)), some x, none] : L2.St) (upd G T0 (.tup [.int (i : Nat), x])) (!(o.isSome)) :=
            et_not (et_B (ev_call (ea_cons (ev_var rfl) ea_nil) fun H3 e3 Q' q' E' => ⟨x, _, rfl, (it.mono (e2.trans e3)).ru, q'⟩))
          refine s_when (b := !(o.isSome) || (match o with | some p => fs.any (way p) | none => false)) (et_or call1 fun hb => ?_) (fun hb H3 e3 => ?_) (fun hb H3 e3 => ?_)
          · cases o with
            | none => simp at hb
            | some p =>
              obtain ⟨_, ⟨b, ts, rfl, hbb⟩, hpl⟩ := it
              exact et_ways e2 h hix hl (e2 _ _ hbb) hpl hpf
          · have hbad : fb [] os = some i := by
              rw [hfb]
              cases o with
              | none => show some fs.length = some i; rw [hfl]
              | some p =>
                have hn : fs.any (way p) = true := by simpa using hb
                show (if fs.any (way p) = true then some fs.length else _) = some i
                rw [if_pos hn, hfl]
            exact xi_make c (ev_var rfl) (RaiseI.go (k2 _ (by rw [hbad]; rfl)) (e2.trans e3))
          · cases o with
            | none => simp at hb
            | some p =>
              have hn : fs.any (way p) = false := by simpa using hb
              refine ⟨_, _, fs ++ [p], rfl, e2.trans e3, by simp [hfl], ?_, ?_⟩
              · rw [List.take_succ, htk, ho]
                simp
              · rw [hfb]
                show (if fs.any (way p) = true then some fs.length else _) = _
                rw [if_neg (by rw [hn]; decide)]
        · rintro τ G ⟨u, v, fs, rfl, eG, hfl, htk, hfb⟩
          have hlen := pr_len hp
          have hn : fb [] os = none := by
            rw [hfb, hlen, List.drop_length]
            rfl
          exact k1 (by rw [hn]; rfl) G eG
end
end Bp
namespace Bp
open PySem PySem.Spec PyProof.Rows L2 Bk Bm Evl Be Cr
abbrev sInit : Stmt := inClass (top 20) 0
abbrev sGet : Stmt := inClass (top 20) 1
abbrev sLen : Stmt := inClass (top 20) 2
abbrev sEq : Stmt := inClass (top 20) 3
abbrev sCkBook : Stmt := top 35
abbrev kR : Str := "_rules"
/-- the class Book, at C -/
structure Bks (K : PySem.W.Frag) (mg : Str → Option Value) (C fI pR fG fL fE : Addr) : Prop where
  g : mg "Book" = some (.ref C)
  cls : Cls K C
  mkr : Mk K C fI
  na : NoAttr K C kR
  prop : PropOf K C "rules" pR fG
  len : PySem.W.findIn K (.ref C) "__len__" = some (some (.ref fL))
  lenF : PySem.W.isFn K (.ref fL) = true
  eq : PySem.W.findIn K (.ref C) "__eq__" = some (some (.ref fE))
  eqF : PySem.W.isFn K (.ref fE) = true
  nf : PySem.W.notFirst K C (.type "tuple") = true
  ha : PySem.W.findIn K (.ref C) "__class__" = some (some (.builtin "object.__class__"))
  hn : PySem.W.specialIn K (.builtin "object.__class__") "__get__" = some (some (.builtin "getset_descriptor.__get__"))
  htk : PySem.W.takesIn K (.builtin "object.__class__") = some true
  hm : PySem.W.mroIn K C (.type "object") = some true
  kt : PySem.W.kitOne K (.type "tuple") (.ref C) = some false
/-- a book of the rules v stands at a -/
def BkAt (H : Hp) (C a : Addr) (v : V) : Prop := ∃ dx, H a = some (.ins C dx [(kR, v)])
theorem BkAt.mono {H H' : Hp} {C a : Addr} {v : V} (e : Ex H H') (h : BkAt H C a v) : BkAt H' C a v := by
  obtain ⟨dx, h⟩ := h
  exact ⟨dx, e _ _ h⟩
section
variable {P : Program} {w : World} {K : PySem.W.Frag} {mg : Str → Option Value} {base : Heap} {C fI pR fG fL fE : Addr}
/-! ### __init__ -/
def spInit (C Cx : Addr) : Sp := fun vs H Q E => ∃ x dx v o, vs = [.ref x, v] ∧ H x = some (.ins C dx []) ∧ Rl K H v o ∧ (o = none → ∀ H1, Ex H H1 → Q .non (upd H1 x (.ins C dx [(kR, v)]))) ∧ (∀ u, o = some u → RaiseI Cx u H E)
theorem scInit : FnScope ["self", "rules"] ["self", "rules"] (defScope sInit) := ⟨rfl, rfl, rfl, by decide +kernel, rfl, by decide +kernel, by decide +kernel⟩
/-- what is let out of a body as it comes -/
theorem lets {X : Cx} {E : XK} (tk : Takes X (fun cls d _ H => E cls d H)) : Passes (L2.CX X.prog X.w) X E := passes_call tk fun _ _ _ _ h => h
theorem ok_init {f Cx : Addr} {fd : FuncData} {q : Str} (F : Fun K "__init__" q sInit f fd) (B : Bks K mg C fI pR fG fL fE) (cK : Cal P w K mg base (L2.CX P w) 6 "check_rules" ["value"] (spCkRules (K := K) Cx)) :
    FnOk P w K mg base (L2.CX P w) 7 f fd ["self", "rules"] (spInit (K := K) C Cx) := by
  refine F.okX scInit (fun vs H Q E h => ?_) (fun cdv A outer s H vs Q E hr h => ?_)
  · obtain ⟨x, dx, v, o, rfl, _⟩ := h
    rfl
  · obtain ⟨x, dx, v, o, rfl, hx, rl, k1, k2⟩ := h
    refine ⟨_, pss_cons (ps_expr (pe_call cK.F hr (by rfl) cK.g cK.kp cK.b .nil (lets (takes_of rfl rfl rfl rfl)) (pa_cons (pv 1) pa_nil)))
      (pss_one (ps_fld (pv 0) (pv 1) (by rfl))), ?_⟩
    refine ⟨_, rfl, v, o, rfl, rl, fun ho H1 e1 => ?_, fun u hu => k2 u hu⟩
    exact ⟨_, rfl, _, rfl, x, C, dx, [], rfl, e1 _ _ hx, B.cls, B.na, by decide, k1 ho H1 e1⟩
/-! ### the property, len -/
def spGet (C : Addr) : Sp := fun vs H Q _ => ∃ a v, vs = [.ref a] ∧ BkAt H C a v ∧ RetV v H Q
theorem scGet : FnScope ["self"] ["self"] (defScope sGet) := ⟨rfl, rfl, rfl, by decide +kernel, rfl, by decide +kernel, by decide +kernel⟩
theorem ev_fld {σ : L2.St} {H : Hp} {te : TE} {a : Addr} {v : V} (B : Bks K mg C fI pR fG fL fE) (h : Ev te σ H (.ref a)) (b : BkAt H C a v) : Ev (tFld K te kR) σ H v := fun H1 e Q q => h H1 e _ fun H2 e2 => by
  obtain ⟨dx, hb⟩ := b.mono (e.trans e2)
  exact ⟨a, C, dx, _, v, rfl, hb, B.cls, B.na, rfl, q H2 e2⟩
theorem ok_get {f : Addr} {fd : FuncData} {q : Str} (F : Fun K "rules" q sGet f fd) (B : Bks K mg C fI pR fG fL fE) : FnOk P w K mg base CX0 1 f fd ["self"] (spGet C) := by
  refine F.ok scGet (fun vs H Q E h => ?_) (fun cdv A outer s H vs Q E hr h => ?_)
  · obtain ⟨a, v, rfl, _⟩ := h
    rfl
  · obtain ⟨a, v, rfl, b, k⟩ := h
    refine ⟨_, pss_one (ps_ret (pe_fld (pv 0) (by rfl))), ?_⟩
    exact s_ret (ev_fld B (ev_var rfl) b) k
def spLen (C : Addr) : Sp := fun vs H Q _ => ∃ a t xs, vs = [.ref a] ∧ BkAt H C a (.ref t) ∧ SqT K H t xs ∧ RetV (.int (xs.length : Int)) H Q
theorem scLen : FnScope ["self"] ["self"] (defScope sLen) := ⟨rfl, rfl, rfl, by decide +kernel, rfl, by decide +kernel, by decide +kernel⟩
theorem ok_len {f : Addr} {fd : FuncData} {q : Str} (F : Fun K "__len__" q sLen f fd) (T : Gv mg) (B : Bks K mg C fI pR fG fL fE) : FnOk P w K mg base CX0 1 f fd ["self"] (spLen (K := K) C) := by
  refine F.ok scLen (fun vs H Q E h => ?_) (fun cdv A outer s H vs Q E hr h => ?_)
  · obtain ⟨a, t, xs, rfl, _⟩ := h
    rfl
  · obtain ⟨a, t, xs, rfl, b, hx, k⟩ := h
    refine ⟨_, pss_one (ps_ret (pe_callB call_len_seq (by rfl) T.len PySem.boot_len (pa_cons (pe_fld (pv 0) (by rfl)) pa_nil))), ?_⟩
    exact s_ret (ev_lenT (ev_fld B (ev_var rfl) b) hx) k
/-! ### == -/
def spEqB (C : Addr) : Sp := fun vs H Q _ => ∃ a b v, vs = [.ref a, .ref b] ∧ BkAt H C a v ∧
  ((∃ xs, H b = some (.tup xs) ∧ RetV (.bl false) H Q) ∨ ∃ u d e, BkAt H C b u ∧ (∀ G, Ex H G → Dp K G v d ∧ Dp K G u e) ∧ SeqAt.shaped d = true ∧ SeqAt.shaped e = true ∧ RetV (.bl (PyData.eqv d e)) H Q)
theorem scEq : FnScope ["self", "other"] ["self", "other"] (defScope sEq) := ⟨rfl, rfl, rfl, by decide +kernel, rfl, by decide +kernel, by decide +kernel⟩
theorem ty_bk {H : Hp} {a : Addr} {v : V} (B : Bks K mg C fI pR fG fL fE) (b : BkAt H C a v) : TyX K H (.ref a) (.ref C) := by
  obtain ⟨dx, h⟩ := b
  exact .base (.ins h B.cls B.ha B.hn B.htk B.hm)
theorem kt_self : PySem.W.kitOne K (.ref C) (.ref C) = some true := by
  unfold PySem.W.kitOne
  rw [if_pos (by simp)]
theorem ev_isB {σ : L2.St} {H : Hp} {te tx : TE} {a : Addr} {v : V} (B : Bks K mg C fI pR fG fL fE) (h : Ev te σ H (.ref a)) (hc : Ev tx σ H (.ref C)) (b : BkAt H C a v) : Ev (tCB (rIsi K) (tCons te (tCons tx tNil))) σ H (.bl true) := fun H1 e Q q =>
  h H1 e _ fun H2 e2 => hc H2 (e.trans e2) _ fun H3 e3 => ⟨.ref a, .ref C, .ref C, .ref C, true, rfl, .own C, ty_bk B (b.mono ((e.trans e2).trans e3)), kt_self, q H3 (e2.trans e3)⟩
theorem ok_eqB {f : Addr} {fd : FuncData} {q : Str} (F : Fun K "__eq__" q sEq f fd) (T : Gv mg) (B : Bks K mg C fI pR fG fL fE) : FnOk P w K mg base CX0 1 f fd ["self", "other"] (spEqB (K := K) C) := by
  refine F.ok scEq (fun vs H Q E h => ?_) (fun cdv A outer s H vs Q E hr h => ?_)
  · obtain ⟨a, b, v, rfl, _⟩ := h
    rfl
  · obtain ⟨a, b, v, rfl, ba, h⟩ := h
    have hu : (A.deeper (envOfC q (defScope sEq) s.heap.objs.size f cdv)).units + 64 < cLine := by have := hr.un; omega
    refine ⟨_, pss_one (ps_ret (pe_and (pe_callB call_isi (by rfl) T.isi boot_isinstance (pa_cons (pv 1) (pa_cons (pe_glob (v := .ref C) (by rfl) B.g rfl) pa_nil)))
      (pe_one (pe_cmpR (op_eqD hu) (pe_fld (pv 0) (by rfl)) (pe_fld (pv 1) (by rfl)) (nomark _))))), ?_⟩
    rcases h with ⟨xs, hb, k⟩ | ⟨u, d, e, bb, dp, s1, s2, k⟩
    · refine s_ret (v := .bl false) (ev_is (ev_and (a := false) (b := false) (fun H1 e1 Q q => ⟨_, rfl, .ref b, .ref C, .type "tuple", .ref C, false, rfl, .own C, .base (.tup (e1 _ _ hb)), B.kt, q H1 (Ex.refl _)⟩) (fun z => by cases z)) rfl) k
    · refine s_ret (v := .bl (PyData.eqv d e)) (ev_is (ev_and (a := true) (b := PyData.eqv d e) (ev_isB B (ev_var rfl) ev_c bb) fun _ => ev_op (ev_fld B (ev_var rfl) ba) (ev_fld B (ev_var rfl) bb) fun H1 e1 Q q => ?_) rfl) k
      obtain ⟨d1, d2⟩ := dp H1 e1
      exact ⟨d, e, d1, d2, s1, s2, q H1 (Ex.refl _)⟩
/-! ### check_book, made_paths -/
def spCkB (C : Addr) : Sp := fun vs H Q _ => ∃ a v, vs = [.ref a] ∧ BkAt H C a v ∧ RetV .non H Q
theorem scCkBook : FnScope ["value"] ["value"] (defScope sCkBook) := ⟨rfl, rfl, rfl, by decide +kernel, rfl, by decide +kernel, by decide +kernel⟩
theorem ok_ckBook {f : Addr} {fd : FuncData} (F : Fun K "check_book" "check_book" sCkBook f fd) (T : Gv mg) (B : Bks K mg C fI pR fG fL fE) : FnOk P w K mg base CX0 1 f fd ["value"] (spCkB C) := by
  refine F.ok scCkBook (fun vs H Q E h => ?_) (fun cdv A outer s H vs Q E hr h => ?_)
  · obtain ⟨a, v, rfl, _⟩ := h
    rfl
  · obtain ⟨a, v, rfl, b, k⟩ := h
    refine ⟨_, pss_one (ps_if (pt_not (pt_val (pe_callB call_isi (by rfl) T.isi boot_isinstance (pa_cons (pv 0) (pa_cons (pe_glob (v := .ref C) (by rfl) B.g rfl) pa_nil))))) pss_never pss_nil), ?_⟩
    refine s_if (b := false) (et_is (et_not (et_B (ev_isB B (ev_var rfl) ev_c b))) rfl) (fun z => by cases z) (fun _ H1 e1 => ?_)
    exact k H1 e1
/-- the made paths of a tuple of rules -/
def Heads (H : Hp) (xs : List V) (ps : List Str) : Prop := Paired (fun v p => ∃ a ts, v = .ref a ∧ H a = some (.tup (.str p :: ts))) xs ps
theorem Heads.mono {H H' : Hp} {xs : List V} {ps : List Str} (e : Ex H H') (h : Heads H xs ps) : Heads H' xs ps := pr_mono h fun _ _ ⟨a, ts, z, h⟩ => ⟨a, ts, z, e _ _ h⟩
def headV (H : Hp) : V → V
  | .ref c => match H c with
    | some (.tup (.str z :: _)) => .str z
    | _ => .non
  | _ => .non
theorem heads_map {H : Hp} {xs : List V} {ps : List Str} (h : Heads H xs ps) : xs.map (headV H) = ps.map V.str := by
  induction h with
  | nil => rfl
  | cons r _ ih =>
    obtain ⟨a, ts, rfl, h⟩ := r
    simp only [List.map_cons, ih, headV, h]
/-- sorted([rule[0] for rule in ..]) -/
theorem srt_heads {σ : L2.St} {H : Hp} {tl : TE} {j : Nat} {t : Addr} {xs : List V} {ps : List Str} {Q : VK} (hj : j < σ.length) (ht : Ev tl σ H (.ref t)) (hx : SqT K H t xs) (hh : Heads H xs ps) (hl : ps.length < 64)
    (k : ∀ ys, ys.Perm ps → sortedS ys = true → RetL (ys.map V.str) H Q) :
    tCB (rSortedS K) (tCons (tLc (iTup K tl) (gName j) tYes (tOp (rIxT K) (tVar j) (tC (.int 0))) [j]) tNil) σ H Q := by
  have hlen := pr_len hh
  have big : EvL (tLc (iTup K tl) (gName j) tYes (tOp (rIxT K) (tVar j) (tC (.int 0))) [j]) σ H (ps.map V.str) := by
    refine ev_isL (el_lcT (headV H) ht hx (by omega) fun x H1 e1 hxm => ?_) (heads_map hh)
    obtain ⟨z, hz, c, ts, rfl, hc⟩ := pr_mem hh hxm
    refine ev_is (ev_op (ev_var (by simp [hj])) ev_c (rv_ixT (st_of (e1 _ _ hc)) (atI_nat (j := 0) rfl))) ?_
    simp only [headV, hc]
  show tLc (iTup K tl) (gName j) tYes (tOp (rIxT K) (tVar j) (tC (.int 0))) [j] σ H (fun x H1 => rSortedS K [x] H1 Q)
  exact big H (Ex.refl _) _ fun p H1 hp e1 h1 => ⟨p, ps, rfl, sq_of h1, hl, fun ys q pm so hq => k ys pm so q _ (fresh_back e1 hq) (e1.trans (Ex.new hq)) upd_same⟩
theorem ev_prop {σ : L2.St} {H : Hp} {te : TE} {a : Addr} {v : V} (h : Ev te σ H (.ref a)) (b : BkAt H C a v) : Ev (tProp C (spGet C) [] E0 te) σ H v := fun H1 e Q q => h H1 e _ fun H2 e2 => by
  have bb := b.mono (e.trans e2)
  obtain ⟨dx, hb⟩ := id bb
  exact ⟨a, dx, _, rfl, hb, a, v, rfl, bb, fun H3 e3 => q H3 (e2.trans e3)⟩
end
end Bp
namespace Bl
open PySem PySem.Spec PyProof.Rows L2 Bk Bm Evl Be Cr Bp
abbrev sTaken : Stmt := top 37
abbrev sOne : Stmt := top 38
/-- the script, at a: never written -/
def Sc (K : PySem.W.Frag) (H : Hp) (a : Addr) (ns : List Int) : Prop := (∃ o, H a = some (.frz o (.lst (ns.map V.int)))) ∨
  ∃ (o : Obj) (its : Array Value) (n : Nat), K.lookup a = some o ∧ o.cls = .type "list" ∧ o.dict = none ∧ o.data = .seq its n ∧ its.size ≤ sizeLine ∧ Vals (ns.map V.int) its.toList
theorem Sc.sq {K : PySem.W.Frag} {H : Hp} {a : Addr} {ns : List Int} (h : Sc K H a ns) : SqL K H a (ns.map V.int) := by
  rcases h with h | h
  · exact .inl (.inr h)
  · exact .inr h
/-- all but r stands -/
def Kp (r : Addr) (H G : Hp) : Prop := ∀ b o, b ≠ r → H b = some o → G b = some o
theorem Kp.of_ex {r : Addr} {H G : Hp} (e : Ex H G) : Kp r H G := fun b o _ h => e b o h
theorem Kp.refl (r : Addr) (H : Hp) : Kp r H H := fun _ _ _ h => h
theorem Kp.trans {r : Addr} {H G F : Hp} (a : Kp r H G) (b : Kp r G F) : Kp r H F := fun x o n h => b x o n (a x o n h)
theorem Kp.up {r : Addr} {H G : Hp} {o : HO} (a : Kp r H G) : Kp r H (upd G r o) := fun x u n h => by
  rw [upd_ne n]
  exact a x u n h
theorem Sc.keep {K : PySem.W.Frag} {H G : Hp} {r a : Addr} {ns : List Int} {xs : List V} (h : Sc K H a ns) (hr : H r = some (.lst xs)) (k : Kp r H G) : Sc K G a ns := by
  rcases h with ⟨o, h⟩ | h
  · exact .inl ⟨o, k a _ (ne_of h hr (by intro z; cases z)) h⟩
  · exact .inr h
def rowL (a : Addr) (i s z : Int) : List V := [.ref a, .int i, .int s, .int z]
/-- the row of draws stands at r -/
def Row (K : PySem.W.Frag) (H : Hp) (r : Addr) : Prop := ∃ a i s z ns, H r = some (.lst (rowL a i s z)) ∧ Sc K H a ns ∧ 0 ≤ i
structure Dr (K : PySem.W.Frag) (r : Addr) (H G : Hp) : Prop where
  kp : Kp r H G
  row : Row K G r
theorem Row.ex {K : PySem.W.Frag} {H G : Hp} {r : Addr} (h : Row K H r) (e : Ex H G) : Row K G r := by
  obtain ⟨a, i, s, z, ns, hr, sc, hi⟩ := h
  exact ⟨a, i, s, z, ns, e _ _ hr, sc.keep hr (.of_ex e), hi⟩
theorem Dr.refl {K : PySem.W.Frag} {H : Hp} {r : Addr} (h : Row K H r) : Dr K r H H := ⟨.refl r H, h⟩
theorem Dr.trans {K : PySem.W.Frag} {H G F : Hp} {r : Addr} (a : Dr K r H G) (b : Dr K r G F) : Dr K r H F := ⟨a.kp.trans b.kp, b.row⟩
theorem Dr.ex {K : PySem.W.Frag} {H G F : Hp} {r : Addr} (a : Dr K r H G) (e : Ex G F) : Dr K r H F := ⟨a.kp.trans (.of_ex e), a.row.ex e⟩
theorem Dr.pre {K : PySem.W.Frag} {H G F : Hp} {r : Addr} (e : Ex H G) (a : Dr K r G F) : Dr K r H F := ⟨(Kp.of_ex e).trans a.kp, a.row⟩
section
variable {P : Program} {w : World} {K : PySem.W.Frag} {mg : Str → Option Value} {base : Heap}
abbrev nTaken : List Str := ["_law_row", "_law_many", "_law_found", "_law_cell"]
theorem scTaken : FnScope nTaken ["_law_row", "_law_many"] (defScope sTaken) := ⟨rfl, rfl, rfl, by decide +kernel, rfl, by decide +kernel, by decide +kernel⟩
def spTaken : Sp := fun vs H Q _ => ∃ r m, vs = [.ref r, .int m] ∧ Row K H r ∧ 0 < m ∧ m < 1073741824 ∧ ∀ n G, 0 ≤ n → n < m → Dr K r H G → Q (.int n) G
theorem ev_int {σ : L2.St} {H : Hp} {te : TE} {i : Int} (h : Ev te σ H (.int i)) : Ev (tCB (fun xs H Q => (∃ i, xs = [V.int i] ∧ Q (.int i) H) ∨ ∃ k, xs = [.bl k] ∧ Q (.int (if k then 1 else 0)) H) (tCons te tNil)) σ H (.int i) := fun H1 e Q q =>
  h H1 e _ fun H2 e2 => .inl ⟨i, rfl, q H2 e2⟩
theorem rv_mod {H : Hp} {i j : Int} (h : 0 < j) : RV (rI (fun _ j => 0 < j) fun i j => .int (i % j)) (.int i) (.int j) H (.int (i % j)) := rv_I h
theorem ok_taken {f : Addr} {fd : FuncData} (F : Fun K "_law_taken" "_law_taken" sTaken f fd) (T : Gv mg) : FnOk P w K mg base CX0 1 f fd ["_law_row", "_law_many"] (spTaken (K := K)) := by
  refine F.ok scTaken (fun vs H Q E h => ?_) (fun cdv A outer s H vs Q E hr h => ?_)
  · obtain ⟨r, m, rfl, _⟩ := h
    rfl
  · obtain ⟨r, m, rfl, ⟨a, i, z2, z3, ns, hrow, sc, hi⟩, hm0, hm1, k⟩ := h
    refine ⟨_, pss_cons (ps_if (pt_cmpR op_gt (pe_ix ix_list (pv 0) pe_int (fun _ _ => rfl)) pe_int (nomark _))
        (pss_cons (ps_set (i := 2) scTaken.nd rfl (Or.inl rfl) (pe_op op_mod (pe_callTy call_int1 (by rfl) T.int (by decide +kernel) (pa_cons (pe_ix ix_list (pv 0) pe_int (fun _ _ => rfl)) pa_nil)) (pv 1)))
        (pss_cons (ps_asg (pe_op op_fdiv (pe_ix ix_list (pv 0) pe_int (fun _ _ => rfl)) (pv 1)) (pg_sub (pv 0) pe_int set_list))
        (pss_one (ps_ret (pv 2))))) pss_nil)
      (pss_cons (ps_asg (pe_op op_add (pe_ix ix_list (pv 0) pe_int (fun _ _ => rfl)) pe_int) (pg_sub (pv 0) pe_int set_list))
      (pss_cons (ps_if (pt_cmpR op_gt (pe_ix ix_list (pv 0) pe_int (fun _ _ => rfl)) (pe_callB call_len_seq (by rfl) T.len PySem.boot_len (pa_cons (pe_ix ix_list (pv 0) pe_int (fun _ _ => rfl)) pa_nil)) (nomark _))
        (pss_cons (ps_asg (pe_op op_mod (pe_callTy call_int1 (by rfl) T.int (by decide +kernel) (pa_cons (pe_op op_add (pe_op op_mul (pe_ix ix_list (pv 0) pe_int (fun _ _ => rfl)) pe_int) pe_int) pa_nil)) pe_int) (pg_sub (pv 0) pe_int set_list))
        (pss_one (ps_ret (pe_op op_mod (pe_callTy call_int1 (by rfl) T.int (by decide +kernel) (pa_cons (pe_op op_fdiv (pe_ix ix_list (pv 0) pe_int (fun _ _ => rfl)) pe_int) pa_nil)) (pv 1))))) pss_nil)
      (pss_cons (ps_set (i := 3) scTaken.nd rfl (Or.inl rfl) (pe_ix ix_list (pe_ix ix_list (pv 0) pe_int (fun _ _ => rfl)) (pe_op op_sub (pe_ix ix_list (pv 0) pe_int (fun _ _ => rfl)) pe_int) (fun _ _ => rfl)))
      (pss_cons (ps_asg (pe_op op_mod (pe_callTy call_int1 (by rfl) T.int (by decide +kernel) (pa_cons (pe_op op_add (pe_op op_add (pe_op op_mul (pe_ix ix_list (pv 0) pe_int (fun _ _ => rfl)) pe_int) (pv 3)) pe_int) pa_nil)) pe_int) (pg_sub (pv 0) pe_int set_list))
      (pss_cons (ps_if (pt_cmpR op_ge (pv 3) (pe_op op_pow pe_int pe_int) (nomark _)) (pss_one (ps_asg (pe_op op_fdiv (pv 3) (pv 1)) (pg_sub (pv 0) pe_int set_list))) pss_nil)
      (pss_one (ps_ret (pe_op op_mod (pe_callTy call_int1 (by rfl) T.int (by decide +kernel) (pa_cons (pv 3) pa_nil)) (pv 1))))))))), ?_⟩
    have ixr : ∀ {σ : L2.St} {G : Hp} {j : Int} {a' : Addr} {i' s' t' : Int} {v : V}, σ[0]? = some (some (.ref r)) → G r = some (.lst (rowL a' i' s' t')) → atI (rowL a' i' s' t') j = some v → Ev (tOp (rIxL K) (tVar 0) (tC (.int j))) σ G v :=
      fun h1 h2 h3 => ev_op (ev_var h1) ev_c (rv_ixL (sq_of h2) h3)
    refine q_when (b := decide (0 < z3)) (et_test (ev_op (ixr rfl hrow rfl) ev_c rv_I0)) (fun hb H1 e1 => ?_) (fun hb H1 e1 => ?_)
    · -- the rest of a great cell
      refine q_asg (ev_op (ev_int (ixr rfl (e1 _ _ hrow) rfl)) (ev_var rfl) (rv_mod hm0)) fun H2 e2 => ?_
      refine q_setL (j := 3) ((e1.trans e2) _ _ hrow) (ev_op (ixr rfl ((e1.trans e2) _ _ hrow) rfl) (ev_var rfl) (rv_I ⟨hm0, hm1⟩)) (ev_var rfl) ev_c (by show 3 < 4; decide) fun H3 e3 => ?_
      refine s_ret (v := .int (z3 % m)) (ev_var rfl) fun H4 e4 => ?_
      have kp : Kp r H (upd H3 r (.lst ((rowL a i z2 z3).set 3 (.int (z3 / m))))) := (Kp.of_ex ((e1.trans e2).trans e3)).up
      exact k _ H4 (Int.emod_nonneg _ (by omega)) (Int.emod_lt_of_pos _ hm0) (Dr.ex ⟨kp, a, i, z2, z3 / m, ns, upd_same, sc.keep hrow kp, hi⟩ e4)
    · refine q_setL (j := 1) (e1 _ _ hrow) (ev_op (ixr rfl (e1 _ _ hrow) rfl) ev_c rv_I0) (ev_var rfl) ev_c (by show 1 < 4; decide) fun H2 e2 => ?_
      have kp2 : Kp r H (upd H2 r (.lst (rowL a (i + 1) z2 z3))) := (Kp.of_ex (e1.trans e2)).up
      have row2 : (upd H2 r (.lst (rowL a (i + 1) z2 z3))) r = some (.lst (rowL a (i + 1) z2 z3)) := upd_same
      show tSeq (tIfS _ _ tNext) _ _ _ (upd H2 r (.lst (rowL a (i + 1) z2 z3)))
      generalize upd H2 r (.lst (rowL a (i + 1) z2 z3)) = G2 at kp2 row2
      have sc2 := sc.keep hrow kp2
      refine q_when (b := decide ((ns.length : Int) < i + 1)) (et_test (ev_op (ixr rfl row2 rfl) (ev_is (ev_len (ixr rfl row2 rfl) sc2.sq) (by rw [List.length_map])) rv_I0)) (fun hb H3 e3 => ?_) (fun hb H3 e3 => ?_)
      · -- behind the script
        refine q_setL (j := 2) (e3 _ _ row2) (ev_op (ev_int (ev_op (ev_op (ixr rfl (e3 _ _ row2) rfl) ev_c (rv_I (.inr ⟨by decide, by decide⟩))) ev_c rv_I0)) ev_c (rv_mod (by decide))) (ev_var rfl) ev_c (by show 2 < 4; decide) fun H4 e4 => ?_
        show tRet _ _ _ (upd H4 r (.lst (rowL a (i + 1) ((z2 * 48271 + 11) % 2147483647) z3)))
        refine s_ret (v := .int ((z2 * 48271 + 11) % 2147483647 / 7 % m)) (ev_op (ev_int (ev_op (ixr rfl upd_same rfl) ev_c (rv_I ⟨by decide, by decide⟩))) (ev_var rfl) (rv_mod hm0)) fun H5 e5 => ?_
        have kp : Kp r H (upd H4 r (.lst (rowL a (i + 1) ((z2 * 48271 + 11) % 2147483647) z3))) := (kp2.trans (.of_ex (e3.trans e4))).up
        exact k _ H5 (Int.emod_nonneg _ (by omega)) (Int.emod_lt_of_pos _ hm0) (Dr.ex ⟨kp, a, _, _, _, ns, upd_same, sc.keep hrow kp, by omega⟩ e5)
      · have hlt : i + 1 ≤ (ns.length : Int) := by simpa using hb
        have hin : i.toNat < ns.length := by omega
        have hat : atI (ns.map V.int) (i + 1 - 1) = some (V.int ns[i.toNat]) := by
          have e : i + 1 - 1 = (i.toNat : Int) := by omega
          rw [e]
          exact atI_nat (by rw [List.getElem?_map, List.getElem?_eq_getElem hin]; rfl)
        generalize ns[i.toNat] = c at hat
        refine q_asg (ev_op (ixr rfl (e3 _ _ row2) rfl) (ev_op (ixr rfl (e3 _ _ row2) rfl) ev_c rv_I0) (rv_ixL (sc2.keep row2 (.of_ex e3)).sq hat)) fun H4 e4 => ?_
        refine q_setL (j := 2) ((e3.trans e4) _ _ row2) (ev_op (ev_int (ev_op (ev_op (ev_op (ixr rfl ((e3.trans e4) _ _ row2) rfl) ev_c (rv_I (.inr ⟨by decide, by decide⟩))) (ev_var rfl) rv_I0) ev_c rv_I0)) ev_c (rv_mod (by decide))) (ev_var rfl) ev_c (by show 2 < 4; decide) fun H5 e5 => ?_
        have kp5 : Kp r H (upd H5 r (.lst (rowL a (i + 1) ((z2 * 48271 + c + 11) % 2147483647) z3))) := (kp2.trans (.of_ex ((e3.trans e4).trans e5))).up
        have row5 : (upd H5 r (.lst (rowL a (i + 1) ((z2 * 48271 + c + 11) % 2147483647) z3))) r = some (.lst (rowL a (i + 1) ((z2 * 48271 + c + 11) % 2147483647) z3)) := upd_same
        show tSeq (tIfS _ _ tNext) _ _ _ (upd H5 r (.lst (rowL a (i + 1) ((z2 * 48271 + c + 11) % 2147483647) z3)))
        generalize (z2 * 48271 + c + 11) % 2147483647 = z2' at kp5 row5 ⊢
        generalize upd H5 r (.lst (rowL a (i + 1) z2' z3)) = G5 at kp5 row5 ⊢
        have fin : ∀ G6, Kp r H G6 → (∃ t, G6 r = some (.lst (rowL a (i + 1) z2' t))) → tRet (tOp (rI (fun _ j => 0 < j) fun i j => .int (i % j)) (tCB (fun xs H Q => (∃ i, xs = [V.int i] ∧ Q (.int i) H) ∨ ∃ k, xs = [.bl k] ∧ Q (.int (if k then 1 else 0)) H) (tCons (tVar 3) tNil)) (tVar 1))
            { nx := fun _ H' => Q .non H', rt := Q } [some (.ref r), some (.int m), none, some (.int c)] G6 := fun G6 k6 ⟨t, r6⟩ =>
          s_ret (v := .int (c % m)) (ev_op (ev_int (ev_var rfl)) (ev_var rfl) (rv_mod hm0)) fun H7 e7 => k _ H7 (Int.emod_nonneg _ (by omega)) (Int.emod_lt_of_pos _ hm0) (Dr.ex ⟨k6, a, _, _, t, ns, r6, sc.keep hrow k6, by omega⟩ e7)
        refine q_when (b := decide ((10 : Int) ^ 18 ≤ c)) (et_test (ev_op (ev_var rfl) (ev_op ev_c ev_c (rv_I ⟨by decide, by decide, by decide⟩)) rv_I0)) (fun hb6 H6 e6 => ?_) (fun hb6 H6 e6 => fin H6 (kp5.trans (.of_ex e6)) ⟨_, e6 _ _ row5⟩)
        refine s_setL (j := 3) (e6 _ _ row5) (ev_op (ev_var rfl) (ev_var rfl) (rv_I ⟨hm0, hm1⟩)) (ev_var rfl) ev_c (by show 3 < 4; decide) fun H7 e7 => ?_
        exact fin _ ((kp5.trans (.of_ex (e6.trans e7))).up) ⟨c / m, upd_same⟩
end
end Bl
namespace Bl
open PySem PySem.Spec PyProof.Rows L2 Bk Bm Evl Be Cr Bp TL
section
variable {K : PySem.W.Frag} {H G : Hp} {r D : Addr}
theorem Row.updL {ys zs : List V} (h : Row K G r) (hD : G D = some (.lst ys)) (hne : D ≠ r) : Row K (upd G D (.lst zs)) r := by
  obtain ⟨a, i, s, z, ns, hr, sc, hi⟩ := h
  refine ⟨a, i, s, z, ns, by rw [upd_ne hne.symm]; exact hr, ?_, hi⟩
  rcases sc with ⟨o, h⟩ | h
  · exact .inl ⟨o, by rw [upd_ne (ne_of h hD (by intro z; cases z))]; exact h⟩
  · exact .inr h
theorem Kp.updL {o : HO} (h : Kp r H G) (hD : H D = none) : Kp r H (upd G D o) := fun b u n e => by
  rw [upd_ne (ne_of_none e hD)]
  exact h b u n e
theorem Dr.updL {ys zs : List V} (d : Dr K r H G) (hD : H D = none) (hg : G D = some (.lst ys)) (hne : D ≠ r) : Dr K r H (upd G D (.lst zs)) := ⟨d.kp.updL hD, d.row.updL hg hne⟩
theorem Row.at (h : Row K H r) : ∃ xs, H r = some (.lst xs) := by
  obtain ⟨a, i, s, z, ns, hr, _⟩ := h
  exact ⟨_, hr⟩
theorem Row.ne_new (h : Row K H r) {p : Addr} (hp : H p = none) : p ≠ r := by
  obtain ⟨xs, e⟩ := h.at
  exact (ne_of_none e hp).symm
theorem Dr.free {p : Addr} (d : Dr K r H G) (h : Row K H r) (hp : G p = none) : H p = none := by
  cases e : H p with
  | none => rfl
  | some o =>
    have n : p ≠ r := d.row.ne_new hp
    rw [d.kp p o n e] at hp
    cases hp
end
section
variable {P : Program} {w : World} {K : PySem.W.Frag} {mg : Str → Option Value} {base : Heap}
theorem scOne : FnScope ["_law_row", "_law_things"] ["_law_row", "_law_things"] (defScope sOne) := ⟨rfl, rfl, rfl, by decide +kernel, rfl, by decide +kernel, by decide +kernel⟩
def spOne : Sp := fun vs H Q _ => ∃ r t xs, vs = [.ref r, .ref t] ∧ Row K H r ∧ t ≠ r ∧ H t = some (.lst xs) ∧ 0 < xs.length ∧ xs.length < 1000000 ∧ ∀ v G, v ∈ xs → Dr K r H G → Q v G
/-- a draw below m -/
theorem draw {σ : L2.St} {H : Hp} {ta tm : TE} {r : Addr} {m : Int} {Q : VK} (hr : Ev ta σ H (.ref r)) (hm : Ev tm σ H (.int m)) (row : Row K H r) (h0 : 0 < m) (h1 : m < 1000000) (k : ∀ n G, 0 ≤ n → n < m → Dr K r H G → Q (.int n) G) :
    tCall (spTaken (K := K)) [] E0 (tCons ta (tCons tm tNil)) σ H Q :=
  hr H (Ex.refl _) _ fun H1 e1 => hm H1 e1 _ fun H2 e2 => ⟨r, m, rfl, row.ex (e1.trans e2), h0, by omega, fun n G hn hm d => k n G hn hm (Dr.pre (e1.trans e2) d)⟩
theorem ok_one {f : Addr} {fd : FuncData} (F : Fun K "_law_one" "_law_one" sOne f fd) (T : Gv mg) (cT : Cal P w K mg base CX0 1 "_law_taken" ["_law_row", "_law_many"] (spTaken (K := K))) : FnOk P w K mg base CX0 2 f fd ["_law_row", "_law_things"] (spOne (K := K)) := by
  refine F.ok scOne (fun vs H Q E h => ?_) (fun cdv A outer s H vs Q E hr h => ?_)
  · obtain ⟨r, t, xs, rfl, _⟩ := h
    rfl
  · obtain ⟨r, t, xs, rfl, row, hne, ht, h0, h1, k⟩ := h
    refine ⟨_, pss_one (ps_ret (pe_ix ix_list (pv 1) (pe_call cT.F hr (by rfl) cT.g cT.kp cT.b .nil pass0 (pa_cons (pv 0) (pa_cons (pe_callB call_len_seq (by rfl) T.len PySem.boot_len (pa_cons (pv 1) pa_nil)) pa_nil))) (fun _ _ => rfl))), ?_⟩
    refine ⟨_, rfl, draw (m := (xs.length : Int)) (ev_var rfl) (ev_len (ev_var rfl) (sq_of ht)) row (by omega) (by omega) fun n G hn hm d => ?_⟩
    have hin : n.toNat < xs.length := by omega
    refine ⟨t, xs, n, xs[n.toNat], rfl, rfl, sq_of (d.kp _ _ hne ht), ?_, k _ G (List.getElem_mem hin) d⟩
    exact at_of (j := n.toNat) (by omega) (List.getElem?_eq_getElem hin)
/-- written values -/
def tCs : List V → TA
  | [] => tNil
  | v :: r => tCons (tC v) (tCs r)
theorem ea_cs {σ : L2.St} {H : Hp} : ∀ vs : List V, EvA (tCs vs) σ H vs
  | [] => ea_nil
  | _ :: r => ea_cons ev_c (ea_cs r)
theorem el_cat {σ : L2.St} {H : Hp} {ta tb : TE} {l : Addr} {xs zs : List V} (ha : Ev ta σ H (.ref l)) (hl : H l = some (.lst xs)) (hb : EvL tb σ H zs) (hz : xs.length + zs.length ≤ 100000) : EvL (tOp rCat ta tb) σ H (xs ++ zs) := fun H1 e Q q =>
  ha H1 e _ fun H2 e2 => hb H2 (e.trans e2) _ fun b H3 hb3 e3 h3 => ⟨l, b, xs, zs, rfl, rfl, ((e.trans e2).trans e3) _ _ hl, h3, sz_of hz, fun p hp => q p _ (fresh_back (e2.trans e3) hp) ((e2.trans e3).trans (Ex.new hp)) upd_same⟩
end
end Bl
namespace Bl
open PySem PySem.Spec PyProof.Rows L2 Bk Bm Evl Be Cr Bp TL
section
variable {X : Cx}
/-- x * n of a text -/
def rMulS : R2 := fun x y H Q => ∃ z n, x = .str z ∧ y = .int n ∧ MulOk z n ∧ Q (.str (Txt.mul z n)) H
theorem op_mulS : OpR X (binaryOp .Mult) rMulS := by
  intro pins s σ H x y v u Q I rx ry h
  obtain ⟨z, n, rfl, rfl, hok, q⟩ := h
  obtain ⟨t, rfl⟩ := rx
  obtain ⟨t', rfl⟩ := ry
  exact SB.mul hok fun t2 k => ⟨.str (Txt.mul z n), H, I.tok k, ⟨_, rfl⟩, q⟩
end
theorem Sm.kp {r : Addr} {H G : Hp} {v : V} {xs : List V} (h : Sm H v) (hr : H r = some (.lst xs)) (hx : xs.length ≠ 1) (k : Kp r H G) : Sm G v := by
  cases h with
  | non => exact .non
  | bl b => exact .bl b
  | int i => exact .int i
  | str x h => exact .str x h
  | l1 h => exact .l1 (k _ _ (ne_of h hr (by intro z; cases z; exact hx rfl)) h)
  | t1 h => exact .t1 (k _ _ (ne_of h hr (by intro z; cases z)) h)
  | d0 h => exact .d0 (k _ _ (ne_of h hr (by intro z; cases z)) h)
theorem Sm.dr {K : PySem.W.Frag} {r : Addr} {H G : Hp} {v : V} (h : Sm H v) (row : Row K H r) (d : Dr K r H G) : Sm G v := by
  obtain ⟨a, i, s, z, ns, hr, _⟩ := row
  exact Sm.kp h hr (by show 4 ≠ 1; decide) d.kp
end Bl
namespace Bl
open PySem PySem.Spec PyProof.Rows L2 Bk Bm Evl Be Cr Bp TL
abbrev sRuleL : Stmt := top 39
def five : List Str := ["m", "n", "o", "p/q", "r", "s"].map Str.ofString
def first5 : List Str := ["a", "b", "c", "d/x", "d/y"].map Str.ofString
def ten : List Str := first5 ++ five
def folds : List Str := ["", "d", "e", "e/f", "a"].map Str.ofString
def wrds : List Str := ["b", "use", "y", "a b", "1", "use a", "use d/x"].map Str.ofString
def knds : List Str := ["join", "join", "size", "sort", "pick", "names", "use", "use", "choose", "choose", "need"].map Str.ofString
def okS (x : Str) : Prop := x.length ≤ 1000 ∧ PyData.strOk x = true
instance (x : Str) : Decidable (okS x) := by unfold okS; infer_instance
theorem ten_ok : ∀ y ∈ ten, okS y ∧ pathB y = true := by decide +kernel
theorem folds_ok : ∀ y ∈ folds, okS y ∧ isFolderV (.str y) = true := by decide +kernel
theorem wrds_ok : ∀ y ∈ wrds, okS y ∧ wordB y = true := by decide +kernel
theorem knds_ok : ∀ k ∈ knds, okS k ∧ k ∈ kinds9 := by decide +kernel
theorem five_ten : ∀ y ∈ five, y ∈ ten := by decide +kernel
/-- a thing of a drawn rule -/
inductive Tg (H : Hp) : V → Option (List V) × PyData → Prop
  | s (x : Str) (h : okS x) : Tg H (.str x) (none, .str x)
  | t {b : Addr} {ys : List Str} (h : H b = some (.tup (ys.map V.str))) (hy : ∀ y ∈ ys, okS y) (hl : ys.length ≤ 100) : Tg H (.ref b) (some (ys.map V.str), .tuple (ys.map PyData.str))
/-- a drawn rule that makes m -/
def Good (H : Hp) (v : V) (md : Str × PyData) : Prop := ∃ a k ts ods, v = .ref a ∧ H a = some (.tup (.str md.1 :: .str k :: ts)) ∧ Paired (Tg H) ts ods ∧ ods.length ≤ 3 ∧ k ∈ knds ∧ (k = Str.ofString "names" → ∀ x ∈ ts, ∃ y, x = .str y ∧ okS y) ∧
  md.1 ∈ five ∧ ruleB (.str md.1) (.str k) ts (ods.map (·.1)) = true ∧ md.2 = .tuple (.str md.1 :: .str k :: ods.map (·.2))
section
variable {H G : Hp} {v : V} {K : PySem.W.Frag} {r : Addr}
theorem Tg.imp {o : Option (List V) × PyData} (f : ∀ b ys, H b = some (.tup ys) → G b = some (.tup ys)) (h : Tg H v o) : Tg G v o := by
  cases h with
  | s x h => exact .s x h
  | t h hy hl => exact .t (f _ _ h) hy hl
theorem Good.imp {md : Str × PyData} (f : ∀ b ys, H b = some (.tup ys) → G b = some (.tup ys)) (h : Good H v md) : Good G v md := by
  obtain ⟨a, k, ts, ods, h0, h1, h2, h3⟩ := h
  exact ⟨a, k, ts, ods, h0, f _ _ h1, pr_mono h2 fun _ _ z => z.imp f, h3⟩
theorem Good.mono {md : Str × PyData} (e : Ex H G) (h : Good H v md) : Good G v md := h.imp fun b ys z => e _ _ z
theorem Good.dr {md : Str × PyData} (h : Good H v md) (row : Row K H r) (d : Dr K r H G) : Good G v md := h.imp fun b ys z => by
  obtain ⟨rl, hr⟩ := row.at
  exact d.kp _ _ (ne_of z hr (by intro z; cases z)) z
theorem Good.updL {md : Str × PyData} {D : Addr} {xs zs : List V} (h : Good H v md) (hr : H D = some (.lst xs)) : Good (upd H D (.lst zs)) v md := h.imp fun b ys z => by
  rw [upd_ne (ne_of z hr (by intro z; cases z))]
  exact z
theorem Tg.th {o : Option (List V) × PyData} (h : Tg H v o) : Th K H v o.1 := by
  cases h with
  | s x h => exact .sm (.str x h.1) (kd_str x) (by decide)
  | @t b ys h hy hl =>
    refine .tu h (fun x hx => ?_) (by rw [List.length_map]; omega)
    obtain ⟨y, hy', rfl⟩ := List.mem_map.mp hx
    exact .str y (hy y hy').1
theorem Good.itr {md : Str × PyData} (h : Good H v md) : Itr K H v (some md.1) := by
  obtain ⟨a, k, ts, ods, rfl, h1, h2, h3, h4, h5, h6, h7, h8⟩ := h
  have hm := (ten_ok _ (five_ten _ h6)).1.1
  have r := Ru.long (K := K) (os := ods.map (·.1)) h1 (Sm.str md.1 hm) (Sm.str k (knds_ok k h4).1.1) (fun z hz => by cases hz; exact (knds_ok k h4).2) ?_ (by have := pr_len h2; omega) (fun z x hx => ?_)
  · rw [h7] at r
    exact ⟨r, ⟨a, _, rfl, h1⟩, hm⟩
  · clear h3 h7 h8 h5 h1
    induction h2 with
    | nil => exact .nil
    | cons r _ ih => exact .cons r.th ih
  · injection z with z
    obtain ⟨y, rfl, hy⟩ := h5 z x hx
    exact .str y hy.1
theorem ruleB_of {m k : Str} {fs : List Str} {ts : List V} {os : List (Option (List V))} (h0 : pathB m = true) (hf : formOf k = some fs) (hl : ts.length = fs.length) (ha : ((fs.zip (ts.zip os)).all fun p => fitsV p.1 p.2.1 p.2.2) = true) :
    ruleB (.str m) (.str k) ts os = true := by
  unfold ruleB
  simp only [hf, ha, hl, decide_true]
  show (pathB m && _) = true
  rw [h0]
  rfl
theorem fit_path {v : V} {o : Option (List V)} : fitsV (Str.ofString "path") v o = isPathV v := by
  unfold fitsV
  rw [if_pos rfl]
theorem fit_word {v : V} {o : Option (List V)} : fitsV (Str.ofString "word") v o = isWordV v := by
  unfold fitsV
  rw [if_neg (by decide +kernel), if_pos rfl]
theorem fit_fold {v : V} {o : Option (List V)} : fitsV (Str.ofString "folder") v o = isFolderV v := by
  unfold fitsV
  rw [if_neg (by decide +kernel), if_neg (by decide +kernel), if_pos rfl]
theorem fit_paths {v : V} {xs : List V} : fitsV (Str.ofString "paths") v (some xs) = (decide (xs.length ≤ 4) && xs.all isPathV) := by
  unfold fitsV
  rw [if_neg (by decide +kernel), if_neg (by decide +kernel), if_neg (by decide +kernel)]
theorem fit_pathsN {v : V} : fitsV (Str.ofString "paths") v none = false := by
  unfold fitsV
  rw [if_neg (by decide +kernel), if_neg (by decide +kernel), if_neg (by decide +kernel)]
theorem f_join : formOf (Str.ofString "join") = some [Str.ofString "paths"] := by decide +kernel
theorem f_choose : formOf (Str.ofString "choose") = some [Str.ofString "path", Str.ofString "path", Str.ofString "path"] := by decide +kernel
theorem f_names : formOf (Str.ofString "names") = some [Str.ofString "folder"] := by decide +kernel
theorem k_pn : ∀ k ∈ knds, inV (.str k) [.str (Str.ofString "pick"), .str (Str.ofString "need")] = true → formOf k = some [Str.ofString "path", Str.ofString "word"] ∧ k ≠ Str.ofString "names" := by decide +kernel
theorem k_one : ∀ k ∈ knds, k ≠ Str.ofString "join" → k ≠ Str.ofString "choose" → inV (.str k) [.str (Str.ofString "pick"), .str (Str.ofString "need")] = false → k ≠ Str.ofString "names" → formOf k = some [Str.ofString "path"] := by decide +kernel
/-- the rules, each with its own things -/
theorem good_1 {a : Addr} {m k y : Str} (h : H a = some (.tup [.str m, .str k, .str y])) (hm : m ∈ five) (hk : k ∈ knds) (hy : okS y) (hf : (formOf k = some [Str.ofString "path"] ∧ pathB y = true) ∨ (k = Str.ofString "names" ∧ isFolderV (.str y) = true)) :
    Good H (.ref a) (m, .tuple [.str m, .str k, .str y]) := by
  refine ⟨a, k, [.str y], [(none, .str y)], rfl, h, .cons (.s y hy) .nil, by show 1 ≤ 3; decide, hk, fun _ x hx => ⟨y, List.mem_singleton.mp hx, hy⟩, hm, ?_, rfl⟩
  rcases hf with ⟨hf, hp⟩ | ⟨rfl, hp⟩
  · exact ruleB_of (ten_ok _ (five_ten _ hm)).2 hf rfl (by show (fitsV _ (.str y) none && true) = true; rw [fit_path]; show (pathB y && true) = true; rw [hp]; rfl)
  · exact ruleB_of (ten_ok _ (five_ten _ hm)).2 f_names rfl (by show (fitsV _ (.str y) none && true) = true; rw [fit_fold, hp]; rfl)
theorem good_2 {a : Addr} {m k y z : Str} (h : H a = some (.tup [.str m, .str k, .str y, .str z])) (hm : m ∈ five) (hk : k ∈ knds) (hy : okS y) (hz : okS z) (hf : formOf k = some [Str.ofString "path", Str.ofString "word"]) (hp : pathB y = true) (hw : wordB z = true) :
    Good H (.ref a) (m, .tuple [.str m, .str k, .str y, .str z]) := by
  refine ⟨a, k, [.str y, .str z], [(none, .str y), (none, .str z)], rfl, h, .cons (.s y hy) (.cons (.s z hz) .nil), by show 2 ≤ 3; decide, hk, fun _ x hx => ?_, hm, ?_, rfl⟩
  · rcases List.mem_cons.mp hx with rfl | hx
    · exact ⟨y, rfl, hy⟩
    · exact ⟨z, List.mem_singleton.mp hx, hz⟩
  · refine ruleB_of (ten_ok _ (five_ten _ hm)).2 hf rfl ?_
    show (fitsV _ (.str y) none && (fitsV _ (.str z) none && true)) = true
    rw [fit_path, fit_word]
    show (pathB y && (wordB z && true)) = true
    rw [hp, hw]
    rfl
theorem good_3 {a : Addr} {m x y z : Str} (h : H a = some (.tup [.str m, .str (Str.ofString "choose"), .str x, .str y, .str z])) (hm : m ∈ five) (hx : x ∈ ten) (hy : y ∈ ten) (hz : z ∈ ten) :
    Good H (.ref a) (m, .tuple [.str m, .str (Str.ofString "choose"), .str x, .str y, .str z]) := by
  refine ⟨a, _, [.str x, .str y, .str z], [(none, .str x), (none, .str y), (none, .str z)], rfl, h, .cons (.s x (ten_ok x hx).1) (.cons (.s y (ten_ok y hy).1) (.cons (.s z (ten_ok z hz).1) .nil)), by show 3 ≤ 3; decide, by decide +kernel, fun c => absurd c (by decide +kernel), hm, ?_, rfl⟩
  refine ruleB_of (ten_ok _ (five_ten _ hm)).2 f_choose rfl ?_
  show (fitsV _ (.str x) none && (fitsV _ (.str y) none && (fitsV _ (.str z) none && true))) = true
  rw [fit_path, fit_path, fit_path]
  show (pathB x && (pathB y && (pathB z && true))) = true
  rw [(ten_ok x hx).2, (ten_ok y hy).2, (ten_ok z hz).2]
  rfl
theorem good_j {a b : Addr} {m : Str} {ys : List Str} (h : H a = some (.tup [.str m, .str (Str.ofString "join"), .ref b])) (hb : H b = some (.tup (ys.map V.str))) (hm : m ∈ five) (hy : ∀ y ∈ ys, y ∈ ten) (hl : ys.length ≤ 4) :
    Good H (.ref a) (m, .tuple [.str m, .str (Str.ofString "join"), .tuple (ys.map PyData.str)]) := by
  refine ⟨a, _, [.ref b], [(some (ys.map V.str), .tuple (ys.map PyData.str))], rfl, h, .cons (.t hb (fun y h => (ten_ok y (hy y h)).1) (by omega)) .nil, by show 1 ≤ 3; decide, by decide +kernel, fun c => absurd c (by decide +kernel), hm, ?_, rfl⟩
  refine ruleB_of (ten_ok _ (five_ten _ hm)).2 f_join rfl ?_
  show (fitsV _ (.ref b) (some (ys.map V.str)) && true) = true
  rw [fit_paths, List.length_map, decide_eq_true hl, Bool.true_and, Bool.and_true, List.all_map, List.all_eq_true]
  exact fun y h => (ten_ok y (hy y h)).2
end
end Bl
namespace Bl
open PySem PySem.Spec PyProof.Rows L2 Bk Bm Evl Be Cr Bp TL
section
variable {P : Program} {w : World} {K : PySem.W.Frag} {mg : Str → Option Value} {base : Heap}
abbrev nRl : List Str := ["_law_row", "_law_made", "_law_all_made", "_law_some", "_law_kind", "_law_many", "_law_k", "_law_more"]
theorem scRuleL : FnScope nRl ["_law_row", "_law_made", "_law_all_made"] (defScope sRuleL) := ⟨rfl, rfl, rfl, by decide +kernel, rfl, by decide +kernel, by decide +kernel⟩
def spRuleL : Sp := fun vs H Q _ => ∃ r t m q, vs = [.ref r, .str m, .ref t] ∧ Row K H r ∧ t ≠ r ∧ H t = some (.lst ((five.take q).map V.str)) ∧ 5 ≤ q ∧ q ≤ 6 ∧ m ∈ five ∧ ∀ a d G, Dr K r H G → Good G (.ref a) (m, d) → Q (.ref a) G
theorem cut_mem {xs : List V} {lo hi : Option Int} {x : V} (h : x ∈ cutV xs lo hi) : x ∈ xs := by
  unfold cutV at h
  first
    | exact List.mem_of_mem_drop (List.mem_of_mem_take h)
    | exact List.mem_of_mem_take (List.mem_of_mem_drop h)
theorem cut_len {xs : List V} {lo hi : Option Int} : (cutV xs lo hi).length ≤ xs.length := by
  unfold cutV
  simp
  omega
/-- one of a list of texts -/
theorem one_str {xs : List Str} {v : V} (h : v ∈ xs.map V.str) : ∃ y ∈ xs, v = .str y := by
  obtain ⟨y, hy, rfl⟩ := List.mem_map.mp h
  exact ⟨y, hy, rfl⟩
/-- a draw from a list that stands -/
theorem drawL {σ : L2.St} {H : Hp} {ta tb : TE} {r t : Addr} {xs : List V} {Q : VK} (hr : Ev ta σ H (.ref r)) (ht : Ev tb σ H (.ref t)) (row : Row K H r) (hne : t ≠ r) (hx : H t = some (.lst xs)) (h0 : 0 < xs.length) (h1 : xs.length < 1000000)
    (k : ∀ v G, v ∈ xs → Dr K r H G → Q v G) : tCall (spOne (K := K)) [] E0 (tCons ta (tCons tb tNil)) σ H Q :=
  hr H (Ex.refl _) _ fun H1 e1 => ht H1 e1 _ fun H2 e2 => ⟨r, t, xs, rfl, row.ex (e1.trans e2), hne, (e1.trans e2) _ _ hx, h0, h1, fun v G hv d => k v G hv (Dr.pre (e1.trans e2) d)⟩
/-- a draw from a written list of texts -/
theorem drawS {σ : L2.St} {H : Hp} {ta : TE} {r : Addr} {xs : List Str} {Q : VK} (hr : Ev ta σ H (.ref r)) (row : Row K H r) (h0 : 0 < xs.length) (h1 : xs.length < 100000)
    (k : ∀ y G, y ∈ xs → Dr K r H G → Q (.str y) G) : tCall (spOne (K := K)) [] E0 (tCons ta (tCons (tLst (tCs (xs.map V.str))) tNil)) σ H Q :=
  hr H (Ex.refl _) _ fun H1 e1 => el_lst (ea_cs _) (by rw [List.length_map]; omega) H1 e1 _ fun p H2 hp e2 h2 => ⟨r, p, xs.map V.str, rfl, row.ex (e1.trans e2), (row.ex e1).ne_new hp, h2, by rw [List.length_map]; exact h0, by rw [List.length_map]; omega, fun v G hv d => by
    obtain ⟨y, hy, rfl⟩ := one_str hv
    exact k y G hy (Dr.pre (e1.trans e2) d)⟩
theorem q_raw {i : Nat} {te : TE} {tz : TS} {De : Ends} {σ : L2.St} {H : Hp} (h : te σ H (fun v H1 => tz De (σ.set i (some v)) H1)) : tSeq (tAsg te (gName i)) tz De σ H := h
theorem s_raw {i : Nat} {te : TE} {De : Ends} {σ : L2.St} {H : Hp} (h : te σ H (fun v H1 => De.nx (σ.set i (some v)) H1)) : tAsg te (gName i) De σ H := h
theorem op_raw {r : R2} {ta tb : TE} {σ : L2.St} {H : Hp} {Q : VK} (h : ta σ H (fun x H1 => tb σ H1 fun y H2 => r x y H2 Q)) : tOp r ta tb σ H Q := h
theorem tup_raw {ta : TA} {σ : L2.St} {H : Hp} {Q : VK} (h : ta σ H fun vs H1 => vs.length ≤ sizeLine ∧ ∀ p, H1 p = none → Q (.ref p) (upd H1 p (.tup vs))) : tTup ta σ H Q := h
theorem ok_ruleL {f : Addr} {fd : FuncData} (F : Fun K "_law_rule" "_law_rule" sRuleL f fd) (T : Gv mg) (cT : Cal P w K mg base CX0 1 "_law_taken" ["_law_row", "_law_many"] (spTaken (K := K)))
    (cO : Cal P w K mg base CX0 2 "_law_one" ["_law_row", "_law_things"] (spOne (K := K))) : FnOk P w K mg base CX0 3 f fd ["_law_row", "_law_made", "_law_all_made"] (spRuleL (K := K)) := by
  refine F.ok scRuleL (fun vs H Q E h => ?_) (fun cdv A outer s H vs Q E hr h => ?_)
  · obtain ⟨r, t, m, q, rfl, _⟩ := h
    rfl
  · obtain ⟨r, t, m, qq, rfl, row, hne, ht, q5, q6, hm, k⟩ := h
    have hr1 : Room 1 _ := hr.mono (by decide)
    refine ⟨_, pss_cons (ps_set (i := 3) scRuleL.nd rfl (Or.inr rfl) (pe_op op_cat (pe_lst (pa_cons pe_str (pa_cons pe_str (pa_cons pe_str (pa_cons pe_str (pa_cons pe_str pa_nil))))))
        (pe_slice sl_list (pv 2) po_none (po_some (pe_op op_add pe_int (pe_call cT.F hr1 (by rfl) cT.g cT.kp cT.b .nil pass0 (pa_cons (pv 0) (pa_cons (pe_callB call_len_seq (by rfl) T.len PySem.boot_len (pa_cons (pv 2) pa_nil)) pa_nil))))))))
      (pss_cons (ps_set (i := 4) scRuleL.nd rfl (Or.inl rfl) (pe_call cO.F hr (by rfl) cO.g cO.kp cO.b .nil pass0 (pa_cons (pv 0) (pa_cons (pe_lst (pa_cons pe_str (pa_cons pe_str (pa_cons pe_str (pa_cons pe_str (pa_cons pe_str (pa_cons pe_str (pa_cons pe_str (pa_cons pe_str (pa_cons pe_str (pa_cons pe_str (pa_cons pe_str pa_nil)))))))))))) pa_nil))))
      (pss_cons (ps_if (pt_cmpR op_eq (pv 4) pe_str (nomark _))
        (pss_cons (ps_set (i := 5) scRuleL.nd rfl (Or.inl rfl) (pe_call cT.F hr1 (by rfl) cT.g cT.kp cT.b .nil pass0 (pa_cons (pv 0) (pa_cons (pe_ix ix_list (pe_lst (pa_cons pe_int (pa_cons pe_int (pa_cons pe_int pa_nil))))
          (pe_call cT.F hr1 (by rfl) cT.g cT.kp cT.b .nil pass0 (pa_cons (pv 0) (pa_cons pe_int pa_nil))) (fun _ _ => rfl)) pa_nil))))
        (pss_one (ps_ret (pe_tup (pa_cons (pv 1) (pa_cons (pv 4) (pa_cons (pe_callTy call_tuple_of (by rfl) T.tup (by decide +kernel) (pa_cons (pe_lc (own := [("_law_k", 6)]) (g := gName 6) (tt := tYes) rfl scRuleL.nd
          (pi_range1 (by rfl) T.rng (pa_cons (pv 5) pa_nil)) (blkOk_by (N := nRl) (sc := defScope sRuleL) (by decide +kernel)) (fun _ _ _ _ _ => pg_name (i := 6) scRuleL.nd rfl (Or.inl rfl)) (fun _ _ _ _ _ => pts_nil)
          (fun _ _ _ _ _ => pe_call cO.F hr (by rfl) cO.g cO.kp cO.b .nil pass0 (pa_cons (pv 0) (pa_cons (pv 3) pa_nil)))) pa_nil)) pa_nil))))))) pss_nil)
      (pss_cons (ps_set (i := 7) scRuleL.nd rfl (Or.inl rfl) (pe_tup (pa_cons (pe_call cO.F hr (by rfl) cO.g cO.kp cO.b .nil pass0 (pa_cons (pv 0) (pa_cons (pe_ifExp (pt_cmpR op_eq (pv 4) pe_str (nomark _))
          (pe_lst (pa_cons pe_str (pa_cons pe_str (pa_cons pe_str (pa_cons pe_str (pa_cons pe_str pa_nil)))))) (pv 3)) pa_nil))) pa_nil)))
      (pss_cons (ps_if (pt_cmpR op_eq (pv 4) pe_str (nomark _))
        (pss_one (ps_set (i := 7) scRuleL.nd rfl (Or.inl rfl) (pe_op op_catA (pv 7) (pe_tup (pa_cons (pe_call cO.F hr (by rfl) cO.g cO.kp cO.b .nil pass0 (pa_cons (pv 0) (pa_cons (pv 3) pa_nil))) (pa_cons (pe_call cO.F hr (by rfl) cO.g cO.kp cO.b .nil pass0 (pa_cons (pv 0) (pa_cons (pv 3) pa_nil))) pa_nil))))))
        (pss_one (ps_if (pt_cmpR op_in_seq (pv 4) (pe_lst (pa_cons pe_str (pa_cons pe_str pa_nil))) (by rfl))
          (pss_one (ps_set (i := 7) scRuleL.nd rfl (Or.inl rfl) (pe_op op_catA (pv 7) (pe_tup (pa_cons (pe_call cO.F hr (by rfl) cO.g cO.kp cO.b .nil pass0 (pa_cons (pv 0) (pa_cons (pe_lst (pa_cons pe_str (pa_cons pe_str (pa_cons pe_str (pa_cons pe_str (pa_cons pe_str (pa_cons pe_str (pa_cons pe_str pa_nil)))))))) pa_nil))) pa_nil))))) pss_nil)))
      (pss_one (ps_ret (pe_op op_catA (pe_tup (pa_cons (pv 1) (pa_cons (pv 4) pa_nil))) (pv 7)))))))), ?_⟩
    refine q_raw (op_raw (el_lst (ea_cs (first5.map V.str)) (by decide) H (Ex.refl _) _ fun q0 H0 hq0 e0 h0 => ?_))
    have row0 := row.ex e0
    have e5 : ((five.take qq).map V.str).length = qq := by
      rw [List.length_map, List.length_take]
      have : five.length = 6 := rfl
      omega
    refine ⟨_, rfl, draw (m := (qq : Int)) (ev_var rfl) (ev_is (ev_len (ev_var rfl) (sq_of (e0 _ _ ht))) (by rw [e5])) row0 (by omega) (by omega) fun n0 G0 hn0 hm0 d0 => ?_⟩
    have neq0 : q0 ≠ r := row.ne_new hq0
    refine ⟨1, n0, rfl, rfl, _, rfl, t, _, rfl, sq_of (d0.kp _ _ hne (e0 _ _ ht)), fun q1 hq1 => ?_⟩
    have e6 : (first5.map V.str).length = 5 := rfl
    have cl := cut_len (xs := (five.take qq).map V.str) (lo := none) (hi := some (1 + n0))
    refine ⟨q0, q1, _, _, rfl, rfl, (Ex.new hq1) _ _ (d0.kp _ _ neq0 h0), upd_same, sz_of (by omega), fun p hp => ?_⟩
    have hL : ∀ x ∈ first5.map V.str ++ cutV ((five.take qq).map V.str) none (some (1 + n0)), ∃ y ∈ ten, x = .str y := by
      intro x hx
      rcases List.mem_append.mp hx with hx | hx
      · obtain ⟨y, hy, rfl⟩ := one_str hx
        exact ⟨y, List.mem_append_left _ hy, rfl⟩
      · obtain ⟨y, hy, rfl⟩ := one_str (cut_mem hx)
        exact ⟨y, List.mem_append_right _ (List.mem_of_mem_take hy), rfl⟩
    have hL1 : 0 < (first5.map V.str ++ cutV ((five.take qq).map V.str) none (some (1 + n0))).length := by rw [List.length_append]; omega
    have hL2 : (first5.map V.str ++ cutV ((five.take qq).map V.str) none (some (1 + n0))).length < 1000 := by rw [List.length_append]; omega
    have d3 : Dr K r H (upd (upd G0 q1 (.lst (cutV ((five.take qq).map V.str) none (some (1 + n0))))) p (.lst (first5.map V.str ++ cutV ((five.take qq).map V.str) none (some (1 + n0))))) := Dr.pre e0 (d0.ex ((Ex.new hq1).trans (Ex.new hp)))
    have hs : (upd (upd G0 q1 (.lst (cutV ((five.take qq).map V.str) none (some (1 + n0))))) p (.lst (first5.map V.str ++ cutV ((five.take qq).map V.str) none (some (1 + n0))))) p = some (.lst (first5.map V.str ++ cutV ((five.take qq).map V.str) none (some (1 + n0)))) := upd_same
    have nep : p ≠ r := (d0.row.ex (Ex.new hq1)).ne_new hp
    show tSeq _ _ _ ([some (.ref r), some (.str m), some (.ref t), some (.ref p), none, none, none, none] : L2.St) _
    generalize upd (upd G0 q1 (.lst (cutV ((five.take qq).map V.str) none (some (1 + n0))))) p (.lst (first5.map V.str ++ cutV ((five.take qq).map V.str) none (some (1 + n0)))) = H3 at d3 hs ⊢
    generalize first5.map V.str ++ cutV ((five.take qq).map V.str) none (some (1 + n0)) = L at hL hL1 hL2 hs
    clear hp hq1 cl d0 hm0 hn0 h0 e0 row0 neq0 hq0
    refine q_raw (drawS (xs := knds) (ev_var rfl) d3.row (by decide) (by decide) fun kd G4 hk d4 => ?_)
    have d4' := d3.trans d4
    have hs4 := d4.kp _ _ nep hs
    clear d4 hs d3
    refine q_when (b := decide (kd = Str.ofString "join")) (et_is (et_test (ev_op (ev_var rfl) ev_c (rv_eq rfl))) strEq) (fun hb H5 e5' => ?_) (fun hb H5 e5' => ?_)
    · have hj : kd = Str.ofString "join" := by simpa using hb
      subst hj
      have row5 := d4'.row.ex e5'
      refine ⟨_, rfl, by show 3 ≤ sizeLine; decide, fun q hq => ?_⟩
      have row6 : Row K (upd H5 q (.lst [.int 4, .int 4, .int 5])) r := row5.ex (Ex.new hq)
      have neq : q ≠ r := row5.ne_new hq
      refine draw (m := 3) (ev_var rfl) ev_c row6 (by decide) (by decide) fun n1 G1 hn1 hm1 d1 => ?_
      obtain ⟨m2, ha2, l2, u2⟩ : ∃ m2 : Int, atI [V.int 4, V.int 4, V.int 5] n1 = some (.int m2) ∧ 4 ≤ m2 ∧ m2 ≤ 5 := by
        have : n1 = 0 ∨ n1 = 1 ∨ n1 = 2 := by omega
        rcases this with rfl | rfl | rfl
        · exact ⟨4, rfl, by decide, by decide⟩
        · exact ⟨4, rfl, by decide, by decide⟩
        · exact ⟨5, rfl, by decide, by decide⟩
      refine ⟨q, _, n1, _, rfl, rfl, sq_of (d1.kp _ _ neq upd_same), ha2, r, m2, rfl, d1.row, by omega, by omega, fun n2 G2 hn2 hm2 d2 => ?_⟩
      have d02 : Dr K r H G2 := d4'.trans (Dr.pre e5' (Dr.trans (Dr.pre (Ex.new hq) d1) d2))
      have hs2 : G2 p = some (.lst L) := d2.kp _ _ nep (d1.kp _ _ nep ((Ex.new hq) _ _ (e5' _ _ hs4)))
      refine ⟨_, rfl, _, rfl, _, rfl, n2, rfl, by omega, by omega, fun D hD => ?_⟩
      have hD2 : H D = none := d02.free row hD
      have neD : D ≠ r := row.ne_new hD2
      have neDp : D ≠ p := (ne_of_none hs2 hD).symm
      refine lc_range (lo := 0) (n := n2.toNat) (fun i G => ∃ ys : List Str, ys.length = i ∧ (∀ y ∈ ys, y ∈ ten) ∧ G D = some (.lst (ys.map V.str)) ∧ G p = some (.lst L) ∧ Dr K r H G) ⟨[], rfl, fun _ z => (by cases z), upd_same, by rw [upd_ne neDp.symm]; exact hs2, ?_⟩ ?_ ?_
      · exact ⟨d02.kp.updL hD2, d02.row.ex (Ex.new hD)⟩
      · rintro i G hi ⟨ys, hlen, hys, hGD, hGp, d⟩
        refine ⟨rfl, ?_⟩
        unfold tYes
        dsimp only
        rw [if_pos rfl]
        refine ⟨_, rfl, _, rfl, r, p, L, rfl, d.row, nep, hGp, hL1, by omega, fun v G' hv d' => ?_⟩
        obtain ⟨y, hy, rfl⟩ := hL v hv
        refine ⟨ys.map V.str, d'.kp _ _ neD hGD, sz_lt (by rw [List.length_map]; omega), ys ++ [y], by simp [hlen], fun z hz => ?_, by rw [upd_same]; simp, by rw [upd_ne neDp.symm]; exact d'.kp _ _ nep hGp, (Dr.trans d d').updL hD2 (d'.kp _ _ neD hGD) neD⟩
        rcases List.mem_append.mp hz with hz | hz
        · exact hys z hz
        · rw [List.mem_singleton.mp hz]
          exact hy
      · rintro G ⟨ys, hlen, hys, hGD, hGp, d⟩
        refine ⟨D, ys.map V.str, rfl, .inl ⟨sq_of hGD, fun b hb => ⟨by show 3 ≤ sizeLine; decide, fun a ha => ?_⟩⟩⟩
        refine k a _ _ (d.ex ((Ex.new hb).trans (Ex.new ha))) (good_j upd_same ((Ex.new ha) _ _ upd_same) hm hys (by omega))
    have nj : kd ≠ Str.ofString "join" := by simpa using hb
    clear hb
    have row5 := d4'.row.ex e5'
    have d5 : Dr K r H H5 := d4'.ex e5'
    have hs5 : H5 p = some (.lst L) := e5' _ _ hs4
    show tSeq _ _ _ ([some (.ref r), some (.str m), some (.ref t), some (.ref p), some (.str kd), none, none, none] : L2.St) _
    have more1 : ∀ Q' : VK, (∀ y G, ((kd = Str.ofString "names" ∧ y ∈ folds) ∨ (kd ≠ Str.ofString "names" ∧ y ∈ ten)) → Dr K r H5 G → Q' (.str y) G) →
        tCall (spOne (K := K)) [] E0 (tCons (tVar 0) (tCons (tIf (tTest (tOp rEq (tVar 4) (tC (.str (Str.ofString "names"))))) (tLst (tCs (folds.map V.str))) (tVar 3)) tNil)) ([some (.ref r), some (.str m), some (.ref t), some (.ref p), some (.str kd), none, none, none] : L2.St) H5 Q' := by
      intro Q' q'
      refine ⟨_, rfl, ?_⟩
      show tTest (tOp rEq (tVar 4) (tC (.str (Str.ofString "names")))) ([some (.ref r), some (.str m), some (.ref t), some (.ref p), some (.str kd), none, none, none] : L2.St) H5 (fun c H1 => if c = true then tLst (tCs (folds.map V.str)) ([some (.ref r), some (.str m), some (.ref t), some (.ref p), some (.str kd), none, none, none] : L2.St) H1 (fun y H2 => spOne (K := K) [.ref r, y] H2 Q' E0) else tVar 3 ([some (.ref r), some (.str m), some (.ref t), some (.ref p), some (.str kd), none, none, none] : L2.St) H1 (fun y H2 => spOne (K := K) [.ref r, y] H2 Q' E0))
      refine (et_is (et_test (ev_op (ev_var rfl) ev_c (rv_eq rfl))) strEq : EvT (tTest (tOp rEq (tVar 4) (tC (.str (Str.ofString "names"))))) ([some (.ref r), some (.str m), some (.ref t), some (.ref p), some (.str kd), none, none, none] : L2.St) H5 (decide (kd = Str.ofString "names"))) H5 (Ex.refl _) _ fun H7 e57 => ?_
      by_cases hn : kd = Str.ofString "names"
      · rw [decide_eq_true hn, if_pos rfl]
        refine el_lst (ea_cs (folds.map V.str)) (by decide) H7 (Ex.refl _) _ fun l H8 hl e8 h8 => ?_
        refine ⟨r, l, folds.map V.str, rfl, row5.ex (e57.trans e8), (row5.ex e57).ne_new hl, h8, by decide, by decide, fun v G hv d => ?_⟩
        obtain ⟨y, hy, rfl⟩ := one_str hv
        exact q' y G (.inl ⟨hn, hy⟩) (Dr.pre (e57.trans e8) d)
      · rw [decide_eq_false hn, if_neg (by decide)]
        refine ⟨_, rfl, r, p, L, rfl, row5.ex e57, nep, e57 _ _ hs5, hL1, by omega, fun v G hv d => ?_⟩
        obtain ⟨y, hy, rfl⟩ := hL v hv
        exact q' y G (.inr ⟨hn, hy⟩) (Dr.pre e57 d)
    have fin : ∀ (bs : Addr) (rest : List V) (G : Hp), Dr K r H G → G bs = some (.tup rest) → rest ≠ [] → rest.length ≤ 3 → (∀ a G', Ex G G' → G' a = some (.tup (.str m :: .str kd :: rest)) → ∃ d, Good G' (.ref a) (m, d)) →
        tRet (tOp (rCatA K) (tTup (tCons (tVar 1) (tCons (tVar 4) tNil))) (tVar 7)) { nx := fun _ H' => Q .non H', rt := Q } ([some (.ref r), some (.str m), some (.ref t), some (.ref p), some (.str kd), none, none, some (.ref bs)] : L2.St) G := by
      intro bs rest G d hb hne' hl hg
      refine op_raw (tup_raw ⟨_, rfl, _, rfl, by show 2 ≤ sizeLine; decide, fun c hc => ⟨_, rfl, c, bs, _, rest, rfl, rfl, st_of upd_same, st_of ((Ex.new hc) _ _ hb), sz_of ?_, fun z => (by cases z), fun _ z => absurd z hne', fun _ _ a ha => ?_⟩⟩)
      · show 2 + rest.length ≤ 100000
        omega
      · obtain ⟨dd, hd⟩ := hg a _ ((Ex.new hc).trans (Ex.new ha)) upd_same
        exact k a dd _ (d.ex ((Ex.new hc).trans (Ex.new ha))) hd
    refine q_raw (tup_raw (more1 _ fun y1 G6 hy1 d6 => ⟨by show 1 ≤ sizeLine; decide, fun b1 hb1 => ?_⟩))
    have d6' : Dr K r H (upd G6 b1 (.tup [.str y1])) := (d5.trans d6).ex (Ex.new hb1)
    have h6 : (upd G6 b1 (.tup [.str y1])) b1 = some (.tup [.str y1]) := upd_same
    have hs6 : (upd G6 b1 (.tup [.str y1])) p = some (.lst L) := (Ex.new hb1) _ _ (d6.kp _ _ nep hs5)
    have neb1 : b1 ≠ r := d6.row.ne_new hb1
    show tSeq _ _ _ ([some (.ref r), some (.str m), some (.ref t), some (.ref p), some (.str kd), none, none, some (.ref b1)] : L2.St) _
    generalize upd G6 b1 (.tup [.str y1]) = H6 at d6' h6 hs6 ⊢
    refine q_if (b := decide (kd = Str.ofString "choose")) (et_is (et_test (ev_op (ev_var rfl) ev_c (rv_eq rfl))) strEq) (fun hb H7 e7 => ?_) (fun hb H7 e7 => ?_)
    · have hc : kd = Str.ofString "choose" := by simpa using hb
      subst hc
      have hy : y1 ∈ ten := by
        rcases hy1 with ⟨z, _⟩ | ⟨_, z⟩
        · exact absurd z (by decide +kernel)
        · exact z
      have row7 := d6'.row.ex e7
      refine s_raw (op_raw ⟨_, rfl, tup_raw (drawL (r := r) (t := p) (xs := L) (ev_var rfl) (ev_var rfl) row7 nep (e7 _ _ hs6) hL1 (by omega) fun v2 G2 hv2 d2 => ?_)⟩)
      refine drawL (r := r) (t := p) (xs := L) (ev_var rfl) (ev_var rfl) d2.row nep (d2.kp _ _ nep (e7 _ _ hs6)) hL1 (by omega) fun v3 G3 hv3 d3 => ?_
      obtain ⟨y2, hy2, rfl⟩ := hL v2 hv2
      obtain ⟨y3, hy3, rfl⟩ := hL v3 hv3
      have hb3 : G3 b1 = some (.tup [.str y1]) := d3.kp _ _ neb1 (d2.kp _ _ neb1 (e7 _ _ h6))
      refine ⟨by show 2 ≤ sizeLine; decide, fun b2 hb2 => ⟨b1, b2, [.str y1], [.str y2, .str y3], rfl, rfl, st_of ((Ex.new hb2) _ _ hb3), st_of upd_same, by show 1 + 2 ≤ sizeLine; decide, fun z => (by cases z), fun _ z => (by cases z), fun _ _ b4 hb4 => ?_⟩⟩
      exact fin b4 [.str y1, .str y2, .str y3] _ ((((d6'.ex e7).trans d2).trans d3).ex ((Ex.new hb2).trans (Ex.new hb4))) upd_same (by simp) (by show 3 ≤ 3; decide) fun a G' e' h' => ⟨_, good_3 h' hm hy hy2 hy3⟩
    have nc : kd ≠ Str.ofString "choose" := by simpa using hb
    clear hb
    have row7 := d6'.row.ex e7
    refine s_if (b := inV (.str kd) [.str (Str.ofString "pick"), .str (Str.ofString "need")]) (et_test (ev_opL (ev_var rfl) (el_lst (ea_cs [.str (Str.ofString "pick"), .str (Str.ofString "need")]) (by decide)) fun _ _ h _ => rv_isL (sq_of h) rfl rfl)) (fun hb H8 e8 => ?_) (fun hb H8 e8 => ?_)
    · obtain ⟨ff, fn⟩ := k_pn kd hk hb
      have hy : y1 ∈ ten := by
        rcases hy1 with ⟨z, _⟩ | ⟨_, z⟩
        · exact absurd z fn
        · exact z
      refine s_raw (op_raw ⟨_, rfl, tup_raw (drawS (xs := wrds) (ev_var rfl) (row7.ex e8) (by decide) (by decide) fun y2 G2 hy2 d2 => ?_)⟩)
      have hb3 : G2 b1 = some (.tup [.str y1]) := d2.kp _ _ neb1 ((e7.trans e8) _ _ h6)
      refine ⟨by show 1 ≤ sizeLine; decide, fun b2 hb2 => ⟨b1, b2, [.str y1], [.str y2], rfl, rfl, st_of ((Ex.new hb2) _ _ hb3), st_of upd_same, by show 1 + 1 ≤ sizeLine; decide, fun z => (by cases z), fun _ z => (by cases z), fun _ _ b4 hb4 => ?_⟩⟩
      exact fin b4 [.str y1, .str y2] _ (((d6'.ex (e7.trans e8)).trans d2).ex ((Ex.new hb2).trans (Ex.new hb4))) upd_same (by simp) (by show 2 ≤ 3; decide) fun a G' e' h' => ⟨_, good_2 h' hm hk (ten_ok y1 hy).1 (wrds_ok y2 hy2).1 ff (ten_ok y1 hy).2 (wrds_ok y2 hy2).2⟩
    · refine fin b1 [.str y1] H8 (d6'.ex (e7.trans e8)) ((e7.trans e8) _ _ h6) (by simp) (by show 1 ≤ 3; decide) fun a G' e' h' => ⟨.tuple [.str m, .str kd, .str y1], ?_⟩
      rcases hy1 with ⟨hn, z⟩ | ⟨hn, z⟩
      · exact good_1 h' hm hk (folds_ok y1 z).1 (.inr ⟨hn, (folds_ok y1 z).2⟩)
      · exact good_1 h' hm hk (ten_ok y1 z).1 (.inl ⟨k_one kd hk nj nc hb hn, (ten_ok y1 z).2⟩)
end
end Bl
namespace Bl
open PySem PySem.Spec PyProof.Rows L2 Bk Bm Evl Be Cr Bp TL
abbrev sRulesL : Stmt := top 40
def eight : List Str := ["m", "n", "o", "p/q", "r", "s", "t/u", "v/abc123/def456"].map Str.ofString
theorem cut_to {xs : List V} {j : Nat} (h : j ≤ xs.length) : cutV xs none (some (j : Int)) = xs.take j := by
  have c1 : HT.sIx xs.length 0 none = 0 := HT.sIx_none _ _
  have c2 : HT.sIx xs.length xs.length (some (j : Int)) = j := by rw [HT.sIx_nat]; omega
  unfold cutV
  rw [c1, c2]
  simp
theorem ins_perm {α : Type} (gs : List α) (j : Nat) (g : α) : (gs.take j ++ [g] ++ gs.drop j).Perm (g :: gs) := by
  have h : (gs.take j ++ [g] ++ gs.drop j) = gs.take j ++ g :: gs.drop j := by simp
  rw [h]
  have p := List.perm_middle (a := g) (l₁ := gs.take j) (l₂ := gs.drop j)
  rw [List.take_append_drop] at p
  exact p
theorem five_nodup : five.Nodup := by decide +kernel
theorem five_new {i : Nat} {q : Str} (h : five[i]? = some q) : q ∉ five.take i := by
  intro hm
  obtain ⟨j, e⟩ := List.getElem?_of_mem hm
  have hj2 : j < i := by
    have h1 := (List.getElem?_eq_some_iff.mp e).1
    have := List.length_take_le i five
    omega
  rw [List.getElem?_take_of_lt hj2] at e
  have := nd_ix five_nodup h e
  omega
section
variable {P : Program} {w : World} {K : PySem.W.Frag} {mg : Str → Option Value} {base : Heap}
abbrev nRs : List Str := ["_law_row", "_law_most", "_law_all_made", "_law_found", "_law_made"]
theorem scRulesL : FnScope nRs ["_law_row", "_law_most"] (defScope sRulesL) := ⟨rfl, rfl, rfl, by decide +kernel, rfl, by decide +kernel, by decide +kernel⟩
/-- a drawn tuple of rules -/
def RsAt (H : Hp) (xs : List V) (gs : List (Str × PyData)) : Prop := Paired (Good H) xs gs ∧ (gs.map (·.1)).Nodup ∧ gs.length ≤ 6
def spRulesL : Sp := fun vs H Q _ => ∃ r mm, vs = [.ref r, .int mm] ∧ (mm = 4 ∨ mm = 6) ∧ Row K H r ∧ ∀ p xs gs G, Dr K r H G → H p = none → G p = some (.tup xs) → RsAt G xs gs → 1 ≤ gs.length → Q (.ref p) G
/-- between the turns -/
def RInv (K : PySem.W.Frag) (qq : Nat) (mm : Int) (r A D l : Addr) (H0 : Hp) (L : List V) (i : Nat) (σ : L2.St) (G : Hp) : Prop :=
  ∃ (vs : List V) (gs : List (Str × PyData)) (u : Option V), σ = [some (.ref r), some (.int mm), some (.ref A), some (.ref D), u] ∧ G D = some (.lst vs) ∧ G l = some (.lst L) ∧ G A = some (.lst ((five.take qq).map V.str)) ∧
    Paired (Good G) vs gs ∧ (gs.map (·.1)).Nodup ∧ (∀ g ∈ gs, g.1 ∈ five.take i) ∧ gs.length = i ∧ Dr K r H0 G
theorem ok_rulesL {f : Addr} {fd : FuncData} (F : Fun K "_law_rules" "_law_rules" sRulesL f fd) (T : Gv mg) (cT : Cal P w K mg base CX0 1 "_law_taken" ["_law_row", "_law_many"] (spTaken (K := K)))
    (cR : Cal P w K mg base CX0 3 "_law_rule" ["_law_row", "_law_made", "_law_all_made"] (spRuleL (K := K))) : FnOk P w K mg base CX0 4 f fd ["_law_row", "_law_most"] (spRulesL (K := K)) := by
  refine F.ok scRulesL (fun vs H Q E h => ?_) (fun cdv A outer s H vs Q E hr h => ?_)
  · obtain ⟨r, mm, rfl, _⟩ := h
    rfl
  · obtain ⟨r, mm, rfl, hmm, row, k⟩ := h
    obtain ⟨qq, hq5, hq6, hc0, hm0, hm1⟩ : ∃ qq : Nat, 5 ≤ qq ∧ qq ≤ 6 ∧ cutV (eight.map V.str) none (some (if mm > 5 then mm else 5)) = (five.take qq).map V.str ∧ mm ≤ qq ∧ 0 < mm := by
      rcases hmm with rfl | rfl
      · exact ⟨5, by decide, by decide, rfl, by decide, by decide⟩
      · exact ⟨6, by decide, by decide, rfl, by decide, by decide⟩
    have hr1 : Room 1 _ := hr.mono (by decide)
    refine ⟨_, pss_cons (ps_par (i := 2) (j := 3) rfl scRulesL.nd rfl rfl (by decide) rfl rfl (pa_cons (pe_slice sl_list (pe_lst (pa_cons pe_str (pa_cons pe_str (pa_cons pe_str (pa_cons pe_str (pa_cons pe_str (pa_cons pe_str (pa_cons pe_str (pa_cons pe_str pa_nil))))))))) po_none
        (po_some (pe_callB (call_max2 rfl) (by rfl) T.max (by decide +kernel) (pa_cons pe_int (pa_cons (pv 1) pa_nil))))) (pa_cons (pe_lst pa_nil) pa_nil)) (by rfl))
      (pss_cons (ps_for PassesOwn.never rfl (pi_list (pe_slice sl_list (pv 2) po_none (po_some (pe_op op_add pe_int (pe_call cT.F hr1 (by rfl) cT.g cT.kp cT.b .nil pass0 (pa_cons (pv 0) (pa_cons (pv 1) pa_nil))))))) (pg_name (i := 4) scRulesL.nd rfl (Or.inl rfl))
        (pss_one (ps_expr (pe_bm PySem.F.plainAttrs_list PySem.F.slot_list_insert PySem.F.type_list_insert mt_insert (pv 3) (pa_cons (pe_call cT.F hr1 (by rfl) cT.g cT.kp cT.b .nil pass0 (pa_cons (pv 0) (pa_cons (pe_op op_add (pe_callB call_len_seq (by rfl) T.len PySem.boot_len (pa_cons (pv 3) pa_nil)) pe_int) pa_nil)))
          (pa_cons (pe_call cR.F hr (by rfl) cR.g cR.kp cR.b .nil pass0 (pa_cons (pv 0) (pa_cons (pv 4) (pa_cons (pv 2) pa_nil)))) pa_nil))))))
      (pss_one (ps_ret (pe_callTy call_tuple_of (by rfl) T.tup (by decide +kernel) (pa_cons (pv 3) pa_nil))))), ?_⟩
    refine ⟨by show 8 ≤ sizeLine; decide, fun q hq => ?_⟩
    refine ⟨_, rfl, 5, mm, rfl, _, rfl, q, eight.map V.str, rfl, sq_of upd_same, ?_⟩
    rw [hc0]
    refine fun A' hA => ⟨by show 0 ≤ sizeLine; decide, fun D hD => ⟨_, _, rfl, ?_⟩⟩
    have e0 : Ex H (upd (upd (upd H q (.lst (eight.map V.str))) A' (.lst ((five.take qq).map V.str))) D (.lst [])) := (Ex.new (o := .lst (eight.map V.str)) hq).trans ((Ex.new (o := .lst ((five.take qq).map V.str)) hA).trans (Ex.new (o := .lst []) hD))
    have hAt : (upd (upd (upd H q (.lst (eight.map V.str))) A' (.lst ((five.take qq).map V.str))) D (.lst [])) A' = some (.lst ((five.take qq).map V.str)) := (Ex.new hD) _ _ upd_same
    have hDt : (upd (upd (upd H q (.lst (eight.map V.str))) A' (.lst ((five.take qq).map V.str))) D (.lst [])) D = some (.lst []) := upd_same
    have row0 : Row K (upd (upd (upd H q (.lst (eight.map V.str))) A' (.lst ((five.take qq).map V.str))) D (.lst [])) r := row.ex e0
    have neD : D ≠ r := (row.ex ((Ex.new (o := .lst (eight.map V.str)) hq).trans (Ex.new (o := .lst ((five.take qq).map V.str)) hA))).ne_new hD
    have neA : A' ≠ r := (row.ex (Ex.new (o := .lst (eight.map V.str)) hq)).ne_new hA
    have neDA : D ≠ A' := (ne_of_none upd_same hD).symm
    have hD0 : H D = none := fresh_back ((Ex.new (o := .lst (eight.map V.str)) hq).trans (Ex.new (o := .lst ((five.take qq).map V.str)) hA)) hD
    show tSeq _ _ _ ([some (.ref r), some (.int mm), some (.ref A'), some (.ref D), none] : L2.St) (upd (upd (upd H q (.lst (eight.map V.str))) A' (.lst ((five.take qq).map V.str))) D (.lst []))
    generalize upd (upd (upd H q (.lst (eight.map V.str))) A' (.lst ((five.take qq).map V.str))) D (.lst []) = H1 at e0 hAt hDt row0 ⊢
    refine ⟨_, rfl, draw (m := mm) (ev_var rfl) (ev_var rfl) row0 (by omega) (by omega) fun n G0 hn hm d0 => ?_⟩
    refine ⟨1, n, rfl, rfl, _, rfl, A', _, rfl, sq_of (d0.kp _ _ neA hAt), fun l hl => ?_⟩
    have l6 : five.length = 6 := rfl
    have hcut : cutV ((five.take qq).map V.str) none (some (1 + n)) = (five.take (1 + n.toNat)).map V.str := by
      have e : (1 + n) = ((1 + n.toNat : Nat) : Int) := by omega
      rw [e, cut_to (by rw [List.length_map, List.length_take]; omega), ← List.map_take, List.take_take, Nat.min_eq_left (by omega)]
    rw [hcut]
    have neL : l ≠ r := d0.row.ne_new hl
    have neLD : l ≠ D := (ne_of_none (d0.kp _ _ neD hDt) hl).symm
    have neLA : l ≠ A' := (ne_of_none (d0.kp _ _ neA hAt) hl).symm
    have d1 : Dr K r H (upd G0 l (.lst ((five.take (1 + n.toNat)).map V.str))) := Dr.pre e0 (d0.ex (Ex.new hl))
    have hlen : ((five.take (1 + n.toNat)).map V.str).length = 1 + n.toNat := by
      rw [List.length_map, List.length_take]
      show min (1 + n.toNat) 6 = _
      omega
    refine ⟨l, rfl, ⟨_, sq_of upd_same⟩, for_list (K := K) (xs := (five.take (1 + n.toNat)).map V.str) (RInv K qq mm r A' D l H ((five.take (1 + n.toNat)).map V.str)) ?_ (fun i σ' G' _ q => ?_) (fun i x σ' G' hi q => ?_) (fun σ' G' q => ?_)⟩
    · exact ⟨[], [], none, rfl, (Ex.new hl) _ _ (d0.kp _ _ neD hDt), upd_same, (Ex.new hl) _ _ (d0.kp _ _ neA hAt), .nil, List.nodup_nil, fun _ z => (by cases z), rfl, d1⟩
    · obtain ⟨vs, gs, u, _, _, hl', _⟩ := q
      exact sq_of hl'
    · obtain ⟨vs, gs, u, rfl, hGD, hGl, hGA, pf, nd, mem, hgl, d⟩ := q
      obtain ⟨q5, hq5', rfl⟩ : ∃ z, five[i]? = some z ∧ x = V.str z := by
        rw [List.getElem?_map] at hi
        cases e : (five.take (1 + n.toNat))[i]? with
        | none => rw [e] at hi; cases hi
        | some z =>
          rw [e] at hi
          have hi2 : i < 1 + n.toNat := by
            have := (List.getElem?_eq_some_iff.mp e).1
            rw [List.length_take] at this
            omega
          rw [List.getElem?_take_of_lt hi2] at e
          exact ⟨z, e, (Option.some.inj hi).symm⟩
      have hi5 : i < 6 := (List.getElem?_eq_some_iff.mp hq5').1
      have pl := pr_len pf
      refine ⟨_, rfl, .inl ⟨rfl, vs, sq_of hGD⟩, draw (m := (gs.length : Int) + 1) (ev_var rfl) (ev_op (ev_is (ev_len (ev_var rfl) (sq_of hGD)) (by rw [pl])) ev_c rv_I0) d.row (by omega) (by omega) fun j G1 hj hjm d1 => ?_⟩
      refine ⟨_, rfl, _, rfl, _, rfl, r, A', q5, qq, rfl, d1.row, neA, d1.kp _ _ neA hGA, hq5, hq6, List.mem_of_getElem? hq5', fun a dd G2 d2 hg => ?_⟩
      have hGD2 : G2 D = some (.lst vs) := d2.kp _ _ neD (d1.kp _ _ neD hGD)
      refine ⟨D, vs, j, .ref a, rfl, rfl, hGD2, sz_lt (by omega), hj, by omega, ?_⟩
      have d12 := d1.trans d2
      have pf2 : Paired (Good G2) vs gs := pr_mono pf fun _ _ z => z.dr d.row d12
      refine ⟨vs.take j.toNat ++ [.ref a] ++ vs.drop j.toNat, gs.take j.toNat ++ [(q5, dd)] ++ gs.drop j.toNat, _, rfl, upd_same, ?_, ?_, ?_, ?_, ?_, ?_, ?_⟩
      · rw [upd_ne neLD]
        exact d12.kp _ _ neL hGl
      · rw [upd_ne neDA.symm]
        exact d12.kp _ _ neA hGA
      · exact pr_app (pr_app (pr_take (pr_mono pf2 fun _ _ z => z.updL hGD2) _) (.cons (hg.updL hGD2) .nil)) (pr_drop (pr_mono pf2 fun _ _ z => z.updL hGD2) _)
      · have pm := (ins_perm gs j.toNat (q5, dd)).map (·.1)
        rw [pm.nodup_iff]
        refine List.nodup_cons.mpr ⟨fun hm => ?_, nd⟩
        obtain ⟨g, hg1, hg2⟩ := List.mem_map.mp hm
        have := mem g hg1
        rw [show g.1 = q5 from hg2] at this
        exact five_new hq5' this
      · intro g hg1
        rw [List.take_succ, hq5']
        rcases List.mem_cons.mp ((ins_perm gs j.toNat (q5, dd)).mem_iff.mp hg1) with rfl | hg1
        · exact List.mem_append_right _ (by simp)
        · exact List.mem_append_left _ (mem g hg1)
      · rw [(ins_perm gs j.toNat (q5, dd)).length_eq, List.length_cons, hgl]
      · exact (d.trans d12).updL hD0 hGD2 neD
    · obtain ⟨vs, gs, u, rfl, hGD, hGl, hGA, pf, nd, mem, hgl, d⟩ := q
      rw [hlen] at hgl
      refine ⟨_, rfl, D, vs, rfl, .inl ⟨sq_of hGD, fun p hp => ?_⟩⟩
      exact k p vs gs _ (d.ex (Ex.new hp)) (d.free row hp) upd_same ⟨pr_mono pf fun _ _ z => z.mono (Ex.new hp), nd, by omega⟩ (by omega)
end
end Bl
namespace Bl
open PySem PySem.Spec PyProof.Rows L2 Bk Bm Evl Be Cr Bp TL
section
variable {K : PySem.W.Frag} {H G : Hp} {r : Addr} {v : V}
theorem Kd.kp {n : String} {xs0 ys0 : List V} (h : Kd K H v n) (hr : H r = some (.lst xs0)) (hr' : G r = some (.lst ys0)) (kp : Kp r H G) : Kd K G v n := by
  obtain ⟨t, k⟩ := h
  refine ⟨?_, k⟩
  cases t with
  | base t =>
    refine .base ?_
    cases t with
    | non => exact .non
    | bl b => exact .bl b
    | int i => exact .int i
    | str x => exact .str x
    | flt x => exact .flt x
    | @lst a xs h =>
      by_cases c : a = r
      · subst c; exact .lst hr'
      · exact .lst (kp _ _ c h)
    | frz h => exact .frz (kp _ _ (ne_of h hr (by intro z; cases z)) h)
    | tup h => exact .tup (kp _ _ (ne_of h hr (by intro z; cases z)) h)
    | dK h => exact .dK (kp _ _ (ne_of h hr (by intro z; cases z)) h)
    | dT h => exact .dT (kp _ _ (ne_of h hr (by intro z; cases z)) h)
  | byt b => exact .byt b
  | set h => exact .set (kp _ _ (ne_of h hr (by intro z; cases z)) h)
  | kList h c => exact .kList h c
  | kTuple h c => exact .kTuple h c
  | kDict h c => exact .kDict h c
  | fTuple h => exact .fTuple (kp _ _ (ne_of h hr (by intro z; cases z)) h)
  | fDict h => exact .fDict (kp _ _ (ne_of h hr (by intro z; cases z)) h)
theorem Sc.ex {a : Addr} {ns : List Int} (h : Sc K H a ns) (e : Ex H G) : Sc K G a ns := by
  rcases h with ⟨o, h⟩ | h
  · exact .inl ⟨o, e _ _ h⟩
  · exact .inr h
theorem Th.kp {o : Option (List V)} {xs0 ys0 : List V} (h : Th K H v o) (hr : H r = some (.lst xs0)) (hx0 : xs0.length ≠ 1) (hr' : G r = some (.lst ys0)) (kp : Kp r H G) : Th K G v o := by
  cases h with
  | sm h k hn => exact .sm (Sm.kp h hr hx0 kp) (Kd.kp k hr hr' kp) hn
  | tu h hx hl => exact .tu (kp _ _ (ne_of h hr (by intro z; cases z)) h) (fun x hh => Sm.kp (hx x hh) hr hx0 kp) hl
theorem Ru.kp {b : Bool} {xs0 ys0 : List V} (h : Ru K H v b) (hr : H r = some (.lst xs0)) (hx0 : xs0.length ≠ 1) (hr' : G r = some (.lst ys0)) (kp : Kp r H G) : Ru K G v b := by
  cases h with
  | no k h => exact .no (Kd.kp k hr hr' kp) h
  | short h hl => exact .short (kp _ _ (ne_of h hr (by intro z; cases z)) h) hl
  | long h h0 h1 hk hp hl hf => exact .long (kp _ _ (ne_of h hr (by intro z; cases z)) h) (Sm.kp h0 hr hx0 kp) (Sm.kp h1 hr hx0 kp) hk (pr_mono hp fun _ _ z => Th.kp z hr hx0 hr' kp) hl fun z x hx => Sm.kp (hf z x hx) hr hx0 kp
theorem Itr.kp {o : Option Str} {xs0 ys0 : List V} (h : Itr K H v o) (hr : H r = some (.lst xs0)) (hx0 : xs0.length ≠ 1) (hr' : G r = some (.lst ys0)) (kp : Kp r H G) : Itr K G v o := by
  cases o with
  | some p =>
    obtain ⟨h1, ⟨a, ts, h2, h3⟩, h4⟩ := h
    exact ⟨Ru.kp h1 hr hx0 hr' kp, ⟨a, ts, h2, kp _ _ (ne_of h3 hr (by intro z; cases z)) h3⟩, h4⟩
  | none => exact Ru.kp h hr hx0 hr' kp
theorem Itr.dr {o : Option Str} (h : Itr K H v o) (row : Row K H r) (d : Dr K r H G) : Itr K G v o := by
  obtain ⟨a, i, s, z, ns, hr, _⟩ := row
  obtain ⟨rl', hr'⟩ := d.row.at
  exact Itr.kp h hr (by show 4 ≠ 1; decide) hr' d.kp
/-! sorted made paths are one list -/
def ix (z : Str) : Nat := five.findIdx fun y => decide (y = z)
theorem ix_lt : ∀ x ∈ five, ∀ y ∈ five, ltCps x.cps.toList y.cps.toList = decide (ix x < ix y) := by decide +kernel
theorem ix_inj : ∀ x ∈ five, ∀ y ∈ five, ix x = ix y → x = y := by decide +kernel
theorem ris_pw : ∀ (l : List Str) (p : Str), (∀ z ∈ p :: l, z ∈ five) → risingS p l = true → (p :: l).Pairwise fun a b => ix a ≤ ix b
  | [], p, _, _ => List.pairwise_singleton _ _
  | x :: r, p, hm, h => by
    have h' : (!ltCps x.cps.toList p.cps.toList) = true ∧ risingS x r = true := by
      have h0 : (!ltCps x.cps.toList p.cps.toList && risingS x r) = true := h
      simpa using h0
    have ih := ris_pw r x (fun z hz => hm z (List.mem_cons_of_mem _ hz)) h'.2
    have hx := hm x (List.mem_cons_of_mem _ List.mem_cons_self)
    have hp := hm p List.mem_cons_self
    have le : ix p ≤ ix x := by
      have h1 := h'.1
      rw [ix_lt x hx p hp] at h1
      have h2 : ¬ ix x < ix p := by simpa using h1
      omega
    refine List.pairwise_cons.mpr ⟨fun z hz => ?_, ih⟩
    rcases List.mem_cons.mp hz with rfl | hz
    · exact le
    · exact Nat.le_trans le ((List.pairwise_cons.mp ih).1 z hz)
theorem srt_pw {l : List Str} (hm : ∀ z ∈ l, z ∈ five) (h : sortedS l = true) : l.Pairwise fun a b => ix a ≤ ix b := by
  cases l with
  | nil => exact List.Pairwise.nil
  | cons x r => exact ris_pw r x hm h
theorem uniq : ∀ l m : List Str, l.Pairwise (fun a b => ix a ≤ ix b) → m.Pairwise (fun a b => ix a ≤ ix b) → l.Perm m → (∀ z ∈ l, z ∈ five) → l = m
  | [], m, _, _, p, _ => (List.nil_perm.mp p).symm
  | x :: r, [], _, _, p, _ => absurd p.length_eq (by simp)
  | x :: r, y :: t, hl, hm, p, h5 => by
    have hx : x ∈ y :: t := p.mem_iff.mp List.mem_cons_self
    have hy : y ∈ x :: r := p.mem_iff.mpr List.mem_cons_self
    have le1 : ix x ≤ ix y := by
      rcases List.mem_cons.mp hy with h | h
      · rw [h]; exact Nat.le_refl _
      · exact (List.pairwise_cons.mp hl).1 y h
    have le2 : ix y ≤ ix x := by
      rcases List.mem_cons.mp hx with h | h
      · rw [h]; exact Nat.le_refl _
      · exact (List.pairwise_cons.mp hm).1 x h
    have e : x = y := ix_inj x (h5 x List.mem_cons_self) y (h5 y hy) (by omega)
    subst e
    rw [uniq r t (List.pairwise_cons.mp hl).2 (List.pairwise_cons.mp hm).2 p.cons_inv fun z hz => h5 z (List.mem_cons_of_mem _ hz)]
/-! drawn rules as data -/
theorem Good.dp {md : Str × PyData} (h : Good H v md) : Dp K H v md.2 := by
  obtain ⟨a, k, ts, ods, rfl, h1, h2, h3, h4, h5, h6, h7, h8⟩ := h
  rw [h8]
  refine .tup (SqT.of h1) (.cons (.str _) (.cons (.str _) ?_))
  clear h1 h3 h5 h7 h8
  induction h2 with
  | nil => exact .nil
  | cons r _ ih =>
    refine .cons ?_ ih
    cases r with
    | s x h => exact .str x
    | @t b ys h hy hl =>
      refine .tup (SqT.of h) ?_
      clear h hy hl
      induction ys with
      | nil => exact .nil
      | cons y r ih => exact .cons (.str y) ih
theorem lay_strs : ∀ {ys : List Str}, (∀ y ∈ ys, okS y) → PyData.canLayAll0 (ys.map PyData.str) = true ∧ PyData.depthAll (ys.map PyData.str) ≤ 1
  | [], _ => ⟨rfl, by simp [PyData.depthAll]⟩
  | y :: r, h => by
    obtain ⟨i1, i2⟩ := lay_strs (ys := r) fun z hz => h z (List.mem_cons_of_mem _ hz)
    refine ⟨?_, ?_⟩
    · show (PyData.strOk y && PyData.canLayAll0 (r.map PyData.str)) = true
      rw [(h y List.mem_cons_self).2, i1]
      rfl
    · simp only [List.map_cons, PyData.depthAll, PyData.depth] at i2 ⊢
      omega
theorem Good.lay {md : Str × PyData} (h : Good H v md) : md.2.canLay0 = true ∧ md.2.depth ≤ 4 := by
  obtain ⟨a, k, ts, ods, rfl, h1, h2, h3, h4, h5, h6, h7, h8⟩ := h
  rw [h8]
  have rest : PyData.canLayAll0 (ods.map (·.2)) = true ∧ PyData.depthAll (ods.map (·.2)) ≤ 3 := by
    clear h1 h3 h5 h7 h8
    induction h2 with
    | nil => exact ⟨rfl, by simp [PyData.depthAll]⟩
    | cons r _ ih =>
      cases r with
      | s x h =>
        refine ⟨?_, ?_⟩
        · show (PyData.strOk x && PyData.canLayAll0 _) = true
          rw [h.2, ih.1]
          rfl
        · have := ih.2
          simp only [List.map_cons, PyData.depthAll, PyData.depth]
          omega
      | @t b ys h hy hl =>
        obtain ⟨l1, l2⟩ := lay_strs hy
        refine ⟨?_, ?_⟩
        · show (PyData.canLayAll0 (ys.map PyData.str) && PyData.canLayAll0 _) = true
          rw [l1, ih.1]
          rfl
        · have := ih.2
          simp only [List.map_cons, PyData.depthAll, PyData.depth]
          omega
  have m1 := (ten_ok _ (five_ten _ h6)).1.2
  have k1 := (knds_ok k h4).1.2
  refine ⟨?_, ?_⟩
  · show (PyData.strOk md.1 && (PyData.strOk k && PyData.canLayAll0 (ods.map (·.2)))) = true
    rw [m1, k1, rest.1]
    rfl
  · have := rest.2
    simp only [PyData.depthAll, PyData.depth]
    omega
theorem dp_rs {xs : List V} {gs : List (Str × PyData)} (h : Paired (Good H) xs gs) : DpAll K H xs (gs.map (·.2)) := by
  induction h with
  | nil => exact .nil
  | cons r _ ih => exact .cons r.dp ih
theorem lay_rs {xs : List V} {gs : List (Str × PyData)} (h : Paired (Good H) xs gs) : PyData.canLayAll0 (gs.map (·.2)) = true ∧ PyData.depthAll (gs.map (·.2)) ≤ 5 := by
  induction h with
  | nil => exact ⟨rfl, by simp [PyData.depthAll]⟩
  | @cons x g l m r _ ih =>
    obtain ⟨l1, l2⟩ := r.lay
    refine ⟨?_, ?_⟩
    · show (PyData.canLay0 g.2 && PyData.canLayAll0 (m.map (·.2))) = true
      rw [l1, ih.1]
      rfl
    · have := ih.2
      simp only [List.map_cons, PyData.depthAll]
      omega
def dRs (gs : List (Str × PyData)) : PyData := .tuple (gs.map (·.2))
theorem sh_rs {xs : List V} {gs : List (Str × PyData)} (h : Paired (Good H) xs gs) : SeqAt.shaped (dRs gs) = true := by
  obtain ⟨l1, l2⟩ := lay_rs h
  show (PyData.canLayAll0 (gs.map (·.2)) && decide (PyData.depth (.tuple (gs.map (·.2))) ≤ 64)) = true
  rw [l1, decide_eq_true (by simp only [PyData.depth]; omega)]
  rfl
theorem eq_self {d : PyData} (h : SeqAt.shaped d = true) : PyData.eqv d d = true := by
  have h0 : (PyData.canLay0 d && decide (PyData.depth d ≤ 64)) = true := h
  simp only [Bool.and_eq_true] at h0
  exact SeqAt.eqv_refl_plain d (PyData.plain_of_canLay0 d h0.1)
theorem eq_len : ∀ (xs ys : List PyData), xs.length ≠ ys.length → PyData.eqvAll xs ys = false
  | [], [], h => absurd rfl h
  | [], _ :: _, _ => rfl
  | _ :: _, [], _ => rfl
  | x :: xs, y :: ys, h => by
    rw [PyData.eqvAll, eq_len xs ys (by simpa using h), Bool.and_false]
end
end Bl
namespace Bl
open PySem PySem.Spec PyProof.Rows L2 Bk Bm Evl Be Cr Bp TL
/-! where a tuple of rules is wrong -/
theorem way_five : ∀ p ∈ five, ∀ q ∈ five, p ≠ q → way p q = false := by decide +kernel
theorem fb_good : ∀ (ps acc : List Str) (rest : List (Option Str)), (acc ++ ps).Nodup → (∀ z ∈ acc ++ ps, z ∈ five) → fb acc (ps.map some ++ rest) = fb (acc ++ ps) rest
  | [], acc, rest, _, _ => by simp
  | p :: r, acc, rest, nd, h5 => by
    have hn : acc.any (way p) = false := by
      rw [List.any_eq_false]
      intro q hq
      have hp5 := h5 p (List.mem_append_right _ List.mem_cons_self)
      have hq5 := h5 q (List.mem_append_left _ hq)
      have hne : p ≠ q := fun e => by
        subst e
        exact (List.nodup_append.mp nd).2.2 p hq p List.mem_cons_self rfl
      rw [way_five p hp5 q hq5 hne]
      decide
    show (if acc.any (way p) = true then some acc.length else fb (acc ++ [p]) (r.map some ++ rest)) = _
    rw [if_neg (by rw [hn]; decide)]
    have e : acc ++ p :: r = acc ++ [p] ++ r := by simp
    rw [e] at nd h5 ⊢
    exact fb_good r (acc ++ [p]) rest nd h5
section
variable {K : PySem.W.Frag} {H G : Hp} {r : Addr} {v : V}
theorem rs_five {xs : List V} {gs : List (Str × PyData)} (h : Paired (Good H) xs gs) : ∀ z ∈ gs.map (·.1), z ∈ five := by
  induction h with
  | nil => intro z hz; cases hz
  | cons r _ ih =>
    intro z hz
    rcases List.mem_cons.mp hz with rfl | hz
    · obtain ⟨a, k, ts, ods, _, _, _, _, _, _, h6, _⟩ := r
      exact h6
    · exact ih z hz
theorem itr_rs {xs : List V} {gs : List (Str × PyData)} (h : Paired (Good H) xs gs) : Paired (Itr K H) xs (gs.map fun g => some g.1) := by
  induction h with
  | nil => exact .nil
  | cons r _ ih => exact .cons r.itr ih
theorem heads_rs {xs : List V} {gs : List (Str × PyData)} (h : Paired (Good H) xs gs) : Heads H xs (gs.map (·.1)) := by
  induction h with
  | nil => exact .nil
  | cons r _ ih =>
    obtain ⟨a, k, ts, ods, h0, h1, _⟩ := r
    exact .cons ⟨a, _, h0, h1⟩ ih
theorem RsAt.mono {xs : List V} {gs : List (Str × PyData)} (e : Ex H G) (h : RsAt H xs gs) : RsAt G xs gs := ⟨pr_mono h.1 fun _ _ z => z.mono e, h.2⟩
theorem RsAt.dr {xs : List V} {gs : List (Str × PyData)} (h : RsAt H xs gs) (row : Row K H r) (d : Dr K r H G) : RsAt G xs gs := ⟨pr_mono h.1 fun _ _ z => z.dr row d, h.2⟩
/-- drawn rules are good ones -/
theorem rl_good {a : Addr} {xs : List V} {gs : List (Str × PyData)} (ha : H a = some (.tup xs)) (h : RsAt H xs gs) : Rl K H (.ref a) none := by
  obtain ⟨h1, h2, h3⟩ := h
  have hl := pr_len h1
  have t := Rl.tup (K := K) ha (by omega) (itr_rs h1)
  have e : (gs.map fun g => some g.1) = (gs.map (·.1)).map some ++ [] := by simp
  rw [e, fb_good (gs.map (·.1)) [] [] (by simpa using h2) (by simpa using rs_five h1)] at t
  exact t
/-- what breaks a tuple of rules behind those that make ps -/
def Bd (K : PySem.W.Frag) (ps : List Str) (H : Hp) (v : V) : Prop := Itr K H v none ∨ ∃ p, Itr K H v (some p) ∧ ps.any (way p) = true
theorem Bd.mono {ps : List Str} (e : Ex H G) (h : Bd K ps H v) : Bd K ps G v := by
  rcases h with h | ⟨p, h, z⟩
  · exact .inl (h.mono e)
  · exact .inr ⟨p, h.mono e, z⟩
theorem Bd.dr {ps : List Str} (h : Bd K ps H v) (row : Row K H r) (d : Dr K r H G) : Bd K ps G v := by
  rcases h with h | ⟨p, h, z⟩
  · exact .inl (Itr.dr h row d)
  · exact .inr ⟨p, Itr.dr h row d, z⟩
theorem Bd.kp {ps : List Str} {xs0 ys0 : List V} (h : Bd K ps H v) (hr : H r = some (.lst xs0)) (hx0 : xs0.length ≠ 1) (hr' : G r = some (.lst ys0)) (kp : Kp r H G) : Bd K ps G v := by
  rcases h with h | ⟨p, h, z⟩
  · exact .inl (Itr.kp h hr hx0 hr' kp)
  · exact .inr ⟨p, Itr.kp h hr hx0 hr' kp, z⟩
theorem rl_bad {a : Addr} {xs : List V} {gs : List (Str × PyData)} {i : Nat} (h : RsAt H xs gs) (hi : i ≤ gs.length) (hb : Bd K ((gs.map (·.1)).take i) H v) (ha : H a = some (.tup (xs.take i ++ [v] ++ xs.drop i))) : Rl K H (.ref a) (some (.int (i : Int))) := by
  obtain ⟨h1, h2, h3⟩ := h
  have hl := pr_len h1
  obtain ⟨o, ho, hx⟩ : ∃ o, Itr K H v o ∧ ∀ rest, fb ((gs.map (·.1)).take i) (o :: rest) = some i := by
    have hlen : ((gs.map (·.1)).take i).length = i := by rw [List.length_take, List.length_map]; omega
    rcases hb with hb | ⟨p, hb, z⟩
    · exact ⟨none, hb, fun rest => by show some _ = some i; rw [hlen]⟩
    · refine ⟨some p, hb, fun rest => ?_⟩
      show (if ((gs.map (·.1)).take i).any (way p) = true then some _ else _) = some i
      rw [if_pos z, hlen]
  have it := itr_rs (K := K) h1
  have t := Rl.tup (K := K) (os := (gs.map fun g => some g.1).take i ++ [o] ++ (gs.map fun g => some g.1).drop i) ha (by
    simp only [List.length_append, List.length_take, List.length_drop, List.length_singleton]
    omega) (pr_app (pr_app (pr_take it i) (.cons ho .nil)) (pr_drop it i))
  have e : (gs.map fun g => some g.1).take i = ((gs.map (·.1)).take i).map some := by rw [← List.map_take, ← List.map_take, List.map_map]; rfl
  have nd : ((gs.map (·.1)).take i).Nodup := h2.sublist (List.take_sublist _ _)
  have h5 : ∀ z ∈ (gs.map (·.1)).take i, z ∈ five := fun z hz => rs_five h1 z (List.mem_of_mem_take hz)
  have e2 : fb [] ((gs.map fun g => some g.1).take i ++ [o] ++ (gs.map fun g => some g.1).drop i) = some i := by
    rw [e, List.append_assoc, fb_good _ [] _ (by simpa using nd) (by simpa using h5)]
    exact hx _
  rw [e2] at t
  exact t
end
section
variable {X : Cx} {CX : CXT} {k : Nat} {f C : Addr} {fd : FuncData} {ps : List Str} {sp : Sp} {E : L2.St → XK} {x : Str} {p pos : Pos} {e : Expr} {es : List Expr} {t : TA}
/-- C(e, ..) within a try -/
def tMakeS (C : Addr) (sp : Sp) (E : L2.St → XK) (t : TA) : TE := fun τ G Q => t τ G fun vs G1 => ∀ y dy, G1 y = none → G1 dy = none → dy ≠ y → sp (.ref y :: vs) (upd (upd G1 dy (.own y)) y (.ins C dy [])) (fun v G2 => v = .non ∧ Q (.ref y) G2) (E τ)
theorem make_run {pins : List (Addr × Obj)} {τ : L2.St} {G : Hp} {s : Shared} {Q : VK} {us : List Value} {vs : List V} (mk : Mk X.K C f) (fo : FnOk X.prog X.w X.K X.mg X.base CX k f fd ps sp) (hr : Room (k + 1) X.A) (hb : Binds X.K fd ps [])
    (ha : PassesAt CX X τ (E τ)) (J : Inv X pins τ G s) (rv : Vals vs us)
    (h : ∀ y dy, G y = none → G dy = none → dy ≠ y → sp (.ref y :: vs) (upd (upd G dy (.own y)) y (.ins C dy [])) (fun v G2 => v = .non ∧ Q (.ref y) G2) (E τ)) : wpAny (model X.prog X.w) X.A (call (.ref C) us) (EP X pins τ Q) X.xe s := by
  have promised := h (s.heap.objs.size + 1) s.heap.objs.size (J.hok.fresh (Nat.le_succ _)) (J.hok.fresh (Nat.le_refl _)) (Nat.ne_of_lt (Nat.lt_succ_self _))
  have J2 := Inv.made (C := C) J
  have all : Vals (V.ref (s.heap.objs.size + 1) :: vs) (Value.ref (s.heap.objs.size + 1) :: us) := .cons rfl rv
  have count : (Value.ref (s.heap.objs.size + 1) :: us).length = ps.length := by
    have c1 := all.length
    rw [fo.len _ _ _ _ promised] at c1
    exact c1.symm
  have bound := hb _ (Value.ref (s.heap.objs.size + 1) :: us) J2.kIn (by rw [List.append_nil]; exact count)
  rw [List.append_nil] at bound
  refine wpAny_call (make_map (f := f) J.kIn mk.makes mk.init (beq_iff_eq.mp mk.fn) (codeAny_mono (fo.run _ X.stack _ _ ⟨Value.ref (s.heap.objs.size + 1) :: us, []⟩ (Value.ref (s.heap.objs.size + 1) :: us) _ _ (E τ) (hr.make C us []) (J2.env0.make C us []) bound all promised) fun out s' got => ?_))
  cases out with
  | error er => exact ha pins _ _ er s' J2 got
  | ok fl =>
    cases fl with
    | ret u =>
      obtain ⟨v, G3, J3, ru, rfl, q3⟩ := J2.after got
      exact ⟨ru, ⟨V.ref (s.heap.objs.size + 1), G3, J3, rfl, q3⟩⟩
    | next => exact got.elim
    | brk => exact got.elim
    | cont => exact got.elim
theorem pe_makeS (mk : Mk X.K C f) (fo : FnOk X.prog X.w X.K X.mg X.base CX k f fd ps sp) (hr : Room (k + 1) X.A) (hg : Gl X x) (hm : X.mg x = some (.ref C)) (hb : Binds X.K fd ps []) (ha : ∀ τ, PassesAt CX X τ (E τ)) (hs : PA X (e :: es) t)
    (hdb : (x == ("__debug__" : Str)) = false := by decide) (h1 : starEach (e :: es) X.env = (false, eval e X.env) :: starEach es X.env := by rfl) (h2 : (backTo pos (starEach es X.env)).any (·.1) = false := by rfl) :
    PE X (.Call (.Name x p) (e :: es) [] pos) (tMakeS C sp E t) := by
  refine ⟨fun pins s τ G Q J h => wpAny_Call_Name_kw (ld_glob J hg hm (PySem.W.callWith_K (h₀ := X.base) J.ok.mod.kin mk.kp (thn (hs.run pos pins s τ G _ J h) fun us s1 got => ?_) h1 h2) hdb)⟩
  obtain ⟨vs, G1, J1, rv, q⟩ := got
  exact ⟨J1.kIn, make_run mk fo hr hb (ha τ) J1 rv q⟩
end
end Bl
/-! {a text for .. in .. if ..} -/
namespace Ks
open PySem PySem.Spec PyProof.Rows L2
section
variable {X : Cx} {pins : List (Addr × Obj)} {τ : L2.St} {G : Hp} {s : Shared}
theorem setX_new {P : Program} {w : World} {h : Heap} {a : Addr} {l : List Str} (r : Has P w h a l) : ObjOk P w G h a (SetX P w a l) := by
  obtain ⟨n, hn, ob, rest⟩ := id r
  refine ⟨r, ?_, fun h1 h2 h3 k => h3.at k⟩
  obtain ⟨_, _, _, at0, _⟩ := rest
  exact ⟨ob, at0⟩
/-- set.add of a text -/
theorem add_text {E : Value → Shared → Prop} {D : Addr} {l : List Str} {y : Str} {tk : Tok} {Z : Value → Shared → Prop} (I : Inv X pins τ G s) (hD : G D = some (SetX X.prog X.w D l)) (room : l.length + 1 < scanBound)
    (fin : ∀ s2, Inv X pins τ (upd G D (SetX X.prog X.w D (l ++ [y]))) s2 → Z .none s2) : wpAny (model X.prog X.w) X.A (call (.builtin "set.add") [.ref D, .str y tk]) Z E s := by
  obtain ⟨n, hn, T⟩ := (I.hok D _ hD).1
  have isSet : s.TypeIs (.ref D) "set" := by
    obtain ⟨ob, _, _, _, at0, exa, _⟩ := T
    exact ⟨ob, at0, exa.1⟩
  refine wpAny_call_entry F.slot_set_add isSet F.entry_set_add ?_ (F.args_set_add_2 _ _)
  unfold Builtin.«set.add»
  unfold Builtin.Frozenset.oneOther
  simp only [bind_assoc, List.isEmpty_nil]
  unfold setAdd Builtin.Frozenset.addrOf
  refine wpAny_bind (wpAny_pure (wpAny_bind (wpAny_pure ?_)))
  refine wpAny_bind (wpAny_holding (wpAny_bind ((strKind X.prog X.w).pyHash (k := y) (strKind_is X.prog X.w y tk) ?_)))
  refine tx_put (s := { s with toks := s.toks + 1 }) T (by omega) fun g same T2 => ?_
  have now : Has X.prog X.w g D (l ++ [y]) := Has.next (by split <;> omega) hn T2
  have there : ∃ u, g.get? D = some u := by
    obtain ⟨_, _, ob, _, _, _, at0, _⟩ := id now
    exact ⟨ob, at0⟩
  show wpAny _ _ (ret Value.none) _ _ _
  exact wpAny_pure ⟨_, rfl, fin _ (I.write (e := D) (t' := s.toks + 1) (by rw [hD]; trivial) (.inl rfl) (fun b u hb hu => (same.2 b hb).trans hu) there (setX_new now))⟩
/-- D: the set that grows -/
def tScX (P : Program) (w : World) (wi : TI) (g : TG) (tt : TT) (te : TE) (own : List Nat) : TE := fun τ G Q => wi τ G fun J G1 => ∀ D, G1 D = none →
  ∃ Wk : Nat → Nat → Hp → Prop, (∃ k, Wk 0 k (upd G1 D (SetX P w D []))) ∧ ∀ j k F, Wk j k F →
    (J.stop j F ∧ Q (.ref D) F) ∨ (J.go j F ∧ ∃ Then : Hp → Prop, (∀ F', Then F' → ∃ k', k' < k ∧ Wk (j + 1) k' F') ∧ ∀ x F', J.yld j F x F' →
      g x (wipe τ own) F' fun τ2 F2 => wipe τ2 own = wipe τ own ∧ tt τ2 F2 fun b F3 => if b = true then te τ2 F3 fun y F4 => ∃ (z : Str) (l : List Str), y = .str z ∧ F4 D = some (SetX P w D l) ∧ l.length + 1 < scanBound ∧ Then (upd F4 D (SetX P w D (l ++ [z]))) else Then F3)
theorem scx_core {Q : VK} {elt tg iter : Expr} {ifs : List Expr} {scope : Scope} {own : List (Str × Nat)} {pos pos' : Pos} {wi : TI} {g : TG} {tt : TT} {te : TE} {use : Option (Value → Sem Unit)} {Qf : Value → Shared → Prop}
    (calm : X.calm = true) (nd : X.N.Nodup) (I : Inv X pins τ G s) (walk : PI X tg iter wi) (blk : BlkOk X.N X.env.scope scope own)
    (hg : ∀ (s : Shared) (G : Hp) (C : Addr) (cl : List (Str × Addr)) (fp : List Addr), PG (X.blk s G scope (compEnvC scope cl C X.env) fp) tg g)
    (ht : ∀ (s : Shared) (G : Hp) (C : Addr) (cl : List (Str × Addr)) (fp : List Addr), PTs (X.blk s G scope (compEnvC scope cl C X.env) fp) ifs tt)
    (he : ∀ (s : Shared) (G : Hp) (C : Addr) (cl : List (Str × Addr)) (fp : List Addr), PE (X.blk s G scope (compEnvC scope cl C X.env) fp) elt te) (plain : ∀ x, foldedSetIterable iter X.env x = pure x)
    (h : tScX X.prog X.w wi g tt te (own.map (·.2)) τ G Q)
    (out : ∀ D C s2 m F, Inv X pins τ F s2 → Q (.ref D) F → s2.heap.Ns C m → FpOk X pins F C → compPost (model X.prog X.w) X.A X.xe use Qf (.ref D) C (.ok .next) s2) :
    wpAny (model X.prog X.w) X.A (comprehension (.SetComp elt [⟨tg, iter, ifs, 0⟩] scope pos) scope X.env pos' (newSet (.type "set")) false (eval iter X.env) use) Qf X.xe s := by
  have cells : ∀ y ∈ scope.names, y.2 = .free → ∃ c, X.env.cells.lookup y.1 = some c := fun y hy q => (blk.free y hy q).elim (fun k => I.ok.has _ (.inl k)) fun k => I.ok.has _ (.inr k)
  refine wpAny_comprehension_free (use := use) rfl plain (closure_ok cells) blk.kind (fun y hy q => by rw [blk.uniq y hy, q])
    (thn (walk.run pins s τ G _ I h) fun xv sA hx => thn hx fun itv sB got => ?_)
  obtain ⟨it, fp, tn, J, GB, rfl, IB, Tn, stB, fpB, q⟩ := got
  refine PpSet.newSet_ok (newEnv_comp ?_)
  obtain ⟨D, hD⟩ : ∃ D, sB.heap.objs.size = D := ⟨_, rfl⟩
  rw [hD]
  have new : GB D = none := IB.hok.fresh (Nat.le_of_eq hD)
  obtain ⟨Wk, ⟨k0, w0⟩, turn⟩ := q D new
  obtain ⟨sC, hsC⟩ : ∃ sC : Shared, ({ sB with heap := sB.heap.push { cls := .type "set", dict := none, data := .set #[] 0 (.fresh 0 0 (!X.w.params.followText "set-order")) } } : Shared) = sC := ⟨_, rfl⟩
  have heapC : sC.heap = sB.heap.push { cls := .type "set", dict := none, data := .set #[] 0 (.fresh 0 0 (!X.w.params.followText "set-order")) } := by rw [← hsC]
  have freshC : Has X.prog X.w sC.heap D [] := ⟨0, Nat.le_refl _, by
    have z := tx_fresh (P := X.prog) (w := X.w) (h := sC.heap) (a := D) (by rw [heapC, ← hD]; exact Heap.get?_push_size _ rfl)
    simpa using z⟩
  obtain ⟨GC, hGC⟩ : ∃ GC, upd GB D (SetX X.prog X.w D []) = GC := ⟨_, rfl⟩
  have IC : Inv X pins τ GC sC := by
    rw [← hGC, ← hsC]
    rw [← hsC] at freshC
    exact IB.laid (t' := sB.toks) (fun b o q => Heap.get?_push_of_some _ q) (Nat.le_of_eq hD) (setX_new freshC)
  have below : ∀ b ∈ fp, b < D := fun b hb => by
    obtain ⟨o, q, _⟩ := Tn.obj _ _ stB b hb
    rw [← hD]
    exact Heap.lt_size q
  have fpC : ∀ b ∈ fp, FpOk X pins GC b ∧ b < sC.heap.objs.size := fun b hb => by
    have lt := below b hb
    refine ⟨⟨?_, (fpB b hb).2⟩, by rw [heapC, Heap.size_push, hD]; exact Nat.lt_succ_of_lt lt⟩
    rw [← hGC, upd_ne (Nat.ne_of_lt lt)]
    exact (fpB b hb).1
  have stC : tn 0 sC.heap := Tn.keep _ _ _ stB fun b _ o q => by
    rw [heapC]
    exact Heap.get?_push_of_some _ q
  have IE := block_start IC blk nd fpC
  have pg := hg sC GC sC.heap.objs.size (cellsFrom (sC.heap.objs.size + 1) scope.names (cloFrom X.env.cells scope.names [])) fp
  have pt := ht sC GC sC.heap.objs.size (cellsFrom (sC.heap.objs.size + 1) scope.names (cloFrom X.env.cells scope.names [])) fp
  have pe := he sC GC sC.heap.objs.size (cellsFrom (sC.heap.objs.size + 1) scope.names (cloFrom X.env.cells scope.names [])) fp
  rw [hsC]
  show codeAny _ _ (.compStart _ 0 (.ref it) (.ref D) (compEnvC scope (cellsFrom (sC.heap.objs.size + 1) scope.names (cloFrom X.env.cells scope.names [])) sC.heap.objs.size X.env)) (compPost (model X.prog X.w) X.A X.xe use Qf (.ref D) sC.heap.objs.size) { sC with heap := pushCells (sC.heap.push { cls := .type "dict", data := .dict #[] }) scope.names }
  obtain ⟨ce, hce⟩ : ∃ ce, compEnvC scope (cellsFrom (sC.heap.objs.size + 1) scope.names (cloFrom X.env.cells scope.names [])) sC.heap.objs.size X.env = ce := ⟨_, rfl⟩
  rw [hce] at IE pg pt pe ⊢
  have locE : ce.locals = sC.heap.objs.size := by rw [← hce]; rfl
  rw [hGC] at w0
  obtain ⟨sE, hsE⟩ : ∃ sE : Shared, ({ sC with heap := pushCells (sC.heap.push { cls := .type "dict", data := .dict #[] }) scope.names } : Shared) = sE := ⟨_, rfl⟩
  rw [hsE] at IE ⊢
  have stE : tn 0 sE.heap := Tn.keep _ _ _ stC fun b _ o q => by
    rw [← hsE]
    exact pushCells_keeps _ _ _ _ (Heap.get?_push_of_some _ q)
  have same : ∀ {τ' : L2.St} {F : Hp} {s2 : Shared}, Inv (X.blk sC GC scope ce fp) [] τ' F s2 → (∀ b ∈ fp, F b = none) → ∀ b ∈ fp, FpOk (X.blk sC GC scope ce fp) [] F b := fun {τ' F s2} J2 hn b hb =>
    ⟨hn b hb, (J2.ok.exf b hb).1, J2.ok.exfs b hb, .inl hb, fun x c q => (J2.ok.exf b hb).2 x c q, fun p hp => by simp at hp⟩
  have loop : codeAny (model X.prog X.w) X.A (.compLoop (.SetComp elt [⟨tg, iter, ifs, 0⟩] scope pos) 0 (.ref it) (.ref D) ce) (compPost (model X.prog X.w) X.A X.xe use Qf (.ref D) sC.heap.objs.size) sE := by
    refine PpSet.compLoopS_any (fun k s2 => ∃ j F, Inv (X.blk sC GC scope ce fp) [] (wipe τ (own.map (·.2))) F s2 ∧ tn j s2.heap ∧ (∀ b ∈ fp, F b = none) ∧ Wk j k F) ?_ k0 ⟨0, GC, IE, stE, fun b hb => (fpC b hb).1.1, w0⟩
    rintro k sF ⟨j, F, IF, stF, nF, wF⟩
    rcases turn j k F wF with ⟨stop, qq⟩ | ⟨go, Then, hThen, step⟩
    · refine thnF (Tn.done (X.blk sC GC scope ce fp) rfl rfl rfl calm j [] sF _ F (fun _ _ => False) IF (same IF nF) stF stop) fun r sG ⟨hr, IG⟩ => ?_
      subst hr
      have back : Inv X pins τ F sG := IC.call' (ch := fp) IG.os IG.base IG.hok IG.bare fun b hb => ⟨(fpC b hb).1.2.2.2.1, (fpC b hb).1.2.1, (fpC b hb).1.2.2.2.2.1, (fpC b hb).1.2.2.2.2.2⟩
      have nC : GC sC.heap.objs.size = none := IC.hok.fresh (Nat.le_refl _)
      have nC2 : F sC.heap.objs.size = none := by
        have z : F ce.locals = none := IG.free
        rwa [locE] at z
      obtain ⟨m, hm, _⟩ := IG.loc
      have hm : sG.heap.Ns ce.locals m := hm
      rw [locE] at hm
      exact out D sC.heap.objs.size sG m F back qq hm (IC.fpOk (Nat.le_refl _) nC2)
    · refine thnF (Tn.item (X.blk sC GC scope ce fp) rfl rfl rfl calm j [] sF _ F (fun _ _ => False) IF (same IF nF) stF go) fun r sG ⟨u, hr, more⟩ => ?_
      subst hr
      refine thnF more fun _ sH ⟨x, FH, IH, rx, yH, stH, nH⟩ => ?_
      refine thnF (pg.run _ sH _ FH x u _ (IH.pinned (same IH nH) (Tn.obj _ _ stH)) rx (step x FH yH)) fun _ sI ⟨τI, FI, II, wI, qI⟩ => ?_
      refine thnF (pt.run _ sI τI FI _ II qI) fun b sJ ⟨FJ, IJ, qJ⟩ => ?_
      have turned : ∀ {s2 : Shared} {F2 : Hp}, Inv (X.blk sC GC scope ce fp) ([] ++ pinsAt fp sH.heap) τI F2 s2 → Then F2 → ∃ m, m < k ∧ ∃ j F2, Inv (X.blk sC GC scope ce fp) [] (wipe τ (own.map (·.2))) F2 s2 ∧ tn j s2.heap ∧ (∀ b ∈ fp, F2 b = none) ∧ Wk j m F2 := fun {s2 F2} J2 nx => by
        obtain ⟨k', lt, w2⟩ := hThen F2 nx
        have pinned : ∀ b ∈ fp, ∀ o, sH.heap.get? b = some o → s2.heap.get? b = some o ∧ F2 b = none := fun b hb o q => by
          have z := J2.pin (b, o) (List.mem_append_right _ (List.mem_append_right _ (mem_pinsAt hb q)))
          exact ⟨z.1, z.2.1⟩
        have len : (wipe τ (own.map (·.2))).length = τI.length := by rw [← wI, wipe_length]
        refine ⟨k', lt, j + 1, F2, (J2.unpinned (pins := [])).weak len (fun i v q => ?_), Tn.keep _ _ _ stH fun b hb o q => (pinned b hb o q).1, fun b hb => ?_, w2⟩
        · rw [← wI] at q
          exact (wipe_some q).1
        · obtain ⟨o, q, _⟩ := Tn.obj _ _ stH b hb
          exact (pinned b hb o q).2
      cases b with
      | false =>
        rw [if_neg (by decide)] at qJ
        exact turned IJ qJ
      | true =>
        rw [if_pos rfl] at qJ
        refine thnF (pe.run _ sJ τI FJ _ IJ qJ) fun z sK ⟨yv, FK, IK, rK, x1, l, ey, hDK, small, nx⟩ => ?_
        subst ey
        obtain ⟨tk, rfl⟩ := rK
        exact add_text (X := X.blk sC GC scope ce fp) IK hDK small fun s2 I2 => turned I2 nx
  exact PpSet.codeAny_compStart_set loop (Tn.self X.A 0 _ _ _ stE loop)
theorem pe_scX {elt tg iter : Expr} {ifs : List Expr} {scope : Scope} {own : List (Str × Nat)} {pos : Pos} {wi : TI} {g : TG} {tt : TT} {te : TE} (calm : X.calm = true) (nd : X.N.Nodup) (walk : PI X tg iter wi) (blk : BlkOk X.N X.env.scope scope own)
    (hg : ∀ (s : Shared) (G : Hp) (C : Addr) (cl : List (Str × Addr)) (fp : List Addr), PG (X.blk s G scope (compEnvC scope cl C X.env) fp) tg g)
    (ht : ∀ (s : Shared) (G : Hp) (C : Addr) (cl : List (Str × Addr)) (fp : List Addr), PTs (X.blk s G scope (compEnvC scope cl C X.env) fp) ifs tt)
    (he : ∀ (s : Shared) (G : Hp) (C : Addr) (cl : List (Str × Addr)) (fp : List Addr), PE (X.blk s G scope (compEnvC scope cl C X.env) fp) elt te) (plain : ∀ x, foldedSetIterable iter X.env x = pure x := by intro _; rfl) :
    PE X (.SetComp elt [⟨tg, iter, ifs, 0⟩] scope pos) (tScX X.prog X.w wi g tt te (own.map (·.2))) := by
  refine ⟨fun pins s τ G Q I h => ?_⟩
  rw [PpSet.eval_SetComp]
  refine scx_core calm nd I walk blk hg ht he plain h fun D C s2 m F J q hm f => ⟨m, hm, fun g2 sb => ?_⟩
  obtain ⟨f0, f1, f2, f3, f4, f5⟩ := f
  exact ⟨.ref D, F, J.turned (t' := s2.toks) (fun b o hb q => (sb.2 b hb).trans q) f0 f1 f3 f4 f5, rfl, q⟩
end
end Ks
/-! max(a list of ints, default=d) -/
namespace Kr
open PySem PySem.Spec PyProof.Rows L2 Bk Bm Evl Be
section
variable {X : Cx} {p pos kpos : Pos} {e d : Expr} {ta tk : TA}
def tMaxD (K : PySem.W.Frag) (ta tk : TA) : TE := fun σ H Q => ta σ H fun vs H1 => tk σ H1 fun zs H2 => ∃ z a ns, vs = [.ref a] ∧ zs = [z] ∧ SqL K H2 a (ns.map V.int) ∧ (ns = [] → Q z H2) ∧ ∀ n r, ns = n :: r → Q (.int (r.foldl max n)) H2
theorem dp_ints (K : PySem.W.Frag) (H : Hp) : ∀ ns : List Int, DpAll K H (ns.map V.int) (ns.map PyData.int)
  | [] => .nil
  | n :: r => .cons (.int n) (dp_ints K H r)
theorem depth_ints : ∀ ns : List Int, PyData.depthAll (ns.map PyData.int) ≤ 1
  | [] => by simp [PyData.depthAll]
  | n :: r => by
    have h := depth_ints r
    simp only [List.map_cons, PyData.depthAll, PyData.depth] at h ⊢
    omega
theorem alike_ints (ns : List Int) : PySem.W.AlikeAll (ns.map PyData.int) := by
  refine ⟨fun x hx y hy => ?_, fun x hx => ?_⟩
  · obtain ⟨i, _, rfl⟩ := List.mem_map.mp hx
    obtain ⟨j, _, rfl⟩ := List.mem_map.mp hy
    rfl
  · obtain ⟨i, _, rfl⟩ := List.mem_map.mp hx
    intro z
    cases z
theorem pe_maxD (hcalm : X.calm = true) (hu : X.A.units + 4 < cLine) (hg : Gl X "max") (hm : X.mg "max" = none) (hv : bootBuiltins "max" = some (.builtin "max")) (ha : PA X [e] ta) (hd : PK X [⟨some "default", d, kpos⟩] tk)
    (h1 : backTo pos (starEach [e] X.env) = (false, eval e X.env) :: backTo pos (starEach [] X.env) := by rfl) (h2 : (backTo pos (starEach [e] X.env)).any (·.1) = false := by rfl)
    (h3 : (backToKw pos (keywordEach [⟨some "default", d, kpos⟩] X.env)).all (·.1.isSome) = true := by rfl) (h4 : (backToKw pos (keywordEach [⟨some "default", d, kpos⟩] X.env)).any (·.1.isNone) = false := by rfl)
    (h5 : (backToKw pos (keywordEach [⟨some "default", d, kpos⟩] X.env)).filterMap (·.1) = [Str.ofString "default"] := by rfl) :
    PE X (.Call (.Name "max" p) [e] [⟨some "default", d, kpos⟩] pos) (tMaxD X.K ta tk) := by
  refine ⟨fun pins s σ H Q I h => ?_⟩
  refine wpAny_Call_Name_kw (ld_blt I hg hm hv ?_)
  refine PyProof.Rows.callWith_kw (thn (ha.run pos pins s σ H _ I h) fun us s1 ⟨vs, H1, I1, r1, q1⟩ =>
    thn (hd.run pos pins s1 σ H1 _ I1 q1) fun ws s2 ⟨zs, H2, I2, r2, z, a, ns, e1, e2, hq, k0, k1⟩ => ?_) h1 h2 h3 h4
  subst e1
  subst e2
  obtain ⟨u, rfl, ru⟩ := vals1 r1
  obtain ⟨y, rfl, ry⟩ := vals1 r2
  cases ru
  rw [h5]
  obtain ⟨its, rv, hl, small⟩ := I2.list hq
  obtain ⟨as, rd⟩ := Dp.readsAll I2 (ns.map PyData.int) (ns.map V.int) its (dp_ints X.K H2 ns) rv
  have dep := depth_ints ns
  show wpAny _ _ (call (.builtin "max") [.ref a] [(Str.ofString "default", y)]) _ _ _
  refine PySem.W.max_list_default (xs := ns.map PyData.int) (as := as) (I2.ok.hd hcalm) hl.isList (by simpa using rd) (alike_ints ns) (by omega) (fun z0 h' tk' kp => ?_) (fun m ms i v h' tk' bs em hv' rdm kp => ?_)
  · exact ⟨z, H2, I2.kept kp, ry, k0 (by simpa using z0)⟩
  · cases ns with
    | nil => cases em
    | cons n r =>
      simp only [List.map_cons, List.cons.injEq] at em
      obtain ⟨rfl, rfl⟩ := em
      rw [PySem.W.maxD_ints] at rdm
      cases rdm with
      | int i t => exact ⟨.int _, H2, I2.kept kp, ⟨t, rfl⟩, k1 n r rfl⟩
end
end Kr
/-! walks of any kind; a dict that is left alone -/
namespace Kr
open PySem PySem.Spec PyProof.Rows L2 Bk Bm Evl Be Ks
theorem walk_w {J : It} {n : Nat} {Gd : Hp → Prop} {Y : Nat → Hp → V → Hp → Prop} (w : Walk J n Gd Y) {F0 : Hp} {Qd : Hp → Prop} {Step : (Hp → Prop) → V → Hp → Prop} (Pv : Nat → Hp → Prop) (h0 : Pv 0 F0) (hG : ∀ i F, i ≤ n → Pv i F → Gd F)
    (hs : ∀ i x F F', i < n → Pv i F → Y i F x F' → Step (Pv (i + 1)) x F') (hd : ∀ F, Pv n F → Qd F) :
    ∃ Wk : Nat → Nat → Hp → Prop, (∃ m, Wk 0 m F0) ∧ ∀ i m F, Wk i m F → (J.stop i F ∧ Qd F) ∨ (J.go i F ∧ ∃ Nx : Hp → Prop, (∀ F', Nx F' → ∃ m', m' < m ∧ Wk (i + 1) m' F') ∧ ∀ x F', J.yld i F x F' → Step Nx x F') := by
  refine ⟨fun i m F => m + i = n ∧ Pv i F, ⟨n, Nat.add_zero n, h0⟩, fun i m F ⟨hm, p⟩ => ?_⟩
  have q := hG i F (by omega) p
  cases m with
  | zero =>
    have e : i = n := by omega
    subst e
    exact .inl ⟨w.stops F q, hd F p⟩
  | succ m => exact .inr ⟨w.goes i F (by omega) q, Pv (i + 1), fun F' p' => ⟨m, Nat.lt_succ_self m, by omega, p'⟩, fun x F' y => hs i x F F' (by omega) p (w.yields i F x F' (by omega) q y)⟩
section
variable {X : Cx} {pins : List (Addr × Obj)} {σ : L2.St} {H : Hp} {s : Shared} {a : Addr}
theorem inv_freeze {kvs : List (Key × V)} (I : Inv X pins σ H s) (ha : H a = some (.dK kvs)) : ∃ o, Inv X pins σ (upd H a (.frz o (.dK kvs))) s := by
  have was := I.hok a _ ha
  obtain ⟨o, at0⟩ : ∃ o, s.heap.get? a = some o := by
    obtain ⟨_, _, _, _, o, _, _, e, _⟩ := id was
    exact ⟨o, e⟩
  have neN : ∀ b, H b = none → b ≠ a := fun b e z => by
    rw [z, ha] at e
    cases e
  refine ⟨o, ?_⟩
  obtain ⟨ok, os, bare, base, loc, cell, free, freeC, pin, hok, len⟩ := I
  obtain ⟨b1, b2, b3, b4, b5, b6, b7⟩ := base
  have keep : ∀ (b : Addr) (x : HO), H b = some x → (∀ l, x ≠ .dK l) → (upd H a (.frz o (.dK kvs))) b = some x := fun b x e n => by
    have nb : b ≠ a := fun z => by
      rw [z, ha] at e
      exact n kvs (Option.some.inj e).symm
    rw [upd_ne nb]
    exact e
  refine ⟨ok, os, bare, ⟨b1, b2, fun b ob q n hx => ?_, b4, fun b xs e => ?_, fun b ob u e => ?_, fun b ps e => ?_⟩, loc, cell, ?_, fun x c e => ?_, fun p hp => ?_, fun b u e => ?_, len⟩
  · have z := b3 b ob q n hx
    rw [upd_ne (neN b z)]
    exact z
  · exact keep b _ (b5 b xs e) fun l z => by cases z
  · exact keep b _ (b6 b ob u e) fun l z => by cases z
  · obtain ⟨more, q⟩ := b7 b ps e
    exact ⟨more, keep b _ q fun l z => by cases z⟩
  · rw [upd_ne (neN _ free)]
    exact free
  · have z := freeC x c e
    rw [upd_ne (neN _ z)]
    exact z
  · obtain ⟨p1, p2, p3⟩ := pin p hp
    exact ⟨p1, by rw [upd_ne (neN _ p2)]; exact p2, p3⟩
  · have own : ∀ c x, H c = some (.own x) → (upd H a (.frz o (.dK kvs))) c = some (.own x) := fun c x q => keep c _ q fun l z => by cases z
    have tup : ∀ c xs, H c = some (.tup xs) → (upd H a (.frz o (.dK kvs))) c = some (.tup xs) := fun c xs q => keep c _ q fun l z => by cases z
    by_cases hb : b = a
    · subst hb
      rw [upd_same] at e
      cases e
      exact ⟨at0, was.stay (fun _ _ _ q => q) (fun c q => own c b q) tup⟩
    · rw [upd_ne hb] at e
      exact (hok b u e).stay (fun _ _ _ q => q) (fun c q => own c b q) tup
/-- the dict is not written again -/
def tFrz (te : TE) : TE := fun σ H Q => te σ H fun x H1 => ∃ a kvs, x = .ref a ∧ H1 a = some (.dK kvs) ∧ ∀ o, Q (.ref a) (upd H1 a (.frz o (.dK kvs)))
theorem pe_frz {e : Expr} {te : TE} (h : PE X e te) : PE X e (tFrz te) := by
  refine ⟨fun pins s σ H Q I q => ?_⟩
  refine wpAny_mono (h.run pins s σ H _ I q) (fun u s1 ⟨v, H1, I1, r, a, kvs, ev, e1, q1⟩ => ?_) fun _ _ x => x
  subst ev
  obtain ⟨o, I2⟩ := inv_freeze I1 e1
  exact ⟨_, _, I2, r, q1 o⟩
end
end Kr
/-! list.extend(a tuple); len of a set of texts -/
namespace Kr
open PySem PySem.Spec PyProof.Rows L2 Bk Bm Evl Be Ks
section
variable {X : Cx}
def rExtT (K : PySem.W.Frag) : V → List V → Hp → VK → Prop := fun x vs H Q => ∃ l b xs zs, x = .ref l ∧ vs = [.ref b] ∧ H l = some (.lst xs) ∧ SqT K H b zs ∧ xs.length + zs.length ≤ sizeLine ∧ Q .non (upd H l (.lst (xs ++ zs)))
theorem mt_extT : MtM X "list.extend" (rExtT X.K) := by
  intro pins s τ G x vs v us Q I rx rv h
  obtain ⟨l, b, xs, zs, rfl, rfl, hl, hb, room, q⟩ := h
  cases rx
  obtain ⟨u, rfl, ru⟩ := rv.one
  cases ru
  obtain ⟨zx, its, n, r, _, el⟩ := I.lstM hl
  obtain ⟨jts, r2, ⟨o, at2, cls2, m, dat2⟩, _⟩ := I.tuple hb
  have c1 := r.length
  have c2 := r2.length
  have fits : its.toArray.size + jts.toArray.size ≤ sizeLine := by
    rw [List.size_toArray, List.size_toArray, ← c1, ← c2]
    exact room
  refine wpAny_call_entry F.slot_list_extend ⟨_, el, rfl⟩ F.entry_list_extend ?_ (F.args_list_extend_2 _ _)
  unfold Builtin.«list.extend»
  show wpAny _ _ (Builtin.List.listExtendWith (.ref l) (.ref b) .none) _ _ _
  unfold Builtin.List.listExtendWith; refine wpAny_bind (wpAny_typeOf (T := "tuple") ⟨o, at2, cls2⟩ ?_)
  rw [if_pos (by simp)]
  refine wpAny_bind (listItems_at at2 dat2 (wpAny_bind (listItems_at el rfl ?_)))
  rw [if_neg (by rw [notLongL fits, Bool.and_false]; exact Bool.false_ne_true)]
  refine wpAny_bind (listUpdate_at el rfl ?_ (by rw [List.size_toArray, ← c1]; exact zx) (by rw [Array.size_append]; omega))
  exact wpAny_pure ⟨_, rfl, .non, _, I.lset (its' := its ++ jts) hl el (by simp) (r.append r2) (by rw [List.length_append]; exact room), rfl, q⟩
end
end Kr
/-! set(a tuple of texts); its len -/
namespace Ks
open PySem PySem.Spec PyProof.Rows L2
section
variable {P : Program} {w : World} {A : Around} {E : Value → Shared → Prop} {s : Shared}
theorem set_of_textsT {l : Addr} {items : Array Value} (xs : List Str) {Z : Value → Shared → Prop} (calm : A.handled = none) (isl : s.heap.IsTuple l items) (val : ∀ (i : Nat) (v : Value), items[i]? = some v → ∃ x tk, xs[i]? = some x ∧ v = Value.str x tk)
    (cnt : items.size = xs.length) (few : xs.length + 1 < scanBound)
    (fin : ∀ (g : Heap) (tk : Nat), Has P w g s.heap.objs.size xs → (∀ b o, s.heap.get? b = some o → g.get? b = some o) → Z (.ref s.heap.objs.size) { s with heap := g, toks := tk }) :
    wpAny (model P w) A (call (.type "set") [.ref l]) Z E s := by
  obtain ⟨c, tl, inMro⟩ := F.called_set.mro
  have isMade := F.called_set.made
  have isSub := F.called_set.sub
  refine wpAny_call (codeAny_of_tree ?_)
  show wpAny _ _ (callAny (.type "set") _) _ _ _
  refine wpAny_pure ⟨Code.quiet_builtin _ (by decide +kernel), codeAny_builtin F.entry_type_call ?_⟩
  rw [show _ = _ from Around.under_plain (weight_type_call_type "set" [.ref l] []) rfl]
  have ok1 := F.called_set.notType
  have ok2 := F.called_set.canCreate
  have ok3 := F.typeCall_set_1 (.ref l)
  repeat (any_goals (first | assumption | wp_step))
  refine codeAny_mono (code_set_led1 (.ref l) (E := E) (Q₁ := fun obj s₁ => obj = .ref s.heap.objs.size ∧ s₁ = { s with heap := s.heap.push (noSet w) }) ⟨rfl, rfl⟩) fun out s₁ got => ?_
  cases out with
  | error e => exact got
  | ok fl =>
    cases fl with
    | ret obj =>
      obtain ⟨rfl, rfl⟩ := got
      have at0 : (s.heap.push (noSet w)).get? s.heap.objs.size = some (noSet w) := Heap.get?_push_size _ rfl
      have ty0 : Shared.TypeIs { s with heap := s.heap.push (noSet w) } (.ref s.heap.objs.size) "set" := ⟨_, at0, rfl⟩
      have look0 := F.called_set.init.lookup
      have bind0 := F.called_set.init.bind (.ref s.heap.objs.size)
      repeat (any_goals (first | assumption | wp_step))
      refine codeAny_mono (codeAny_call_builtin (R := wants (fun r s₂ => r = .none ∧ ∃ g tk, s₂ = { s with heap := g, toks := tk } ∧ Has P w g s.heap.objs.size xs ∧ (∀ b o, s.heap.get? b = some o → g.get? b = some o)) E)
        F.called_set.init.plain F.entry_set_init (check_set_init_1 ty0 ?_)) fun out2 s₂ got2 => ?_
      · obtain ⟨ol, hol, hcl, nl, hdl⟩ := isl
        obtain ⟨ocls, odict, odata, oslots⟩ := ol
        simp only at hcl hdl
        subst hcl hdl
        have hol2 : (s.heap.push (noSet w)).get? l = some { cls := .type "tuple", dict := odict, data := .seq items nl, slots := oslots } := Heap.get?_push_of_some _ hol
        have no1 := F.sub_tuple_set
        have no2 := F.sub_tuple_frozenset
        have no3 : (Value.type "tuple" == Value.type "dict") = false := by decide
        have isl2 : (s.heap.push (noSet w)).IsTuple l items := ⟨_, hol2, rfl, nl, rfl⟩
        unfold Builtin.«set.__init__» noKeywords Builtin.Frozenset.updateFrom
        generalize hPI : pyIter = PI
        wp_walk
        subst hPI
        refine wpAny_pyIter_tuple isl2 ?_
        refine wpAny_bind (wpAny_runValue ?_)
        have low : l < s.heap.objs.size := Heap.lt_size hol
        have calm3 : A.in1.in1.in1.handled = none := by simp [calm]
        have size1 : (s.heap.push (noSet w)).objs.size = s.heap.objs.size + 1 := Heap.size_push ..
        have apart1 : l ≠ (s.heap.push (noSet w)).objs.size := by rw [size1]; exact Nat.ne_of_lt (Nat.lt_succ_of_lt low)
        have apart2 : s.heap.objs.size ∉ [(s.heap.push (noSet w)).objs.size, l] := by
          rw [size1]
          intro z
          rcases List.mem_cons.mp z with z | z
          · exact absurd z (Nat.ne_of_lt (Nat.lt_succ_self _))
          · exact absurd (List.mem_singleton.mp z) (Nat.ne_of_gt low)
        refine tx_loop ((Walks.tuple calm3 _ l apart1 items).toS) s.heap.objs.size apart2 xs cnt few val (items.size - 0) 0 _ (by omega) (Nat.zero_le _) ⟨⟨_, Heap.get?_push_size _ rfl, rfl, rfl⟩, (isl2.push _)⟩ ?has0 ?end0
        case has0 => exact ⟨0, Nat.le_refl _, by
          have T := tx_fresh (P := P) (w := w) (h := (s.heap.push (noSet w)).push { cls := .type "tuple_iterator", data := .fields #[.ref l, .int 0 0] }) (Heap.get?_push_of_some _ at0)
          have e : (fun y => decide (y ∈ xs.take 0)) = fun _ : Str => false := funext fun y => by simp
          rw [e]
          exact T⟩
        case end0 =>
          intro s' mv has
          obtain ⟨g, gens, drawn, tk, os⟩ := s'
          obtain rfl : gens = s.gens := mv.gens
          obtain rfl : drawn = s.drawn := mv.drawn
          obtain rfl : os = s.os := mv.os
          have keep : ∀ b o, s.heap.get? b = some o → g.get? b = some o := fun b o e => mv.heap b o (fun z => by
            have lt := Heap.lt_size e
            rcases List.mem_cons.mp z with z | z
            · exact absurd z (Nat.ne_of_lt lt)
            · have e3 := List.mem_singleton.mp z
              rw [size1] at e3
              exact absurd e3 (Nat.ne_of_lt (Nat.lt_succ_of_lt lt))) (Heap.get?_push_of_some _ (Heap.get?_push_of_some _ e))
          show wpAny _ _ _ _ _ _
          refine wpAny_pure ?_
          show wpAny _ _ (ret Value.none) _ _ _
          exact wpAny_pure ⟨rfl, g, tk, rfl, has, keep⟩
      · cases out2 with
        | error e => exact got2
        | ok fl2 =>
          cases fl2 with
          | ret r =>
            obtain ⟨rfl, g, tk, rfl, has, keep⟩ := got2
            repeat (any_goals (first | assumption | wp_step))
            exact fin _ _ has keep
          | _ => exact got2.elim
    | _ => exact got.elim
end
end Ks
/-! rows of unlike things, paths, rings, orders: without any program -/
namespace Gm
section
variable {α : Type} [DecidableEq α] [Inhabited α] (M : List α) (E : α → α → Bool)
def tups : Nat → List (List α)
  | 0 => [[]]
  | k + 1 => (tups k).flatMap fun t => (M.filter fun x => decide (x ∉ t)).map fun x => t ++ [x]
def path : List α → Bool
  | [] => true
  | [_] => true
  | a :: b :: r => E a b && path (b :: r)
def closes (t : List α) : Bool := match t.getLast?, t.head? with
  | some l, some h => E l h
  | _, _ => false
def ring (t : List α) : Bool := path E t && closes E t
def td (m : α) : List α := M.filter (E m)
def ready (t : List α) : List α := M.filter fun m => decide (m ∉ t) && (td M E m).all fun y => decide (y ∈ t)
def validR : List α → Bool
  | [] => true
  | x :: r => (td M E x).all (fun y => decide (y ∈ r)) && validR r
/-- valid, told of the turned row -/
def valid (t : List α) : Bool := validR M E t.reverse
variable {M E}
theorem valid_snoc {t : List α} {x : α} : valid M E (t ++ [x]) = ((td M E x).all (fun y => decide (y ∈ t)) && valid M E t) := by
  unfold valid
  rw [List.reverse_append]
  show ((td M E x).all (fun y => decide (y ∈ t.reverse)) && validR M E t.reverse) = _
  congr 2
  funext y
  simp
theorem path_snoc : ∀ {t : List α} {l x : α}, t.getLast? = some l → path E (t ++ [x]) = (path E t && E l x)
  | [], _, _, h => by cases h
  | [a], l, x, h => by
    have : a = l := by simpa using h
    subst this
    show (E a x && true) = (true && E a x)
    simp
  | a :: b :: r, l, x, h => by
    have h2 : (b :: r).getLast? = some l := by simpa [List.getLast?_cons_cons] using h
    have ih := path_snoc (t := b :: r) (x := x) h2
    show (E a b && path E (b :: r ++ [x])) = ((E a b && path E (b :: r)) && E l x)
    rw [ih, Bool.and_assoc]
theorem len_le : ∀ {ys l : List α}, ys.Nodup → (∀ y ∈ ys, y ∈ l) → ys.length ≤ l.length
  | [], _, _, _ => Nat.zero_le _
  | y :: r, l, nd, h => by
    have nd' := List.nodup_cons.mp nd
    have hy := h y List.mem_cons_self
    have ih := len_le (ys := r) (l := l.erase y) nd'.2 fun z hz => (List.mem_erase_of_ne (fun e => nd'.1 (by rw [← e]; exact hz))).mpr (h z (List.mem_cons_of_mem _ hz))
    rw [List.length_erase_of_mem hy] at ih
    have := List.length_pos_of_mem hy
    rw [List.length_cons]
    omega
theorem mem_tups (nd : M.Nodup) : ∀ {k : Nat} {t : List α}, t ∈ tups M k ↔ t.Nodup ∧ (∀ x ∈ t, x ∈ M) ∧ t.length = k
  | 0, t => by
    show t ∈ [[]] ↔ _
    rw [List.mem_singleton]
    constructor
    · rintro rfl
      exact ⟨List.nodup_nil, fun _ h => (by cases h), rfl⟩
    · rintro ⟨_, _, h⟩
      exact List.eq_nil_of_length_eq_zero h
  | k + 1, t => by
    show t ∈ (tups M k).flatMap _ ↔ _
    rw [List.mem_flatMap]
    constructor
    · rintro ⟨u, hu, ht⟩
      obtain ⟨x, hx, rfl⟩ := List.mem_map.mp ht
      obtain ⟨h1, h2, h3⟩ := (mem_tups nd).mp hu
      obtain ⟨hx1, hx2⟩ := List.mem_filter.mp hx
      refine ⟨?_, fun y hy => ?_, by simp [h3]⟩
      · rw [List.nodup_append]
        refine ⟨h1, by simp, fun a ha b hb => ?_⟩
        have : b = x := by simpa using hb
        subst this
        intro z
        subst z
        exact (of_decide_eq_true hx2) ha
      · rcases List.mem_append.mp hy with hy | hy
        · exact h2 y hy
        · have : y = x := by simpa using hy
          rw [this]
          exact hx1
    · rintro ⟨h1, h2, h3⟩
      have ne : t ≠ [] := fun z => by rw [z] at h3; cases h3
      have e := (List.dropLast_concat_getLast ne)
      refine ⟨t.dropLast, (mem_tups nd).mpr ⟨?_, fun x hx => h2 x ((List.dropLast_sublist t).subset hx), by rw [List.length_dropLast, h3]; rfl⟩, ?_⟩
      · rw [← e] at h1
        exact (List.nodup_append.mp h1).1
      · refine List.mem_map.mpr ⟨t.getLast ne, List.mem_filter.mpr ⟨h2 _ (List.getLast_mem ne), ?_⟩, e⟩
        rw [← e, List.nodup_append] at h1
        exact decide_eq_true fun z => h1.2.2 _ z _ (by simp) rfl
theorem flatMap_filter {β γ : Type} (p : β → Bool) (f : β → List γ) : ∀ l : List β, (l.filter p).flatMap f = l.flatMap fun x => if p x = true then f x else []
  | [] => rfl
  | x :: r => by
    rw [List.filter_cons]
    by_cases h : p x = true
    · rw [if_pos h, List.flatMap_cons, List.flatMap_cons, if_pos h, flatMap_filter p f r]
    · rw [if_neg h, List.flatMap_cons, if_neg h, List.nil_append, flatMap_filter p f r]
theorem filter_flatMap {β γ : Type} (p : γ → Bool) (f : β → List γ) : ∀ l : List β, (l.flatMap f).filter p = l.flatMap fun x => (f x).filter p
  | [] => rfl
  | x :: r => by rw [List.flatMap_cons, List.filter_append, filter_flatMap p f r, List.flatMap_cons]
theorem flatMap_congr {β γ : Type} {f g : β → List γ} : ∀ {l : List β}, (∀ x ∈ l, f x = g x) → l.flatMap f = l.flatMap g
  | [], _ => rfl
  | x :: r, h => by rw [List.flatMap_cons, List.flatMap_cons, h x List.mem_cons_self, flatMap_congr fun y hy => h y (List.mem_cons_of_mem _ hy)]
theorem last_of {t : List α} {k : Nat} (h : t.length = k + 1) : ∃ l, t.getLast? = some l ∧ l ∈ t := by
  cases hl : t.getLast? with
  | none =>
    rw [List.getLast?_eq_none_iff] at hl
    rw [hl] at h
    cases h
  | some l => exact ⟨l, rfl, List.mem_of_getLast? hl⟩
/-- the next rows of paths -/
theorem paths_next (nd : M.Nodup) (k : Nat) : (tups M (k + 2)).filter (path E) = ((tups M (k + 1)).filter (path E)).flatMap fun t => ((td M E (t.getLast?.getD default)).filter fun x => decide (x ∉ t)).map fun x => t ++ [x] := by
  rw [flatMap_filter]
  show ((tups M (k + 1)).flatMap _).filter _ = _
  rw [filter_flatMap]
  refine flatMap_congr fun t ht => ?_
  obtain ⟨l, hl, _⟩ := last_of ((mem_tups nd).mp ht).2.2
  rw [hl, List.filter_map]
  have e : (path E ∘ fun x => t ++ [x]) = fun x => path E t && E l x := funext fun x => path_snoc hl
  rw [e]
  cases path E t with
  | false => simp
  | true =>
    simp only [Bool.true_and, if_true, Option.getD_some]
    unfold td
    rw [List.filter_filter, List.filter_filter]
    congr 2
    funext x
    rw [Bool.and_comm]
theorem paths_one : (tups M 1).filter (path E) = M.map fun x => [x] := by
  show (([[]] : List (List α)).flatMap fun t => (M.filter fun x => decide (x ∉ t)).map fun x => t ++ [x]).filter _ = _
  have e : (M.filter fun x => decide (x ∉ ([] : List α))) = M := List.filter_eq_self.mpr fun x _ => by simp
  rw [List.flatMap_cons, List.flatMap_nil, List.append_nil, e]
  refine List.filter_eq_self.mpr fun t ht => ?_
  obtain ⟨x, _, rfl⟩ := List.mem_map.mp ht
  rfl
theorem len_tups (nd : M.Nodup) {k : Nat} {t : List α} (h : t ∈ tups M k) : k ≤ M.length := by
  obtain ⟨h1, h2, h3⟩ := (mem_tups nd).mp h
  rw [← h3]
  exact len_le h1 h2
variable (M E)
def rings (n : Nat) : List (List α) := (List.range n).flatMap fun j => (tups M (j + 1)).filter (ring E)
variable {M E}
theorem ring_filter (k : Nat) : (tups M k).filter (ring E) = ((tups M k).filter (path E)).filter (closes E) := by
  rw [List.filter_filter]
  congr 1
  funext t
  unfold ring
  rw [Bool.and_comm]
theorem paths_none (nd : M.Nodup) {k : Nat} (h : (tups M (k + 1)).filter (path E) = []) : ∀ j, (tups M (k + 1 + j)).filter (path E) = []
  | 0 => h
  | j + 1 => by
    have e : k + 1 + (j + 1) = (k + j) + 2 := by omega
    have ih := paths_none nd h j
    have e2 : k + 1 + j = k + j + 1 := by omega
    rw [e2] at ih
    rw [e, paths_next nd, ih, List.flatMap_nil]
/-- no path of k + 1, no ring of fewer: no ring -/
theorem no_ring (nd : M.Nodup) {k : Nat} (h : (tups M (k + 1)).filter (path E) = []) (before : ∀ j, j < k → (tups M (j + 1)).filter (ring E) = []) (n : Nat) : rings M E n = [] := by
  unfold rings
  rw [List.flatMap_eq_nil_iff]
  intro j _
  by_cases c : j < k
  · exact before j c
  · have := paths_none nd h (j - k)
    have e : k + 1 + (j - k) = j + 1 := by omega
    rw [e] at this
    rw [ring_filter, this]
    rfl
theorem head_flat {β : Type} {f : Nat → List β} {k : Nat} {t : β} (ht : (f k).head? = some t) : ∀ {n : Nat}, k < n → (∀ j, j < k → f j = []) → ((List.range n).flatMap f).head? = some t
  | 0, h, _ => by cases h
  | n + 1, h, before => by
    rw [List.range_succ, List.flatMap_append, List.flatMap_cons, List.flatMap_nil, List.append_nil]
    by_cases c : k < n
    · rw [List.head?_append, head_flat ht c before]
      rfl
    · have e : k = n := by omega
      subst e
      have : (List.range k).flatMap f = [] := by
        rw [List.flatMap_eq_nil_iff]
        exact fun j hj => before j (List.mem_range.mp hj)
      rw [this, List.nil_append]
      exact ht
theorem ring_first (nd : M.Nodup) {k : Nat} {t : List α} (ht : (((tups M (k + 1)).filter (path E)).filter (closes E)).head? = some t) (before : ∀ j, j < k → (tups M (j + 1)).filter (ring E) = []) : (rings M E M.length).head? = some t := by
  rw [← ring_filter] at ht
  have hm : t ∈ tups M (k + 1) := (List.mem_filter.mp (List.mem_of_mem_head? ht)).1
  have := len_tups nd hm
  exact head_flat (f := fun j => (tups M (j + 1)).filter (ring E)) ht (by omega) before
/-! orders -/
theorem ready_sub {t t' : List α} {x : α} (h : ∀ y ∈ t', y ∈ t) (hx : x ∈ ready M E t') (n : x ∉ t) : x ∈ ready M E t := by
  unfold ready at hx ⊢
  rw [List.mem_filter] at hx ⊢
  simp only [Bool.and_eq_true, decide_eq_true_eq, List.all_eq_true] at hx ⊢
  exact ⟨hx.1, n, fun y hy => h y (hx.2.2 y hy)⟩
theorem valid_next (k : Nat) : (tups M (k + 1)).filter (valid M E) = ((tups M k).filter (valid M E)).flatMap fun t => (ready M E t).map fun x => t ++ [x] := by
  rw [flatMap_filter]
  show ((tups M k).flatMap _).filter _ = _
  rw [filter_flatMap]
  refine flatMap_congr fun t ht => ?_
  rw [List.filter_map]
  have e : (valid M E ∘ fun x => t ++ [x]) = fun x => (td M E x).all (fun y => decide (y ∈ t)) && valid M E t := funext fun x => valid_snoc
  rw [e]
  unfold ready
  cases valid M E t with
  | false => simp
  | true =>
    simp only [Bool.and_true, if_true]
    rw [List.filter_filter]
    congr 2
    funext x
    rw [Bool.and_comm]
/-- who stands first in a valid row that is not in t, is ready -/
theorem first_out {t : List α} : ∀ (r : List α), validR M E r = true → (∀ x ∈ r, x ∈ M) → (∃ x ∈ r, x ∉ t) → ∃ x, x ∈ ready M E t
  | [], _, _, h => by
    obtain ⟨x, hx, _⟩ := h
    cases hx
  | a :: r, hv, hM, h => by
    unfold validR at hv
    rw [Bool.and_eq_true, List.all_eq_true] at hv
    by_cases c : ∃ x ∈ r, x ∉ t
    · exact first_out r hv.2 (fun x hx => hM x (List.mem_cons_of_mem _ hx)) c
    · have all : ∀ x ∈ r, x ∈ t := fun x hx => Classical.byContradiction fun z => c ⟨x, hx, z⟩
      obtain ⟨x, hx, hn⟩ := h
      rcases List.mem_cons.mp hx with rfl | hx
      · refine ⟨x, ?_⟩
        unfold ready
        rw [List.mem_filter]
        simp only [Bool.and_eq_true, decide_eq_true_eq, List.all_eq_true]
        exact ⟨hM x List.mem_cons_self, hn, fun y hy => all y (of_decide_eq_true (hv.1 y hy))⟩
      · exact absurd (all x hx) hn
theorem out_of_long {t u : List α} (nd : u.Nodup) (h : t.length < u.length) : ∃ x ∈ u, x ∉ t := by
  refine Classical.byContradiction fun z => ?_
  have sub : ∀ x ∈ u, x ∈ t := fun x hx => Classical.byContradiction fun n => z ⟨x, hx, n⟩
  have := len_le nd sub
  omega
theorem valid_none (k : Nat) (h : (tups M k).filter (valid M E) = []) : ∀ j, (tups M (k + j)).filter (valid M E) = []
  | 0 => h
  | j + 1 => by
    show (tups M (k + j + 1)).filter _ = []
    rw [valid_next, valid_none k h j, List.flatMap_nil]
theorem order_stuck (nd : M.Nodup) {k n : Nat} {t : List α} (ht : t ∈ tups M k) (hr : ready M E t = []) (hk : k < n) : (tups M n).filter (valid M E) = [] := by
  have no : (tups M (k + 1)).filter (valid M E) = [] := by
    rw [List.filter_eq_nil_iff]
    intro u hu hv
    obtain ⟨u1, u2, u3⟩ := (mem_tups nd).mp hu
    obtain ⟨_, _, t3⟩ := (mem_tups nd).mp ht
    obtain ⟨x, hx, hn⟩ := out_of_long (t := t) u1 (by omega)
    obtain ⟨y, hy⟩ := first_out (M := M) (E := E) (t := t) u.reverse hv (fun z hz => u2 z (List.mem_reverse.mp hz)) ⟨x, List.mem_reverse.mpr hx, hn⟩
    rw [hr] at hy
    cases hy
  have := valid_none (k + 1) no (n - (k + 1))
  rwa [show k + 1 + (n - (k + 1)) = n by omega] at this
theorem order_step {k : Nat} {t : List α} {x : α} {r : List α} (ht : ((tups M k).filter (valid M E)).head? = some t) (hr : ready M E t = x :: r) : ((tups M (k + 1)).filter (valid M E)).head? = some (t ++ [x]) := by
  rw [valid_next]
  cases h : (tups M k).filter (valid M E) with
  | nil => rw [h] at ht; cases ht
  | cons u w =>
    rw [h] at ht
    have : u = t := by simpa using ht
    subst this
    rw [List.flatMap_cons, hr, List.map_cons, List.cons_append]
    rfl
end
end Gm
namespace Gm
section
variable {α : Type} [DecidableEq α] [Inhabited α] {M : List α} {E : α → α → Bool}
theorem path_tail : ∀ {p q : List α}, path E (p ++ q) = true → path E q = true
  | [], _, h => h
  | a :: p, q, h => by
    refine path_tail (p := p) ?_
    cases hq : p ++ q with
    | nil => rfl
    | cons b r =>
      have h2 : path E (a :: (p ++ q)) = true := h
      rw [hq] at h2
      have h3 : (E a b && path E (b :: r)) = true := h2
      exact (Bool.and_eq_true _ _ ▸ h3).2
theorem path_front : ∀ {p : List α} {m : α} {q : List α}, path E (p ++ m :: q) = true → path E (p ++ [m]) = true
  | [], _, _, _ => rfl
  | [a], m, q, h => by
    have h3 : (E a m && path E (m :: q)) = true := h
    rw [Bool.and_eq_true] at h3
    show (E a m && true) = true
    rw [h3.1]
    rfl
  | a :: b :: p, m, q, h => by
    have h3 : (E a b && path E (b :: p ++ m :: q)) = true := h
    rw [Bool.and_eq_true] at h3
    have ih := path_front (p := b :: p) (m := m) (q := q) h3.2
    show (E a b && path E (b :: p ++ [m])) = true
    rw [h3.1, ih]
    rfl
theorem ring_next {t : List α} (h : ring E t = true) {a : α} (ha : a ∈ t) : ∃ y ∈ t, E a y = true := by
  obtain ⟨p, q, rfl⟩ := List.append_of_mem ha
  have h1 : (path E (p ++ a :: q) && closes E (p ++ a :: q)) = true := h
  rw [Bool.and_eq_true] at h1
  cases q with
  | cons b r =>
    have h2 := path_tail h1.1
    have h3 : (E a b && path E (b :: r)) = true := h2
    exact ⟨b, by simp, (Bool.and_eq_true _ _ ▸ h3).1⟩
  | nil =>
    have h2 := h1.2
    unfold closes at h2
    have hl : (p ++ [a]).getLast? = some a := by simp
    cases hh : (p ++ [a]).head? with
    | none => rw [hl, hh] at h2; cases h2
    | some y =>
      rw [hl, hh] at h2
      exact ⟨y, List.mem_of_mem_head? hh, h2⟩
theorem mem_td {m y : α} : y ∈ td M E m ↔ y ∈ M ∧ E m y = true := List.mem_filter
theorem none_in : ∀ (r : List α) {t : List α}, validR M E r = true → (∀ x ∈ t, x ∈ M) → ring E t = true → ∀ x ∈ r, x ∉ t
  | [], _, _, _, _, _, h => by cases h
  | a :: r, t, hv, hM, hr, x, hx => by
    unfold validR at hv
    rw [Bool.and_eq_true, List.all_eq_true] at hv
    have ih := none_in r hv.2 hM hr
    rcases List.mem_cons.mp hx with rfl | hx
    · intro hxt
      obtain ⟨y, hy, e⟩ := ring_next hr hxt
      exact ih y (of_decide_eq_true (hv.1 y (mem_td.mpr ⟨hM y hy, e⟩))) hy
    · exact ih x hx
theorem mem_rings (nd : M.Nodup) {t : List α} : t ∈ rings M E M.length ↔ t ≠ [] ∧ t.Nodup ∧ (∀ x ∈ t, x ∈ M) ∧ ring E t = true := by
  unfold rings
  rw [List.mem_flatMap]
  constructor
  · rintro ⟨j, hj, ht⟩
    obtain ⟨h1, h2⟩ := List.mem_filter.mp ht
    obtain ⟨a, b, c⟩ := (mem_tups nd).mp h1
    exact ⟨fun z => (by rw [z] at c; cases c), a, b, h2⟩
  · rintro ⟨ne, a, b, c⟩
    have l1 := len_le a b
    have l2 : 0 < t.length := List.length_pos_iff.mpr ne
    exact ⟨t.length - 1, List.mem_range.mpr (by omega), List.mem_filter.mpr ⟨(mem_tups nd).mpr ⟨a, b, by omega⟩, c⟩⟩
theorem no_order_of_ring (nd : M.Nodup) (h : rings M E M.length ≠ []) : (tups M M.length).filter (valid M E) = [] := by
  obtain ⟨t, ht⟩ := List.exists_mem_of_ne_nil _ h
  obtain ⟨ne, _, b, c⟩ := (mem_rings nd).mp ht
  rw [List.filter_eq_nil_iff]
  intro o ho hv
  obtain ⟨o1, o2, o3⟩ := (mem_tups nd).mp ho
  obtain ⟨x, hx⟩ := List.exists_mem_of_ne_nil _ ne
  have hxo : x ∈ o := Classical.byContradiction fun n => by
    have := len_le (List.nodup_cons.mpr ⟨n, o1⟩) (l := M) fun y hy => by
      rcases List.mem_cons.mp hy with rfl | hy
      · exact b y hx
      · exact o2 y hy
    rw [List.length_cons] at this
    omega
  exact none_in o.reverse hv b c x (List.mem_reverse.mpr hxo) hx
theorem order_of_no_ring (nd : M.Nodup) (h : rings M E M.length = []) : ∀ k, k ≤ M.length → (tups M k).filter (valid M E) ≠ []
  | 0, _ => by
    intro z
    cases z
  | k + 1, hk => by
    obtain ⟨t, ht⟩ := List.exists_mem_of_ne_nil _ (order_of_no_ring nd h k (by omega))
    obtain ⟨h1, hv⟩ := List.mem_filter.mp ht
    obtain ⟨t1, t2, t3⟩ := (mem_tups nd).mp h1
    intro z
    rw [valid_next] at z
    rw [List.flatMap_eq_nil_iff] at z
    have no : ready M E t = [] := by simpa using z t ht
    have next : ∀ m, m ∈ M → m ∉ t → ∃ y, y ∈ td M E m ∧ y ∉ t := fun m hm hn => Classical.byContradiction fun q => by
      have : m ∈ ready M E t := by
        unfold ready
        rw [List.mem_filter]
        simp only [Bool.and_eq_true, decide_eq_true_eq, List.all_eq_true]
        exact ⟨hm, hn, fun y hy => Classical.byContradiction fun q2 => q ⟨y, hy, q2⟩⟩
      rw [no] at this
      cases this
    have long : ∀ j, ∃ p : List α, p.length = j + 1 ∧ p.Nodup ∧ (∀ x ∈ p, x ∈ M ∧ x ∉ t) ∧ path E p = true := by
      intro j
      induction j with
      | zero =>
        obtain ⟨x, hx, hn⟩ := out_of_long (t := t) nd (by omega)
        exact ⟨[x], rfl, by simp, fun y hy => by
          have : y = x := by simpa using hy
          subst this
          exact ⟨hx, hn⟩, rfl⟩
      | succ j ih =>
        obtain ⟨p, p1, p2, p3, p4⟩ := ih
        obtain ⟨l, hl, hlm⟩ := last_of p1
        obtain ⟨y, hy, hyn⟩ := next l (p3 l hlm).1 (p3 l hlm).2
        obtain ⟨hyM, hyE⟩ := mem_td.mp hy
        have hyp : y ∉ p := by
          intro hyp
          obtain ⟨a, b, rfl⟩ := List.append_of_mem hyp
          have r1 := path_tail p4
          have hl2 : (y :: b).getLast? = some l := by
            rw [List.getLast?_append] at hl
            cases hb : (y :: b).getLast? with
            | none => rw [List.getLast?_eq_none_iff] at hb; cases hb
            | some w =>
              rw [hb] at hl
              simpa using hl
          have hr : ring E (y :: b) = true := by
            unfold ring closes
            rw [r1, hl2]
            exact hyE
          have : (y :: b) ∈ rings M E M.length := (mem_rings nd).mpr ⟨by simp, (List.nodup_append.mp p2).2.1, fun x hx => (p3 x (List.mem_append_right _ hx)).1, hr⟩
          rw [h] at this
          cases this
        refine ⟨p ++ [y], by simp [p1], ?_, fun x hx => ?_, ?_⟩
        · rw [List.nodup_append]
          refine ⟨p2, by simp, fun a ha b hb z => ?_⟩
          have : b = y := by simpa using hb
          rw [z, this] at ha
          exact hyp ha
        · rcases List.mem_append.mp hx with hx | hx
          · exact p3 x hx
          · have : x = y := by simpa using hx
            rw [this]
            exact ⟨hyM, hyn⟩
        · rw [path_snoc hl, p4, hyE]
          rfl
    obtain ⟨p, p1, p2, p3, _⟩ := long M.length
    have := len_le p2 fun x hx => (p3 x hx).1
    omega
/-! the longest -/
variable (M E)
def proc (n : Nat) : List (List α) := (List.range n).flatMap fun j => tups M (j + 1)
def lg (P : List (List α)) (m : α) : Option Nat := ((P.filter fun t => path E t && decide (t.head? = some m)).getLast?).map List.length
def dep (m : α) : Nat := (lg E (proc M M.length) m).getD 0
variable {M E}
theorem lg_snoc {P : List (List α)} {t : List α} {m : α} : lg E (P ++ [t]) m = if (path E t && decide (t.head? = some m)) = true then some t.length else lg E P m := by
  unfold lg
  rw [List.filter_append, List.filter_cons, List.filter_nil]
  split
  · rw [List.getLast?_append]
    rfl
  · rw [List.append_nil]
theorem mem_proc (nd : M.Nodup) {n : Nat} {t : List α} : t ∈ proc M n ↔ t.Nodup ∧ (∀ x ∈ t, x ∈ M) ∧ 0 < t.length ∧ t.length ≤ n := by
  unfold proc
  rw [List.mem_flatMap]
  constructor
  · rintro ⟨j, hj, ht⟩
    obtain ⟨a, b, c⟩ := (mem_tups nd).mp ht
    have := List.mem_range.mp hj
    exact ⟨a, b, by omega, by omega⟩
  · rintro ⟨a, b, c, d⟩
    exact ⟨t.length - 1, List.mem_range.mpr (by omega), (mem_tups nd).mpr ⟨a, b, by omega⟩⟩
theorem proc_up (nd : M.Nodup) : ∀ n, (proc M n).Pairwise fun a b => a.length ≤ b.length
  | 0 => .nil
  | n + 1 => by
    unfold proc
    rw [List.range_succ, List.flatMap_append, List.flatMap_cons, List.flatMap_nil, List.append_nil]
    refine List.pairwise_append.mpr ⟨proc_up nd n, List.pairwise_of_forall_mem_list fun a ha b hb => ?_, fun a ha b hb => ?_⟩
    · rw [((mem_tups nd).mp ha).2.2, ((mem_tups nd).mp hb).2.2]
      exact Nat.le_refl _
    · have := ((mem_proc nd).mp ha).2.2.2
      rw [((mem_tups nd).mp hb).2.2]
      omega
theorem last_max {β : Type} {R : β → β → Prop} (refl : ∀ x, R x x) : ∀ {l : List β} {z : β}, l.Pairwise R → l.getLast? = some z → ∀ x ∈ l, R x z
  | [], _, _, h, _, _ => by cases h
  | [a], z, _, h, x, hx => by
    have h1 : a = z := by simpa using h
    have h2 : x = a := by simpa using hx
    rw [h2, h1]
    exact refl z
  | a :: b :: r, z, pw, h, x, hx => by
    have h2 : (b :: r).getLast? = some z := by simpa [List.getLast?_cons_cons] using h
    obtain ⟨p1, p2⟩ := List.pairwise_cons.mp pw
    rcases List.mem_cons.mp hx with rfl | hx
    · exact p1 z (List.mem_of_getLast? h2)
    · exact last_max refl p2 h2 x hx
/-- dep m: there is a path of so many from m, none of more -/
theorem dep_spec (nd : M.Nodup) {m : α} (hm : m ∈ M) : lg E (proc M M.length) m = some (dep M E m) ∧ (∃ t, t.Nodup ∧ (∀ x ∈ t, x ∈ M) ∧ path E t = true ∧ t.head? = some m ∧ t.length = dep M E m) ∧
    ∀ t, t.Nodup → (∀ x ∈ t, x ∈ M) → path E t = true → t.head? = some m → t.length ≤ dep M E m := by
  unfold dep lg
  have h0 : [m] ∈ (proc M M.length).filter fun t => path E t && decide (t.head? = some m) := by
    refine List.mem_filter.mpr ⟨(mem_proc nd).mpr ⟨by simp, fun x hx => ?_, by simp, List.length_pos_of_mem hm⟩, by simp [path]⟩
    have : x = m := by simpa using hx
    rw [this]
    exact hm
  cases hl : ((proc M M.length).filter fun t => path E t && decide (t.head? = some m)).getLast? with
  | none =>
    rw [List.getLast?_eq_none_iff] at hl
    rw [hl] at h0
    cases h0
  | some z =>
    obtain ⟨hz1, hz2⟩ := List.mem_filter.mp (List.mem_of_getLast? hl)
    obtain ⟨a, b, _, _⟩ := (mem_proc nd).mp hz1
    simp only [Bool.and_eq_true, decide_eq_true_eq] at hz2
    refine ⟨rfl, ⟨z, a, b, hz2.1, hz2.2, rfl⟩, fun t t1 t2 t3 t4 => ?_⟩
    have ht : t ∈ (proc M M.length).filter fun t => path E t && decide (t.head? = some m) := by
      refine List.mem_filter.mpr ⟨(mem_proc nd).mpr ⟨t1, t2, ?_, len_le t1 t2⟩, by simp [t3, t4]⟩
      cases t with
      | nil => cases t4
      | cons _ _ => simp
    exact last_max (R := fun a b : List α => a.length ≤ b.length) (fun _ => Nat.le_refl _) ((proc_up nd _).sublist List.filter_sublist) hl t ht
theorem foldl_max : ∀ (r : List Int) (n : Int), n ≤ r.foldl max n ∧ (∀ x ∈ r, x ≤ r.foldl max n) ∧ (r.foldl max n = n ∨ r.foldl max n ∈ r)
  | [], n => ⟨Int.le_refl _, fun _ h => (by cases h), .inl rfl⟩
  | x :: r, n => by
    obtain ⟨a, b, c⟩ := foldl_max r (max n x)
    have hm : (x :: r).foldl max n = r.foldl max (max n x) := rfl
    rw [hm]
    refine ⟨by omega, fun y hy => ?_, ?_⟩
    · rcases List.mem_cons.mp hy with rfl | hy
      · omega
      · exact b y hy
    · rcases c with c | c
      · rw [c]
        by_cases h : n ≤ x
        · exact .inr (by rw [Int.max_eq_right h]; exact List.mem_cons_self)
        · exact .inl (by rw [Int.max_eq_left (by omega)])
      · exact .inr (List.mem_cons_of_mem _ c)
theorem dep_rec (nd : M.Nodup) (nr : rings M E M.length = []) {m : α} (hm : m ∈ M) : (td M E m = [] → dep M E m = 1) ∧ ∀ n r, (td M E m).map (fun y => (dep M E y : Int)) = n :: r → (dep M E m : Int) = 1 + r.foldl max n := by
  obtain ⟨_, ⟨t, t1, t2, t3, t4, t5⟩, up⟩ := dep_spec (E := E) nd hm
  -- a path from m is m and a path from one that m reads
  have low : (dep M E m = 1) ∨ ∃ y ∈ td M E m, dep M E m ≤ 1 + dep M E y := by
    cases t with
    | nil => cases t4
    | cons a r =>
      have : a = m := by simpa using t4
      subst this
      cases r with
      | nil => exact .inl t5.symm
      | cons y r =>
        have h3 : (E a y && path E (y :: r)) = true := t3
        rw [Bool.and_eq_true] at h3
        have hy := t2 y (by simp)
        refine .inr ⟨y, mem_td.mpr ⟨hy, h3.1⟩, ?_⟩
        have := (dep_spec (E := E) nd hy).2.2 (y :: r) (List.nodup_cons.mp t1).2 (fun x hx => t2 x (List.mem_cons_of_mem _ hx)) h3.2 rfl
        simp only [List.length_cons] at t5 this
        omega
  have one : 1 ≤ dep M E m := by
    cases t with
    | nil => cases t4
    | cons _ _ => rw [List.length_cons] at t5; omega
  have high : ∀ y ∈ td M E m, 1 + dep M E y ≤ dep M E m := by
    intro y hy
    obtain ⟨hyM, hyE⟩ := mem_td.mp hy
    obtain ⟨_, ⟨u, u1, u2, u3, u4, u5⟩, _⟩ := dep_spec (E := E) nd hyM
    have out : m ∉ u := by
      intro hmu
      obtain ⟨p, q, rfl⟩ := List.append_of_mem hmu
      have r1 := path_front u3
      have hr : ring E (p ++ [m]) = true := by
        unfold ring closes
        have hl : (p ++ [m]).getLast? = some m := by simp
        have hh : (p ++ [m]).head? = some y := by
          cases p with
          | nil => simpa using u4
          | cons a p => simpa using u4
        rw [r1, hl, hh]
        exact hyE
      have sub : (p ++ [m]).Sublist (p ++ m :: q) := List.Sublist.append_left (by simp) p
      have : (p ++ [m]) ∈ rings M E M.length := (mem_rings nd).mpr ⟨by simp, u1.sublist sub, fun x hx => u2 x (sub.subset hx), hr⟩
      rw [nr] at this
      cases this
    have := up (m :: u) (List.nodup_cons.mpr ⟨out, u1⟩) (fun x hx => by
      rcases List.mem_cons.mp hx with rfl | hx
      · exact hm
      · exact u2 x hx) (by
      cases u with
      | nil => cases u4
      | cons b r =>
        have : b = y := by simpa using u4
        subst this
        show (E m b && path E (b :: r)) = true
        rw [hyE, u3]
        rfl) rfl
    rw [List.length_cons, u5] at this
    omega
  refine ⟨fun z => ?_, fun n r e => ?_⟩
  · rcases low with h | ⟨y, hy, _⟩
    · exact h
    · rw [z] at hy
      cases hy
  · obtain ⟨a, b, c⟩ := foldl_max r n
    have all : ∀ x ∈ n :: r, 1 + x ≤ (dep M E m : Int) := by
      intro x hx
      rw [← e] at hx
      obtain ⟨y, hy, rfl⟩ := List.mem_map.mp hx
      have := high y hy
      omega
    have le : 1 + r.foldl max n ≤ (dep M E m : Int) := by
      rcases c with c | c
      · rw [c]
        exact all n List.mem_cons_self
      · exact all _ (List.mem_cons_of_mem _ c)
    have ge : (dep M E m : Int) ≤ 1 + r.foldl max n := by
      have hy : ∀ y ∈ td M E m, (dep M E y : Int) ≤ r.foldl max n := fun y hy => by
        have : (dep M E y : Int) ∈ n :: r := by
          rw [← e]
          exact List.mem_map.mpr ⟨y, hy, rfl⟩
        rcases List.mem_cons.mp this with h | h
        · rw [h]
          exact a
        · exact b _ h
      rcases low with h | ⟨y, hy1, hy2⟩
      · have h1 : ∃ y, y ∈ td M E m := by
          cases ht : td M E m with
          | nil => rw [ht] at e; cases e
          | cons y _ => exact ⟨y, List.mem_cons_self⟩
        obtain ⟨y, hy1⟩ := h1
        have := hy y hy1
        omega
      · have := hy y hy1
        omega
    omega
end
end Gm
namespace Ks
open PySem PySem.Spec PyProof.Rows L2
theorem nodup_of_len : ∀ {ys l : List Str}, ys.Nodup → (∀ y ∈ ys, y ∈ l) → l.length ≤ ys.length → l.Nodup
  | [], l, _, _, h => by
    have : l = [] := List.eq_nil_of_length_eq_zero (by simpa using h)
    rw [this]
    exact List.nodup_nil
  | y :: r, l, nd, hs, h => by
    have nd' := List.nodup_cons.mp nd
    have hy := hs y List.mem_cons_self
    have sub : ∀ z ∈ r, z ∈ l.erase y := fun z hz => (List.mem_erase_of_ne (fun e => nd'.1 (by rw [← e]; exact hz))).mpr (hs z (List.mem_cons_of_mem _ hz))
    have le := List.length_erase_of_mem hy
    have pos := List.length_pos_of_mem hy
    rw [List.length_cons] at h
    have ih := nodup_of_len (ys := r) (l := l.erase y) nd'.2 sub (by omega)
    rw [(List.perm_cons_erase hy).nodup_iff]
    refine List.nodup_cons.mpr ⟨fun hm => ?_, ih⟩
    have := Gm.len_le nd (l := l.erase y) fun z hz => by
      rcases List.mem_cons.mp hz with rfl | hz
      · exact hm
      · exact sub z hz
    rw [List.length_cons] at this
    omega
section
variable {X : Cx}
theorem cr_setXT (hc : X.calm = true) : CallR X (.type "set") (fun vs G Q => ∃ (a : Addr) (xs : List Str), vs = [.ref a] ∧ SqT X.K G a (xs.map V.str) ∧ xs.length < 1000 ∧ ∀ p, G p = none → Q (.ref p) (upd G p (SetX X.prog X.w p xs))) := by
  intro pins s τ G vs us Q I rv h
  obtain ⟨a, xs, rfl, hq, few, q⟩ := h
  obtain ⟨u, rfl, ru⟩ := vals1 rv
  cases ru
  obtain ⟨its, r2, pl, small⟩ := I.tuple hq
  have count := r2.length
  rw [List.length_map] at count
  refine set_of_textsT xs (I.ok.hd hc) pl (fun i v e => ?_) (by simp only [List.size_toArray]; exact count.symm) (by unfold scanBound; omega) fun g tk has keep => ?_
  · have e' : its[i]? = some v := by simpa using e
    have lt : i < (xs.map V.str).length := by
      have := (List.getElem?_eq_some_iff.mp e').1
      rw [List.length_map]
      omega
    obtain ⟨v2, h1, h2⟩ := r2.get (List.getElem?_eq_getElem lt)
    rw [e'] at h1
    cases h1
    rw [List.length_map] at lt
    rw [List.getElem_map] at h2
    obtain ⟨tk, rfl⟩ := h2
    exact ⟨xs[i], tk, List.getElem?_eq_getElem lt, rfl⟩
  · exact ⟨.ref s.heap.objs.size, _, I.laid (t' := tk) keep (Nat.le_refl _) (setX_new has), rfl, q _ (I.hok.fresh (Nat.le_refl _))⟩
theorem call_lenX : CallR X (.builtin "len") (fun vs G Q => ∃ (a : Addr) (xs : List Str), vs = [.ref a] ∧ G a = some (SetX X.prog X.w a xs) ∧ xs.length < 1000 ∧ ∀ n : Nat, n ≤ xs.length → (n = xs.length ↔ xs.Nodup) → Q (.int n) G) := by
  intro pins s τ G vs us Q I rv h
  obtain ⟨a, xs, rfl, ha, few, q⟩ := h
  obtain ⟨u, rfl, ru⟩ := vals1 rv
  cases ru
  obtain ⟨n, hn, ob, es, era, tab, at0, exa, dat, gd, nod, mem, small, fit, cnt, ris, led⟩ := (I.hok a _ ha).1
  have len : (es.toList.map txt).length = n := by
    rw [List.length_map, Array.length_toList]
    exact cnt
  have sub : ∀ y ∈ es.toList.map txt, y ∈ xs := fun y hy => of_decide_eq_true ((mem y).2 hy)
  have sup : ∀ y ∈ xs, y ∈ es.toList.map txt := fun y hy => (mem y).1 (decide_eq_true hy)
  have iff : n = xs.length ↔ xs.Nodup := by
    constructor
    · intro e
      exact nodup_of_len nod sub (by omega)
    · intro nd
      have := Gm.len_le nd sup
      omega
  refine call_len_set at0 exa dat fit (by omega) ?_
  have e : (es.size : Int) = (n : Int) := by rw [← len, List.length_map, Array.length_toList]
  rw [e]
  exact ⟨.int n, G, I.tok _, ⟨_, rfl⟩, q n hn iff⟩
end
end Ks
namespace Bl
open PySem PySem.Spec PyProof.Rows L2 Bk Bm Evl Be Cr Bp TL Kr Ks
/-! what a drawn rule looks at -/
def toldS (k : Str) (ys : List Str) : List Str := if k = Str.ofString "names" then [] else if k = Str.ofString "pick" ∨ k = Str.ofString "need" then ys.take 1 else ys
inductive Shp (H : Hp) : V → Str → List Str → Prop
  | join {a b : Addr} {m : Str} {ys : List Str} (h : H a = some (.tup [.str m, .str (Str.ofString "join"), .ref b])) (hb : H b = some (.tup (ys.map V.str))) (hl : ys.length ≤ 4) : Shp H (.ref a) m ys
  | txts {a : Addr} {m k : Str} {ys fs : List Str} (h : H a = some (.tup (.str m :: .str k :: ys.map V.str))) (hk : k ∈ knds) (nj : k ≠ Str.ofString "join") (hf : formOf k = some fs) (hl : ys.length = fs.length) : Shp H (.ref a) m (toldS k ys)
theorem k_forms : ∀ k ∈ knds, k ≠ Str.ofString "join" → (k = Str.ofString "names" ∧ formOf k = some [Str.ofString "folder"]) ∨ ((k = Str.ofString "pick" ∨ k = Str.ofString "need") ∧ k ≠ Str.ofString "names" ∧ formOf k = some [Str.ofString "path", Str.ofString "word"]) ∨
    (k ≠ Str.ofString "names" ∧ ¬ (k = Str.ofString "pick" ∨ k = Str.ofString "need") ∧ (formOf k = some [Str.ofString "path"] ∨ formOf k = some [Str.ofString "path", Str.ofString "path", Str.ofString "path"])) := by decide +kernel
section
variable {H G : Hp} {v : V} {K : PySem.W.Frag} {r : Addr} {m : Str} {told : List Str}
theorem Shp.imp (f : ∀ b ys, H b = some (.tup ys) → G b = some (.tup ys)) (h : Shp H v m told) : Shp G v m told := by
  cases h with
  | join h hb hl => exact .join (f _ _ h) (f _ _ hb) hl
  | txts h hk nj hf hl => exact .txts (f _ _ h) hk nj hf hl
theorem Shp.mono (e : Ex H G) (h : Shp H v m told) : Shp G v m told := h.imp fun b ys z => e _ _ z
theorem Shp.dr (h : Shp H v m told) (row : Row K H r) (d : Dr K r H G) : Shp G v m told := h.imp fun b ys z => by
  obtain ⟨rl, hr⟩ := row.at
  exact d.kp _ _ (ne_of z hr (by intro z; cases z)) z
theorem Shp.updL {D : Addr} {xs zs : List V} (h : Shp H v m told) (hr : H D = some (.lst xs)) : Shp (upd H D (.lst zs)) v m told := h.imp fun b ys z => by
  rw [upd_ne (ne_of z hr (by intro z; cases z))]
  exact z
theorem Shp.few (h : Shp H v m told) : told.length ≤ 4 := by
  cases h with
  | join h hb hl => exact hl
  | @txts a _ k ys fs h hk nj hf hl =>
    have l3 : ys.length ≤ 3 := by
      rcases k_forms k hk nj with ⟨_, e⟩ | ⟨_, _, e⟩ | ⟨_, _, e | e⟩ <;> rw [e] at hf <;> cases hf <;> rw [hl] <;> decide
    unfold toldS
    split
    · simp
    · split
      · rw [List.length_take]
        omega
      · omega
/-- a piece of what is told -/
def Pc (H : Hp) (f : Str) (t : V) (pc : List Str) : Prop := (f = Str.ofString "path" ∧ ∃ y, t = .str y ∧ pc = [y]) ∨ (f = Str.ofString "paths" ∧ ∃ b, t = .ref b ∧ H b = some (.tup (pc.map V.str))) ∨ (f ≠ Str.ofString "path" ∧ f ≠ Str.ofString "paths" ∧ pc = [])
theorem Shp.pcs (h : Shp H v m told) : ∃ (a : Addr) (k : Str) (ts : List V) (fs : List Str) (pcs : List (List Str)), v = .ref a ∧ H a = some (.tup (.str m :: .str k :: ts)) ∧ k ∈ knds ∧ formOf k = some fs ∧ fs.length ≤ 3 ∧ ts.length = fs.length ∧ pcs.length = fs.length ∧
    (∀ (i : Nat) (f : Str) (t : V) (pc : List Str), fs[i]? = some f → ts[i]? = some t → pcs[i]? = some pc → Pc H f t pc) ∧ told = pcs.flatten := by
  cases h with
  | @join a b _ ys h hb hl =>
    refine ⟨a, _, [.ref b], [Str.ofString "paths"], [told], rfl, h, by decide +kernel, f_join, by decide, rfl, rfl, fun i f t pc h1 h2 h3 => ?_, by simp⟩
    cases i with
    | succ i => simp at h1
    | zero =>
      have e1 : Str.ofString "paths" = f := by simpa using h1
      have e2 : V.ref b = t := by simpa using h2
      have e3 : told = pc := by simpa using h3
      subst e1 e2 e3
      exact .inr (.inl ⟨rfl, b, rfl, hb⟩)
  | @txts a _ k ys fs h hk nj hf hl =>
    rcases k_forms k hk nj with ⟨kn, e⟩ | ⟨kp, kn, e⟩ | ⟨kn, kp, e | e⟩ <;> rw [e] at hf <;> cases hf
    · obtain ⟨y, rfl⟩ : ∃ y, ys = [y] := List.length_eq_one_iff.mp hl
      refine ⟨a, k, _, _, [[]], rfl, h, hk, e, by decide, rfl, rfl, fun i f t pc h1 h2 h3 => ?_, by unfold toldS; rw [if_pos kn]; rfl⟩
      cases i with
      | succ i => simp at h1
      | zero =>
        have e1 : Str.ofString "folder" = f := by simpa using h1
        have e3 : [] = pc := by simpa using h3
        subst e1 e3
        exact .inr (.inr ⟨by decide +kernel, by decide +kernel, rfl⟩)
    · obtain ⟨y, z, rfl⟩ : ∃ y z, ys = [y, z] := match ys, hl with | [y, z], _ => ⟨y, z, rfl⟩
      refine ⟨a, k, _, _, [[y], []], rfl, h, hk, e, by decide, rfl, rfl, fun i f t pc h1 h2 h3 => ?_, by unfold toldS; rw [if_neg kn, if_pos kp]; rfl⟩
      match i with
      | 0 =>
        have e1 : Str.ofString "path" = f := by simpa using h1
        have e2 : V.str y = t := by simpa using h2
        have e3 : [y] = pc := by simpa using h3
        subst e1 e2 e3
        exact .inl ⟨rfl, y, rfl, rfl⟩
      | 1 =>
        have e1 : Str.ofString "word" = f := by simpa using h1
        have e3 : [] = pc := by simpa using h3
        subst e1 e3
        exact .inr (.inr ⟨by decide +kernel, by decide +kernel, rfl⟩)
      | i + 2 => simp at h1
    · obtain ⟨y, rfl⟩ : ∃ y, ys = [y] := List.length_eq_one_iff.mp hl
      refine ⟨a, k, _, _, [[y]], rfl, h, hk, e, by decide, rfl, rfl, fun i f t pc h1 h2 h3 => ?_, by unfold toldS; rw [if_neg kn, if_neg kp]; rfl⟩
      cases i with
      | succ i => simp at h1
      | zero =>
        have e1 : Str.ofString "path" = f := by simpa using h1
        have e2 : V.str y = t := by simpa using h2
        have e3 : [y] = pc := by simpa using h3
        subst e1 e2 e3
        exact .inl ⟨rfl, y, rfl, rfl⟩
    · obtain ⟨x, y, z, rfl⟩ : ∃ x y z, ys = [x, y, z] := match ys, hl with | [x, y, z], _ => ⟨x, y, z, rfl⟩
      refine ⟨a, k, _, _, [[x], [y], [z]], rfl, h, hk, e, by decide, rfl, rfl, fun i f t pc h1 h2 h3 => ?_, by unfold toldS; rw [if_neg kn, if_neg kp]; rfl⟩
      match i with
      | 0 =>
        have e1 : Str.ofString "path" = f := by simpa using h1
        have e2 : V.str x = t := by simpa using h2
        have e3 : [x] = pc := by simpa using h3
        subst e1 e2 e3
        exact .inl ⟨rfl, _, rfl, rfl⟩
      | 1 =>
        have e1 : Str.ofString "path" = f := by simpa using h1
        have e2 : V.str y = t := by simpa using h2
        have e3 : [y] = pc := by simpa using h3
        subst e1 e2 e3
        exact .inl ⟨rfl, _, rfl, rfl⟩
      | 2 =>
        have e1 : Str.ofString "path" = f := by simpa using h1
        have e2 : V.str z = t := by simpa using h2
        have e3 : [z] = pc := by simpa using h3
        subst e1 e2 e3
        exact .inl ⟨rfl, _, rfl, rfl⟩
      | i + 3 => simp at h1
theorem fits_str {f : Str} {t : V} {o : Option (List V)} (h : fitsV f t o = true) (n : f ≠ Str.ofString "paths") (hf : f ∈ ["path", "word", "folder"].map Str.ofString) : ∃ y, t = .str y := by
  have h3 : f = Str.ofString "path" ∨ f = Str.ofString "word" ∨ f = Str.ofString "folder" := by simpa using hf
  rcases h3 with rfl | rfl | rfl
  · rw [fit_path] at h
    cases t with
    | str y => exact ⟨y, rfl⟩
    | _ => cases h
  · rw [fit_word] at h
    cases t with
    | str y => exact ⟨y, rfl⟩
    | _ => cases h
  · rw [fit_fold] at h
    cases t with
    | str y => exact ⟨y, rfl⟩
    | _ => cases h
theorem all_strs : ∀ (fs : List Str) (ts : List V) (os : List (Option (List V))), ts.length = fs.length → os.length = ts.length → ((fs.zip (ts.zip os)).all fun p => fitsV p.1 p.2.1 p.2.2) = true → (∀ f ∈ fs, f ≠ Str.ofString "paths" ∧ f ∈ ["path", "word", "folder"].map Str.ofString) → ∃ ys : List Str, ts = ys.map V.str
  | [], [], _, _, _, _, _ => ⟨[], rfl⟩
  | [], _ :: _, _, h, _, _, _ => by cases h
  | _ :: _, [], _, h, _, _, _ => by cases h
  | f :: fs, t :: ts, [], _, h, _, _ => by cases h
  | f :: fs, t :: ts, o :: os, h1, h2, h3, h4 => by
    have h5 : (fitsV f t o && ((fs.zip (ts.zip os)).all fun p => fitsV p.1 p.2.1 p.2.2)) = true := h3
    rw [Bool.and_eq_true] at h5
    obtain ⟨y, rfl⟩ := fits_str h5.1 (h4 f List.mem_cons_self).1 (h4 f List.mem_cons_self).2
    obtain ⟨ys, rfl⟩ := all_strs fs ts os (by simpa using h1) (by simpa using h2) h5.2 fun g hg => h4 g (List.mem_cons_of_mem _ hg)
    exact ⟨y :: ys, rfl⟩
theorem form_plain : ∀ k ∈ knds, k ≠ Str.ofString "join" → ∀ f ∈ (formOf k).getD [], f ≠ Str.ofString "paths" ∧ f ∈ ["path", "word", "folder"].map Str.ofString := by decide +kernel
theorem Good.shp {md : Str × PyData} (h : Good H v md) : ∃ told, Shp H v md.1 told := by
  obtain ⟨a, k, ts, ods, rfl, h1, h2, h3, h4, h5, h6, h7, h8⟩ := h
  have pl := pr_len h2
  unfold ruleB at h7
  cases hf : formOf k with
  | none =>
    simp only [hf] at h7
    rw [Bool.and_false] at h7
    cases h7
  | some fs =>
    simp only [hf] at h7
    rw [Bool.and_eq_true, Bool.and_eq_true] at h7
    obtain ⟨_, l7, all⟩ := h7
    have l8 : ts.length = fs.length := of_decide_eq_true l7
    by_cases c : k = Str.ofString "join"
    · subst c
      rw [f_join] at hf
      cases hf
      cases h2 with
      | nil => cases l8
      | @cons t od ts' ods' r rest =>
        have l9 : ts'.length = 0 := by simpa using l8
        obtain rfl := List.eq_nil_of_length_eq_zero l9
        have ft : (fitsV (Str.ofString "paths") t od.1 && _) = true := all
        rw [Bool.and_eq_true] at ft
        cases r with
        | s x hx =>
          rw [fit_pathsN] at ft
          cases ft.1
        | @t b ys hb hy hl =>
          rw [fit_paths, Bool.and_eq_true] at ft
          exact ⟨ys, .join h1 hb (by simpa using ft.1.1)⟩
    · have fp := form_plain k h4 c
      rw [hf] at fp
      obtain ⟨ys, rfl⟩ := all_strs fs ts (ods.map (·.1)) l8 (by rw [List.length_map]; exact pl.symm) all fp
      exact ⟨_, .txts h1 h4 c hf (by simpa using l8)⟩
end
end Bl
namespace Bl
open PySem PySem.Spec PyProof.Rows L2 Bk Bm Evl Be Cr Bp TL Kr Ks
abbrev sTold : Stmt := top 27
theorem iteP {b : Bool} {A B : Prop} (e : b = true) (h : A) : if b = true then A else B := by
  rw [if_pos e]
  exact h
theorem iteN {b : Bool} {A B : Prop} (e : b = false) (h : B) : if b = true then A else B := by
  rw [e, if_neg (by decide)]
  exact h
theorem seq_raw {t u : TS} {De : Ends} {σ : L2.St} {G : Hp} (h : t { De with nx := u De } σ G) : tSeq t u De σ G := h
theorem zip_raw {K : PySem.W.Frag} {ta tb : TE} {g : TG} {body : TS} {De : Ends} {σ : L2.St} {H : Hp} (h : ta σ H fun x H1 => tb σ H1 fun y H2 => tFor (RZ.iZipA K (tCons (tC x) (tCons (tC y) tNil))) g body De σ H2) :
    tFor (RZ.iZipA K (tCons ta (tCons tb tNil))) g body De σ H := h
theorem sq_updL {K : PySem.W.Frag} {H : Hp} {p l : Addr} {xs ys zs : List V} (h : SqT K H p xs) (hl : H l = some (.lst ys)) : SqT K (upd H l (.lst zs)) p xs := by
  rcases h with (h | ⟨o, h⟩) | h
  · exact .inl (.inl (by rw [upd_ne (ne_of h hl (by intro z; cases z))]; exact h))
  · exact .inl (.inr ⟨o, by rw [upd_ne (ne_of h hl (by intro z; cases z))]; exact h⟩)
  · exact .inr h
section
variable {P : Program} {w : World} {K : PySem.W.Frag} {mg : Str → Option Value} {base : Heap}
theorem scTold : FnScope ["rule", "told", "form", "thing"] ["rule"] (defScope sTold) := ⟨rfl, rfl, rfl, by decide +kernel, rfl, by decide +kernel, by decide +kernel⟩
def spTold : Sp := fun vs H Q _ => ∃ v m told, vs = [v] ∧ Shp H v m told ∧ RetL (told.map V.str) H Q
theorem ok_told {f : Addr} {fd : FuncData} {D : Addr} {es : Array DictEntry} {n : Nat} (F : Fun K "told_paths" "told_paths" sTold f fd) (T : Gv mg) (Fm : Fms K w mg D es n) : FnOk P w K mg base CX0 1 f fd ["rule"] spTold := by
  refine F.ok scTold (fun vs H Q E h => ?_) (fun cdv A outer s H vs Q E hr h => ?_)
  · obtain ⟨v, m, told, rfl, _⟩ := h
    rfl
  · obtain ⟨v, m, told, rfl, shp, k⟩ := h
    refine ⟨_, pss_cons (ps_set (i := 1) scTold.nd rfl (Or.inl rfl) (pe_lst pa_nil))
      (pss_cons (ps_for PassesOwn.never rfl (RZ.pi_zipA (by rfl) T.zip (pa_cons (pe_ix ix_kdict (pe_glob (v := .ref D) (by rfl) Fm.g rfl) (pe_ix (r := rIxT K) ix_tup (pv 0) pe_int (fun _ _ => rfl)) (fun _ _ => rfl)) (pa_cons (pe_slice sl_tupA (pv 0) (po_some pe_int) po_none) pa_nil)))
          (pg_tup rfl (pgs_cons (pg_name (i := 2) scTold.nd rfl (Or.inl rfl)) (pgs_cons (pg_name (i := 3) scTold.nd rfl (Or.inl rfl)) pgs_nil)))
        (pss_cons (ps_if (pt_cmpR op_eq (pv 2) pe_str (nomark _)) (pss_one (ps_expr (pe_bm PySem.F.plainAttrs_list PySem.F.slot_list_append PySem.F.type_list_append mt_append (pv 1) (pa_cons (pv 3) pa_nil)))) pss_nil)
        (pss_one (ps_if (pt_cmpR op_eq (pv 2) pe_str (nomark _)) (pss_one (ps_expr (pe_bm PySem.F.plainAttrs_list PySem.F.slot_list_extend PySem.F.type_list_extend mt_extT (pv 1) (pa_cons (pv 3) pa_nil)))) pss_nil))))
      (pss_one (ps_ret (pv 1)))), ?_⟩
    have few := shp.few
    obtain ⟨a, kd, ts, fs, pcs, rfl, ha, hk, hf, lf, l1, l2, pc, rfl⟩ := shp.pcs
    have hat := Fm.at_ kd (knds_ok kd hk).2
    rw [hf] at hat
    obtain ⟨t, ht, tsq⟩ := hat
    refine q_asgL (xs := []) (el_lst ea_nil (by decide)) fun l H1 hl e1 h1 => ?_
    have ha1 := e1 _ _ ha
    have hle : ∀ i, ((pcs.take i).flatten).length ≤ 4 := fun i => by
      have e := congrArg List.length (congrArg List.flatten (List.take_append_drop i pcs))
      rw [List.flatten_append, List.length_append] at e
      omega
    refine seq_raw (zip_raw ?_)
    refine ev_op (z := .ref t) ev_c (ev_op (ev_var (i := 0) rfl) ev_c (rv_ixT (st_of ha1) (atI_nat (j := 1) rfl))) (fun H5 e5 Q' q' => ⟨D, kd, .ref t, rfl, rfl, ⟨es, n, _, Fm.d.at_, Fm.d.lit, ht, rfl⟩, q' H5 (Ex.refl _)⟩) H1 (Ex.refl _) _ fun H2 e2 => ?_
    refine slice_from (i := 2) (ev_var (i := 0) rfl) ev_c (st_of (e2 _ _ ha1)) (by simp) H2 (Ex.refl _) _ fun p H3 e3 hp => ?_
    have hp' : SqT K H3 p ts := hp
    refine ⟨t, p, fs.map V.str, ts, rfl, .inr ⟨tsq _, hp', RZ.for_zipT (K := K) (xs := fs.map V.str) (ys := ts) (by rw [List.length_map]; exact l1.symm) (fun i σ' G => ∃ u w, σ' = [some (.ref a), some (.ref l), u, w] ∧ Ex H G ∧ SqT K G p ts ∧ G l = some (.lst ((pcs.take i).flatten.map V.str)))
      ⟨none, none, rfl, (e1.trans e2).trans e3, hp', (e2.trans e3) _ _ h1⟩ (fun i σ' G q => by obtain ⟨_, _, _, _, q, _⟩ := q; exact ⟨tsq _, q⟩) (fun i x y T0 σ' G hx hy q hT => ?_) (fun σ' G q => ?_)⟩⟩
    · obtain ⟨u, w, rfl, eG, hpG, hlG⟩ := q
      obtain ⟨fo, hfo, rfl⟩ : ∃ fo, fs[i]? = some fo ∧ x = .str fo := by
        rw [List.getElem?_map] at hx
        cases e : fs[i]? with
        | none => rw [e] at hx; cases hx
        | some fo => rw [e] at hx; exact ⟨fo, rfl, (Option.some.inj hx).symm⟩
      have hi : i < pcs.length := by
        have := (List.getElem?_eq_some_iff.mp hfo).1
        omega
      have hpc : pcs[i]? = some pcs[i] := List.getElem?_eq_getElem hi
      have step : (pcs.take (i + 1)).flatten = (pcs.take i).flatten ++ pcs[i] := by
        rw [List.take_succ, hpc, List.flatten_append]
        simp
      have small := hle i
      have small2 := hle (i + 1)
      have pci := pc i fo y _ hfo hy hpc
      generalize pcs[i] = q0 at step pci
      have eT := Ex.new (o := .tup [.str fo, y]) hT
      refine ⟨T0, [.str fo, y], rfl, SqT.of upd_same, rfl, ?_⟩
      refine ⟨_, _, rfl, _, _, rfl, rfl, ?_⟩
      have eH := eG.trans eT
      have hp2 := ex_t eT hpG
      have hl2 := eT _ _ hlG
      generalize upd G T0 (.tup [.str fo, y]) = G2 at eH hp2 hl2 ⊢
      show tSeq _ _ _ ([some (.ref a), some (.ref l), some (.str fo), some y] : L2.St) G2
      rcases pci with ⟨rfl, y0, rfl, rfl⟩ | ⟨rfl, b, rfl, hb⟩ | ⟨n1, n2, rfl⟩
      · refine q_when (b := true) (et_is (et_test (ev_op (ev_var rfl) ev_c (rv_eq rfl))) (by simp)) (fun _ G3 e3 => ?_) (fun z => by cases z)
        have hl3 := e3 _ _ hl2
        refine ⟨_, rfl, Or.inl ⟨rfl, _, sq_of hl3⟩, _, rfl, l, _, _, rfl, rfl, hl3, sz_lt (by rw [List.length_map]; omega), ?_⟩
        refine s_when (b := false) (et_is (et_test (ev_op (ev_var rfl) ev_c (rv_eq rfl))) (by decide +kernel)) (fun z => by cases z) (fun _ G4 e4 => ?_)
        refine ⟨_, _, rfl, ((eH.trans e3).mut hl).trans e4, ex_t e4 (sq_updL (ex_t e3 hp2) hl3), ?_⟩
        rw [e4 _ _ upd_same, step, List.map_append]
        rfl
      · refine q_when (b := false) (et_is (et_test (ev_op (ev_var rfl) ev_c (rv_eq rfl))) (by decide +kernel)) (fun z => by cases z) (fun _ G3 e3 => ?_)
        refine s_when (b := true) (et_is (et_test (ev_op (ev_var rfl) ev_c (rv_eq rfl))) (by simp)) (fun _ G4 e4 => ?_) (fun z => by cases z)
        have hl4 := (e3.trans e4) _ _ hl2
        have eH4 := (eH.trans e3).trans e4
        refine ⟨_, rfl, Or.inl ⟨rfl, _, sq_of hl4⟩, _, rfl, l, b, _, _, rfl, rfl, hl4, st_of (eH4 _ _ hb), ?_, ?_⟩
        · rw [step, List.length_append] at small2
          rw [List.length_map, List.length_map]
          exact sz_of (by omega)
        · refine ⟨_, _, rfl, eH4.mut hl, sq_updL (ex_t (e3.trans e4) hp2) hl4, ?_⟩
          rw [upd_same, step, List.map_append]
      · refine q_when (b := false) (et_is (et_test (ev_op (ev_var rfl) ev_c (rv_eq rfl))) ?_) (fun z => by cases z) (fun _ G3 e3 => ?_)
        · exact decide_eq_false fun z => n1 (by injection z)
        refine s_when (b := false) (et_is (et_test (ev_op (ev_var rfl) ev_c (rv_eq rfl))) ?_) (fun z => by cases z) (fun _ G4 e4 => ?_)
        · exact decide_eq_false fun z => n2 (by injection z)
        refine ⟨_, _, rfl, (eH.trans e3).trans e4, ex_t (e3.trans e4) hp2, ?_⟩
        rw [(e3.trans e4) _ _ hl2, step, List.append_nil]
    · obtain ⟨u, w, rfl, eG, hpG, hlG⟩ := q
      rw [List.length_map, List.take_of_length_le (by omega)] at hlG
      exact ⟨_, rfl, k l G hl eG hlG⟩
end
end Bl
/-! the same rules where the block's context is another: P, w, K are named -/
namespace Ks
open PySem PySem.Spec PyProof.Rows L2
section
variable {X : Cx} {P : Program} {w : World} {K : PySem.W.Frag}
def rSrtX (P : Program) (w : World) : List V → Hp → VK → Prop := fun vs G Q => ∃ (a : Addr) (xs : List Str), vs = [.ref a] ∧ G a = some (SetX P w a xs) ∧ xs.length < 64 ∧
    ∀ (ys : List Str) p, sortedS ys = true → ys.Nodup → (∀ y, y ∈ ys ↔ y ∈ xs) → G p = none → Q (.ref p) (upd G p (.lst (ys.map V.str)))
theorem cr_srtX (hc : X.calm = true) (hP : X.prog = P) (hw : X.w = w) : CallR X (.builtin "sorted") (rSrtX P w) := by
  subst hP hw
  exact cr_sortedX hc
theorem pe_scP {elt tg iter : Expr} {ifs : List Expr} {scope : Scope} {own : List (Str × Nat)} {pos : Pos} {wi : TI} {g : TG} {tt : TT} {te : TE} (hP : X.prog = P) (hw : X.w = w) (calm : X.calm = true) (nd : X.N.Nodup) (walk : PI X tg iter wi) (blk : BlkOk X.N X.env.scope scope own)
    (hg : ∀ (s : Shared) (G : Hp) (C : Addr) (cl : List (Str × Addr)) (fp : List Addr), PG (X.blk s G scope (compEnvC scope cl C X.env) fp) tg g)
    (ht : ∀ (s : Shared) (G : Hp) (C : Addr) (cl : List (Str × Addr)) (fp : List Addr), PTs (X.blk s G scope (compEnvC scope cl C X.env) fp) ifs tt)
    (he : ∀ (s : Shared) (G : Hp) (C : Addr) (cl : List (Str × Addr)) (fp : List Addr), PE (X.blk s G scope (compEnvC scope cl C X.env) fp) elt te) (plain : ∀ x, foldedSetIterable iter X.env x = pure x := by intro _; rfl) :
    PE X (.SetComp elt [⟨tg, iter, ifs, 0⟩] scope pos) (tScX P w wi g tt te (own.map (·.2))) := by
  subst hP hw
  exact pe_scX calm nd walk blk hg ht he plain
theorem pi_listK {tg l : Expr} {tl : TE} (hK : X.K = K) (hl : PE X l tl) : PI X tg l (iList K tl) := by
  subst hK
  exact pi_list hl
theorem pi_tupK {tg l : Expr} {tl : TE} (hK : X.K = K) (hl : PE X l tl) : PI X tg l (iTup K tl) := by
  subst hK
  exact pi_tup hl
end
end Ks
namespace Bp
open PySem PySem.Spec PyProof.Rows L2 Bk Bm Evl Be Kr Ks
/-! rising rows of texts -/
abbrev ltS (a b : Str) : Prop := a.cps.toList < b.cps.toList
def AscS (ns : List Str) : Prop := ns.Pairwise ltS
theorem AscS.nodup {ns : List Str} (h : AscS ns) : ns.Nodup := h.imp fun {a b} l z => by
  rw [z] at l
  exact List.lt_irrefl _ l
theorem ascS_ext {a b : List Str} (ha : AscS a) (hb : AscS b) (h : ∀ g, g ∈ a ↔ g ∈ b) : a = b :=
  ((List.perm_ext_iff_of_nodup ha.nodup hb.nodup).mpr h).eq_of_pairwise (le := ltS) (fun x y _ _ h1 h2 => absurd (List.lt_trans h1 h2) (List.lt_irrefl _)) ha hb
theorem str_ext {a b : Str} (h : a.cps.toList = b.cps.toList) : a = b := by
  obtain ⟨a⟩ := a
  obtain ⟨b⟩ := b
  have : a = b := Array.toList_inj.mp h
  rw [this]
theorem lt_of_nle {a b : Str} (h : ¬ ltS b a) (n : a ≠ b) : ltS a b := by
  rcases Classical.em (ltS a b) with z | z
  · exact z
  · exact absurd (str_ext (List.le_antisymm (List.not_lt.mp h) (List.not_lt.mp z))) n
theorem rising_all : ∀ (r : List Str) (p : Str), risingS p r = true → (∀ x ∈ r, ¬ ltS x p) ∧ r.Pairwise fun a b => ¬ ltS b a
  | [], _, _ => ⟨fun _ h => (nomatch h), .nil⟩
  | x :: r, p, h => by
    have h1 : (!ltCps x.cps.toList p.cps.toList && risingS x r) = true := h
    rw [ltCps_eq] at h1
    simp only [Bool.and_eq_true, Bool.not_eq_true', decide_eq_false_iff_not] at h1
    obtain ⟨i1, i2⟩ := rising_all r x h1.2
    refine ⟨fun y hy => ?_, .cons (fun y hy => i1 y hy) i2⟩
    rcases List.mem_cons.mp hy with rfl | hy
    · exact h1.1
    · exact fun z => h1.1 (List.lt_of_le_of_lt (List.not_lt.mp (i1 y hy)) z)
theorem sorted_pw : ∀ (ns : List Str), sortedS ns = true → ns.Pairwise fun a b => ¬ ltS b a
  | [], _ => .nil
  | x :: r, h => by
    obtain ⟨a, b⟩ := rising_all r x h
    exact .cons a b
theorem asc_names {ns : List Str} (so : sortedS ns = true) (nd : ns.Nodup) : AscS ns := by
  have h := (sorted_pw ns so).and nd
  exact h.imp fun {a b} z => lt_of_nle z.1 z.2
theorem AscS.filter {ns : List Str} (h : AscS ns) (p : Str → Bool) : AscS (ns.filter p) := h.sublist List.filter_sublist
/-! dicts with texts as keys, told beside what they come from -/
theorem put_new {kvs : List (Key × V)} {k : Key} {v : V} (h : ∀ p ∈ kvs, p.1 ≠ k) : putK kvs k v = kvs ++ [(k, v)] := by
  unfold putK
  rw [if_neg (by
    intro z
    obtain ⟨q, hq, e⟩ := List.any_eq_true.mp z
    exact h q hq (by simpa using e))]
def KP {β : Type} (key : β → Str) (F : V → β → Prop) (kvs : List (Key × V)) (bs : List β) : Prop := Paired (fun (kv : Key × V) b => kv.1 = Sum.inr (key b) ∧ F kv.2 b) kvs bs
theorem KP.mono {β : Type} {key : β → Str} {F F' : V → β → Prop} {kvs : List (Key × V)} {bs : List β} (h : KP key F kvs bs) (f : ∀ v b, F v b → F' v b) : KP key F' kvs bs := pr_mono h fun _ _ z => ⟨z.1, f _ _ z.2⟩
theorem KP.val {β : Type} {key : β → Str} {F : V → β → Prop} {kvs : List (Key × V)} {bs : List β} (h : KP key F kvs bs) (m : Str) : (∃ b ∈ bs, key b = m ∧ ∃ v, valV kvs (Sum.inr m) = some v ∧ F v b) ∨ ((∀ b ∈ bs, key b ≠ m) ∧ valV kvs (Sum.inr m) = none) := by
  induction h with
  | nil => exact .inr ⟨fun _ h => (by cases h), rfl⟩
  | @cons kv b kvs bs r _ ih =>
    obtain ⟨k, v⟩ := kv
    obtain ⟨rk, rv⟩ := r
    have rk' : k = Sum.inr (key b) := rk
    subst rk'
    by_cases c : key b = m
    · exact .inl ⟨b, List.mem_cons_self, c, v, by rw [valV_pos (by rw [c])], rv⟩
    · have e : valV ((Sum.inr (key b), v) :: kvs) (Sum.inr m) = valV kvs (Sum.inr m) := valV_neg (by intro z; injection z with z; exact c z)
      rw [e]
      rcases ih with ⟨b', h1, h2, h3⟩ | ⟨h1, h2⟩
      · exact .inl ⟨b', List.mem_cons_of_mem _ h1, h2, h3⟩
      · refine .inr ⟨fun b' hb => ?_, h2⟩
        rcases List.mem_cons.mp hb with rfl | hb
        · exact c
        · exact h1 b' hb
theorem KP.keys {β : Type} {key : β → Str} {F : V → β → Prop} {kvs : List (Key × V)} {bs : List β} (h : KP key F kvs bs) : kvs.map (·.1) = (bs.map key).map Sum.inr := by
  induction h with
  | nil => rfl
  | cons r _ ih => rw [List.map_cons, List.map_cons, List.map_cons, ih, r.1]
theorem KP.snoc {β : Type} {key : β → Str} {F : V → β → Prop} {kvs : List (Key × V)} {bs : List β} {b : β} {v : V} (h : KP key F kvs bs) (hb : F v b) (n : ∀ c ∈ bs, key c ≠ key b) : KP key F (putK kvs (Sum.inr (key b)) v) (bs ++ [b]) := by
  rw [put_new (fun p hp z => ?_)]
  · exact pr_app h (.cons ⟨rfl, hb⟩ .nil)
  · obtain ⟨c, hc, e, _⟩ := pr_mem h hp
    rw [e] at z
    injection z with z
    exact n c hc z
end Bp
/-! sorted(a tuple of tuples) with unlike texts in front, whatever stands behind them -/
namespace Kr
open PySem PySem.Spec PyProof.Rows L2 Bk Bm Evl Be
/-- the text in front -/
def hdT : PyData → Str
  | .tuple (.str x :: _) => x
  | _ => Str.ofString ""
def HasHd (d : PyData) : Prop := ∃ x r, d = .tuple (.str x :: r)
noncomputable def headKind (h : Heap) (ds : List PyData) : PyProof.Rows.KeyKind where
  toKeyOrd := strKind.toKeyOrd
  keyOf v := open Classical in if q : ∃ d, d ∈ ds ∧ ∃ as, Reads h v d as then some (hdT q.choose).cps.toList else none
  dflt := ([] : List Nat)
theorem head_one {h : Heap} {v : Value} {d d' : PyData} {as as' : List Addr} (hd : HasHd d) (hd' : HasHd d') (r : Reads h v d as) (r' : Reads h v d' as') : hdT d = hdT d' := by
  obtain ⟨x, l, rfl⟩ := hd
  obtain ⟨x', l', rfl⟩ := hd'
  cases r with
  | @tuple a o xs n _ _ h1 h2 h3 h4 =>
    cases r' with
    | @tuple _ o' xs' n' _ _ k1 k2 k3 k4 =>
      rw [h1] at k1
      have e := Option.some.inj k1
      subst e
      rw [h3] at k3
      injection k3 with e1 e2
      subst e1
      cases hx : xs.toList with
      | nil => rw [hx] at h4; cases h4
      | cons f fr =>
        rw [hx] at h4 k4
        cases h4 with
        | cons r1 _ =>
          cases k4 with
          | cons r2 _ =>
            cases r1
            cases r2
            rfl
theorem head_some {h : Heap} {ds : List PyData} (hh : ∀ d ∈ ds, HasHd d) {v : Value} {d : PyData} {as : List Addr} (hd : d ∈ ds) (r : Reads h v d as) : (headKind h ds).keyOf v = some (hdT d).cps.toList := by
  have q : ∃ d, d ∈ ds ∧ ∃ as, Reads h v d as := ⟨d, hd, as, r⟩
  have e : (headKind h ds).keyOf v = some (hdT q.choose).cps.toList := by
    show (open Classical in if q : ∃ d, d ∈ ds ∧ ∃ as, Reads h v d as then some (hdT q.choose).cps.toList else none) = _
    rw [dif_pos q]
  obtain ⟨h1, as', h2⟩ := q.choose_spec
  rw [e, head_one (hh _ h1) (hh _ hd) h2 r]
theorem head_inv {h : Heap} {ds : List PyData} {v : Value} {k : List Nat} (e : (headKind h ds).keyOf v = some k) : ∃ d as, d ∈ ds ∧ Reads h v d as ∧ k = (hdT d).cps.toList := by
  by_cases q : ∃ d, d ∈ ds ∧ ∃ as, Reads h v d as
  · have e' : (headKind h ds).keyOf v = some (hdT q.choose).cps.toList := by
      show (open Classical in if q : ∃ d, d ∈ ds ∧ ∃ as, Reads h v d as then some (hdT q.choose).cps.toList else none) = _
      rw [dif_pos q]
    obtain ⟨h1, as', h2⟩ := q.choose_spec
    rw [e'] at e
    exact ⟨_, as', h1, h2, (Option.some.inj e).symm⟩
  · have e' : (headKind h ds).keyOf v = none := by
      show (open Classical in if q : ∃ d, d ∈ ds ∧ ∃ as, Reads h v d as then some (hdT q.choose).cps.toList else none) = _
      rw [dif_neg q]
      rfl
    rw [e'] at e
    exact absurd e (by simp)
theorem str_eq_of {a b : Str} (h : a.cps.toList = b.cps.toList) : a = b := by
  cases a with | mk x => cases b with | mk y =>
  have : x = y := Array.toList_inj.mp h
  rw [this]
section
variable {prog : Program} {w : World} {A : Around} {s : Shared}
theorem sorts_heads {vs : List Value} {ds : List PyData} (e : PySem.W.EachIs (fun v d => ∃ as, Reads s.heap v d as) vs ds) (hh : ∀ d ∈ ds, HasHd d) (nd : (ds.map hdT).Nodup) (self : ∀ d ∈ ds, PySem.W.alike d d = true) (hu : ∀ d, d ∈ ds → A.units + d.depth < cLine) :
    PySem.W.SortsAt prog w A s (headKind s.heap ds) vs := by
  have one : ∀ d ∈ ds, ∀ d' ∈ ds, hdT d = hdT d' → d = d' := by
    intro d hd d' hd' z
    obtain ⟨i, hi⟩ := List.getElem?_of_mem hd
    obtain ⟨j, hj⟩ := List.getElem?_of_mem hd'
    have e1 : (ds.map hdT)[i]? = some (hdT d) := by rw [List.getElem?_map, hi]; rfl
    have e2 : (ds.map hdT)[j]? = some (hdT d') := by rw [List.getElem?_map, hj]; rfl
    have : i = j := by
      obtain ⟨li, e1⟩ := List.getElem?_eq_some_iff.mp e1
      obtain ⟨lj, e2⟩ := List.getElem?_eq_some_iff.mp e2
      exact (List.getElem_inj (h₀ := li) (h₁ := lj) nd).mp (by rw [e1, e2, z])
    subst this
    rw [hi] at hj
    exact Option.some.inj hj
  refine ⟨fun v hv => ?_, ?_⟩
  · obtain ⟨d, hd, as, r⟩ := e.left v hv
    exact ⟨_, head_some hh hd r⟩
  · refine ⟨tuples' (PySem.W.dataType (.str (Str.ofString "")) != Value.type "tuple"), ?_, fun h2 E Q hq => ?_⟩
    · intro E x y a b Q ha hb hq
      obtain ⟨d, as, hd, ra, rfl⟩ := head_inv ha
      obtain ⟨d', as', hd', rb, rfl⟩ := head_inv hb
      have hroom : A.units + min d.depth d'.depth < cLine := Nat.lt_of_le_of_lt (Nat.add_le_add_left (Nat.min_le_left _ _) _) (hu d hd)
      by_cases z : hdT d = hdT d'
      · have ez := one d hd d' hd' z
        subst ez
        have hself := self d hd
        obtain ⟨t, r1, rfl⟩ := hh d hd
        have hq' : Q false s := by
          have e0 : (headKind s.heap ds).blt (hdT (.tuple (.str t :: r1))).cps.toList (hdT (.tuple (.str t :: r1))).cps.toList = false := strKind.irrefl _
          rw [e0] at hq
          exact hq
        cases ra with
        | @tuple l o xs n _ _ h1 h2 h3 h4 =>
          cases rb with
          | @tuple l' o' xs' n' _ _ k1 k2 k3 k4 =>
            have n1 : xs.size = (PyData.str t :: r1).length := by simpa using SeqAt.ReadsAll.length _ _ _ h4
            have n2 : xs'.size = (PyData.str t :: r1).length := by simpa using SeqAt.ReadsAll.length _ _ _ k4
            refine PySem.W.kat_lt h1 h3 k1 k3 (PySem.W.katLex_alike (.str t :: r1) (.str t :: r1) 0 _ _ _ _ h4 k4 (by simpa [PySem.W.alike] using hself) (by have q := SeqAt.room_in hroom; omega) (fun hb _ x r t' ex => ?_) (by rw [n1, n2]) ?_)
            · obtain ⟨rfl, rfl⟩ := List.cons.inj ex
              intro z
              cases z
            · rw [PyProof.Rows.lex_irrefl]
              exact hq'
      · obtain ⟨t, r1, rfl⟩ := hh d hd
        obtain ⟨t', r2, rfl⟩ := hh d' hd'
        have hne : t ≠ t' := z
        cases ra with
        | @tuple l o xs n _ _ h1 h2 h3 h4 =>
          cases rb with
          | @tuple l' o' xs' n' _ _ k1 k2 k3 k4 =>
            refine PySem.W.kat_lt h1 h3 k1 k3 ?_
            cases hx : xs.toList with
            | nil => rw [hx] at h4; cases h4
            | cons f fr =>
              cases hy : xs'.toList with
              | nil => rw [hy] at k4; cases k4
              | cons g gr =>
                rw [hx] at h4
                rw [hy] at k4
                rw [List.zip_cons_cons]
                cases h4 with
                | cons p1 _ =>
                  cases k4 with
                  | cons p2 _ =>
                    have al : PySem.W.alike (PyData.str t) (PyData.str t') = true := by simp [PySem.W.alike]
                    have room : A.units + min (PyData.str t).depth (PyData.str t').depth < cLine := by
                      have : (PyData.str t).depth = 0 := by simp [PyData.depth]
                      rw [this]
                      have := hu _ hd
                      omega
                    refine PySem.W.kat_cons (PySem.W.eqAt_alike (PyData.str t) (PyData.str t') A s _ _ _ _ p1 p2 al room prog w _ _ ?_)
                    have ev : PyData.eqv (PyData.str t) (PyData.str t') = false := by
                      simp only [PyData.eqv]
                      simpa using hne
                    rw [ev]
                    refine PySem.W.kat_no ?_
                    cases p1
                    cases p2
                    have b0 : ((PySem.W.dataType (.str (Str.ofString "")) != Value.type "tuple") && (0 : Nat) == 0) = true := by decide
                    rw [b0]
                    exact oneLt_str hq
    · have tup : ∀ d, d ∈ ds → ∃ x r, d = .tuple (x :: r) := fun d hd => by
        obtain ⟨x, r, e⟩ := hh d hd
        exact ⟨_, r, e⟩
      obtain ⟨fs, t1, t2, t3⟩ := PySem.W.each_katTups e tup
      refine PySem.W.kat_kind (T := PySem.W.dataType (.str (Str.ofString ""))) t1 (by omega) (fun f hf => ?_) (beq_self_eq_true _) hq
      obtain ⟨x, r, as, m1, m2⟩ := t3 f hf
      obtain ⟨y, r', ey⟩ := hh _ m1
      injection ey with ey
      injection ey with ey1 ey2
      subst ey1
      have q := PySem.W.looks_reads (M := model prog w) m2
      exact q
end
section
variable {X : Cx}
theorem cr_srtH (hu : X.A.units + 70 < cLine) : CallR X (.builtin "sorted") (fun vs G Q => ∃ (a : Addr) (bs : List (V × PyData)), vs = [.ref a] ∧ SqT X.K G a (bs.map Prod.fst) ∧ (∀ b ∈ bs, Dp X.K G b.1 b.2) ∧ (∀ b ∈ bs, b.2.depth ≤ 60) ∧ (∀ b ∈ bs, HasHd b.2) ∧
    (bs.map fun b => hdT b.2).Nodup ∧ (∀ b ∈ bs, PySem.W.alike b.2 b.2 = true) ∧ ∀ (cs : List (V × PyData)) (p : Addr), cs.Perm bs → cs.Pairwise (fun b c => ¬ (hdT c.2).cps.toList < (hdT b.2).cps.toList) → G p = none → Q (.ref p) (upd G p (.lst (cs.map Prod.fst)))) := by
  intro pins s τ G vs us Q I rv h
  obtain ⟨a, bs, rfl, hq, hd, hdep, hh, nd, hal, q⟩ := h
  obtain ⟨u, rfl, ru⟩ := vals1 rv
  cases ru
  obtain ⟨its, r2, ⟨o, ho, hc, n, hdt⟩, small⟩ := I.tuple hq
  rw [List.length_map] at small
  have each := each_vals r2
  have er := each_reads I each hd
  have hlen : its.length = bs.length := each.length
  refine Calls.call_function_entry kind_sorted plain_sorted entry_sorted (args_sorted1 _) ?_
  unfold Builtin.«sorted»
  refine wpAny_bind (m := checkCount "sorted" 1 1 _) (wpAny_pure (wpAny_bind (wpAny_collect_seq a (.inr rfl) ho hc hdt (fun h' hk => ?_) (by rw [List.size_toArray]; omega))))
  have eL : its.toArray.toList = its := by simp
  rw [eL]
  refine wpAny_bind (wpAny_newList ?_ (by omega))
  have atL : (h'.push (seqObj "list" its.toArray 0)).get? h'.objs.size = some (seqObj "list" its.toArray 0) := Heap.get?_push_size _ rfl
  have old : ∀ b o', s.heap.get? b = some o' → b < h'.objs.size ∧ (h'.push (seqObj "list" its.toArray 0)).get? b = some o' := fun b o' e => ⟨Heap.lt_size (hk b o' e), Heap.get?_push_of_some _ (hk b o' e)⟩
  have er' : PySem.W.EachIs (fun v b => ∃ as, Reads (PySem.W.sortingHeap (h'.push (seqObj "list" its.toArray 0)) h'.objs.size its) v b.2 as) its bs :=
    er.mono fun _ _ ⟨as, r⟩ => ⟨as, PyProof.Rows.Reads.keeps (fun b o' e => PySem.W.sortingHeap_old (Nat.ne_of_lt (old b o' e).1) (old b o' e).2) r⟩
  have hhD : ∀ d ∈ bs.map Prod.snd, HasHd d := fun d hd' => by
    obtain ⟨b, hb, rfl⟩ := List.mem_map.mp hd'
    exact hh b hb
  have hz : its.length ≤ sizeLine := by omega
  generalize hK : PySem.W.sortingHeap (h'.push (seqObj "list" its.toArray 0)) h'.objs.size its = hS at er'
  have keyd : PySem.W.EachIs (fun v b => (headKind hS (bs.map Prod.snd)).keyOf v = some (hdT b.2).cps.toList) its bs :=
    (PySem.W.each_mem er').mono fun v b ⟨⟨as, r⟩, hb⟩ => head_some hhD (List.mem_map.mpr ⟨b, hb, rfl⟩) r
  have eo := PySem.W.sortVals_each (κ := headKind hS (bs.map Prod.snd)) (rev := false) (fun b : V × PyData => (hdT b.2).cps.toList) each keyd
  have few : ((bs.mergeSort (PySem.W.sortLe (headKind hS (bs.map Prod.snd)).toKeyOrd false fun b : V × PyData => (hdT b.2).cps.toList)).map Prod.fst).length ≤ sizeLine := by rw [List.length_map, List.length_mergeSort]; exact small
  refine wpAny_bind (wpAny_holding (wpAny_call_entry slot_list_sort ⟨_, atL, rfl⟩ entry_list_sort (PySem.W.list_sort_vals (κ := headKind hS (bs.map Prod.snd)) atL ?S hz ?_) (args_list_sort _)))
  case S =>
    show PySem.W.SortsAt X.prog X.w _ { s with heap := PySem.W.sortingHeap (h'.push (seqObj "list" its.toArray 0)) h'.objs.size its } _ its
    rw [hK]
    exact sorts_heads (s := { s with heap := hS }) (PySem.W.each_map (R := fun v d => ∃ as, Reads hS v d as) Prod.snd er') hhD (by rw [List.map_map]; exact nd) (fun d hd' => by
      obtain ⟨b, hb, rfl⟩ := List.mem_map.mp hd'
      exact hal b hb) (fun d hd' => by
      obtain ⟨b, hb, rfl⟩ := List.mem_map.mp hd'
      have := hdep b hb
      have eu : X.A.in1.in1.units = X.A.units + 2 := rfl
      show X.A.in1.in1.units + _ < cLine
      rw [eu]
      omega)
  refine ⟨_, rfl, ?_⟩
  obtain ⟨c, hcc⟩ := sortedHeap_at (vs := its) (out := (PySem.W.sortVals (headKind hS (bs.map Prod.snd)) false its its).toArray) atL
  have I2 := I.kept (t' := s.toks) hk
  refine wpAny_pure ⟨_, rfl, .ref h'.objs.size, upd G h'.objs.size (.lst _), I2.laid (t' := s.toks) (fun b o' e => ?_) (Nat.le_refl _) ⟨few, (PySem.W.sortVals (headKind hS (bs.map Prod.snd)) false its its), c, vals_each eo, hcc⟩, rfl, q _ _ (List.mergeSort_perm _ _) ((PySem.W.sort_pairwise (PySem.W.sortLe_total _ _ _) bs).imp fun {b c} z => ?_) (I2.hok.fresh (Nat.le_refl _))⟩
  · have below : b < h'.objs.size := Heap.lt_size e
    show (sortedHeap (h'.push (seqObj "list" its.toArray 0)) h'.objs.size its _).get? b = some o'
    rw [sortedHeap_old (Nat.ne_of_lt below) (by rw [size_push']; exact Nat.lt_succ_of_lt below)]
    exact Heap.get?_push_of_some _ e
  · have z' : (!decide ((hdT c.2).cps.toList < (hdT b.2).cps.toList)) = true := z
    simpa using z'
end
end Kr
namespace Bl
open PySem PySem.Spec PyProof.Rows L2 Bk Bm Evl Be Cr Bp TL Kr Ks
abbrev sToldMade : Stmt := top 29
abbrev sTable : Stmt := top 28
abbrev nTM : List Str := ["book", "rules", "made", "rule", "path"]
/-! the made paths, and what each is told to look at -/
abbrev Rt := Str × List Str
def toldOf (rs : List Rt) (m : Str) : List Str := ((rs.find? fun p => decide (p.1 = m)).map (·.2)).getD []
def Ed (rs : List Rt) (m y : Str) : Bool := decide (y ∈ toldOf rs m)
theorem told_mem {rs : List Rt} (nd : (rs.map (·.1)).Nodup) {p : Rt} (h : p ∈ rs) : toldOf rs p.1 = p.2 := by
  unfold toldOf
  induction rs with
  | nil => cases h
  | cons q r ih =>
    rw [List.find?_cons]
    have nd' := List.nodup_cons.mp (show (q.1 :: r.map (·.1)).Nodup from nd)
    rcases List.mem_cons.mp h with rfl | h
    · rw [decide_eq_true rfl]
      rfl
    · have : q.1 ≠ p.1 := fun z => nd'.1 (by rw [z]; exact List.mem_map.mpr ⟨p, h, rfl⟩)
      rw [decide_eq_false this]
      exact ih nd'.2 h
/-- rules as a tuple's items -/
structure Rs (H : Hp) (xs : List V) (rs : List Rt) : Prop where
  pr : Paired (fun v (p : Rt) => Shp H v p.1 p.2) xs rs
  nd : (rs.map (·.1)).Nodup
  few : rs.length ≤ 6
/-- the made paths in order -/
structure Md (rs : List Rt) (M : List Str) : Prop where
  asc : AscS M
  mem : ∀ y, y ∈ M ↔ y ∈ rs.map (·.1)
theorem Rs.mono {H G : Hp} {xs : List V} {rs : List Rt} (e : Ex H G) (h : Rs H xs rs) : Rs G xs rs := ⟨pr_mono h.pr fun _ _ z => z.mono e, h.nd, h.few⟩
theorem Md.few {rs : List Rt} {M : List Str} (h : Md rs M) (f : rs.length ≤ 6) : M.length ≤ 6 := by
  have := Gm.len_le h.asc.nodup fun y hy => (h.mem y).mp hy
  rw [List.length_map] at this
  omega
/-- what the dict of told_made holds -/
def ToldK (H : Hp) (E : Str → Str → Bool) (M : List Str) (kvs : List (Key × V)) : Prop := KP (fun m => m) (fun v m => ∃ l, v = .ref l ∧ H l = some (.lst ((Gm.td M E m).map V.str))) kvs M
theorem ToldK.mono {H G : Hp} {E : Str → Str → Bool} {M : List Str} {kvs : List (Key × V)} (e : Ex H G) (h : ToldK H E M kvs) : ToldK G E M kvs := KP.mono h fun _ _ ⟨l, z, h⟩ => ⟨l, z, e _ _ h⟩
theorem Shp.head {H : Hp} {v : V} {m : Str} {told : List Str} (h : Shp H v m told) : ∃ c ts, v = .ref c ∧ H c = some (.tup (.str m :: ts)) := by
  cases h with
  | join h _ _ => exact ⟨_, _, rfl, h⟩
  | txts h _ _ _ _ => exact ⟨_, _, rfl, h⟩
/-- a list that is kept while a dict grows -/
theorem lst_updD {H : Hp} {D l : Addr} {xs : List V} {kvs : List (Key × V)} {o : HO} (h : H l = some (.lst xs)) (hD : H D = some (.dK kvs)) : (upd H D o) l = some (.lst xs) := by
  rw [upd_ne (ne_of h hD (by intro z; cases z))]
  exact h
theorem dc_tup_raw {K : PySem.W.Frag} {tl tk tv : TE} {g : TG} {tt : TT} {vs : List Nat} {σ : L2.St} {H : Hp} {Q : VK} (h : tl σ H fun x H1 => tDc (iTup K (tC x)) g tt tk tv vs σ H1 Q) : tDc (iTup K tl) g tt tk tv vs σ H Q := h
theorem dc_lst_raw {K : PySem.W.Frag} {tl tk tv : TE} {g : TG} {tt : TT} {vs : List Nat} {σ : L2.St} {H : Hp} {Q : VK} (h : tl σ H fun x H1 => tDc (iList K (tC x)) g tt tk tv vs σ H1 Q) : tDc (iList K tl) g tt tk tv vs σ H Q := h
theorem sc_lst_raw {K : PySem.W.Frag} {P : Program} {w : World} {tl te : TE} {g : TG} {tt : TT} {vs : List Nat} {σ : L2.St} {H : Hp} {Q : VK} (h : tl σ H fun x H1 => tScX P w (iList K (tC x)) g tt te vs σ H1 Q) : tScX P w (iList K tl) g tt te vs σ H Q := h
theorem cb_raw {te : TE} {r : List V → Hp → VK → Prop} {σ : L2.St} {H : Hp} {Q : VK} (h : te σ H fun x H1 => r [x] H1 Q) : tCB r (tCons te tNil) σ H Q := h
theorem call_raw {sp : Sp} {E : XK} {ta : TA} {σ : L2.St} {G : Hp} {Q : VK} (h : ta σ G fun vs H1 => sp (vs ++ []) H1 Q E) : tCall sp [] E ta σ G Q := h
theorem cons_raw {te : TE} {ta : TA} {σ : L2.St} {G : Hp} {Q : List V → Hp → Prop} (h : te σ G fun x H1 => ta σ H1 fun xs H2 => Q (x :: xs) H2) : tCons te ta σ G Q := h
theorem ret_raw {te : TE} {De : Ends} {σ : L2.St} {H : Hp} (h : te σ H De.rt) : tRet te De σ H := h
theorem frz_raw {te : TE} {σ : L2.St} {H : Hp} {Q : VK} (h : te σ H fun x H1 => ∃ a kvs, x = .ref a ∧ H1 a = some (.dK kvs) ∧ ∀ o, Q (.ref a) (upd H1 a (.frz o (.dK kvs)))) : tFrz te σ H Q := h
theorem dpx (K : PySem.W.Frag) (G : Hp) : ∀ zs : List Str, DpAll K G (zs.map V.str) (zs.map PyData.str)
  | [] => .nil
  | z :: r => .cons (.str z) (dpx K G r)
theorem depx : ∀ zs : List Str, PyData.depthAll (zs.map PyData.str) = 0
  | [] => by simp [PyData.depthAll]
  | z :: r => by
    have := depx r
    simp only [List.map_cons, PyData.depthAll, PyData.depth]
    omega
theorem alx : ∀ zs : List Str, PySem.W.alikeAll (zs.map PyData.str) (zs.map PyData.str) = true
  | [] => by simp [PySem.W.alikeAll]
  | z :: r => by
    simp only [List.map_cons, PySem.W.alikeAll, PySem.W.alike, Bool.true_and]
    exact alx r
/-- a rule as data -/
def RD (K : PySem.W.Frag) (H : Hp) (v : V) (m : Str) (d : PyData) : Prop := Dp K H v d ∧ (∃ r, d = .tuple (.str m :: r)) ∧ d.depth ≤ 60 ∧ PySem.W.alike d d = true
theorem Shp.data {K : PySem.W.Frag} {H : Hp} {v : V} {m : Str} {told : List Str} (h : Shp H v m told) : ∃ d, RD K H v m d := by
  cases h with
  | @join a b m ys h hb hl =>
    refine ⟨.tuple [.str m, .str (Str.ofString "join"), .tuple (told.map .str)], .tup (st_of h) (.cons (.str _) (.cons (.str _) (.cons (.tup (st_of hb) (dpx K H _)) .nil))), ⟨_, rfl⟩, ?_, ?_⟩
    · have := depx told
      simp only [PyData.depth, PyData.depthAll]
      omega
    · simp only [PySem.W.alike, PySem.W.alikeAll, Bool.true_and, Bool.and_true]
      exact alx _
  | @txts a m k ys fs h hk nj hf hl =>
    refine ⟨.tuple (.str m :: .str k :: ys.map .str), .tup (st_of h) (.cons (.str _) (.cons (.str _) (dpx K H _))), ⟨_, rfl⟩, ?_, ?_⟩
    · have := depx ys
      simp only [PyData.depth, PyData.depthAll]
      omega
    · simp only [PySem.W.alike, PySem.W.alikeAll, Bool.true_and]
      exact alx _
theorem rd_all {K : PySem.W.Frag} {H : Hp} {xs : List V} {rs : List Rt} (h : Paired (fun v (p : Rt) => Shp H v p.1 p.2) xs rs) : ∃ bs : List (V × PyData), bs.map Prod.fst = xs ∧ Paired (fun (b : V × PyData) (p : Rt) => Shp H b.1 p.1 p.2 ∧ RD K H b.1 p.1 b.2) bs rs := by
  induction h with
  | nil => exact ⟨[], rfl, .nil⟩
  | @cons v p xs rs r _ ih =>
    obtain ⟨bs, h1, h2⟩ := ih
    obtain ⟨d, hd⟩ := r.data (K := K)
    exact ⟨(v, d) :: bs, by rw [List.map_cons, h1], .cons ⟨r, hd⟩ h2⟩
theorem rd_heads {K : PySem.W.Frag} {H : Hp} {bs : List (V × PyData)} {rs : List Rt} (h : Paired (fun (b : V × PyData) (p : Rt) => Shp H b.1 p.1 p.2 ∧ RD K H b.1 p.1 b.2) bs rs) : bs.map (fun b => hdT b.2) = rs.map (·.1) := by
  induction h with
  | nil => rfl
  | @cons b p bs rs r _ ih =>
    obtain ⟨_, _, ⟨l, hl⟩, _⟩ := r
    rw [List.map_cons, List.map_cons, ih, hl]
    rfl
theorem rd_fst {K : PySem.W.Frag} {H F : Hp} (e : Ex H F) {bs : List (V × PyData)} {rs : List Rt} (h : Paired (fun (b : V × PyData) (p : Rt) => Shp H b.1 p.1 p.2 ∧ RD K H b.1 p.1 b.2) bs rs) : Paired (fun v (p : Rt) => Shp F v p.1 p.2) (bs.map Prod.fst) rs := by
  induction h with
  | nil => exact .nil
  | cons r _ ih => exact .cons (r.1.mono e) ih
theorem pr_perm {α β : Type} {F : α → β → Prop} {a b : List α} (h : a.Perm b) : ∀ {m : List β}, Paired F b m → ∃ m', m'.Perm m ∧ Paired F a m' := by
  induction h with
  | nil => intro m h; exact ⟨m, .refl _, h⟩
  | cons x _ ih =>
    intro m h
    cases h with
    | cons r t =>
      obtain ⟨m', p, q⟩ := ih t
      exact ⟨_ :: m', p.cons _, .cons r q⟩
  | swap x y l =>
    intro m h
    cases h with
    | cons r1 t =>
      cases t with
      | cons r2 t => exact ⟨_, .swap _ _ _, .cons r2 (.cons r1 t)⟩
  | trans _ _ ih1 ih2 =>
    intro m h
    obtain ⟨m', p, q⟩ := ih2 h
    obtain ⟨m'', p2, q2⟩ := ih1 q
    exact ⟨m'', p2.trans p, q2⟩
section
variable {P : Program} {w : World} {K : PySem.W.Frag} {mg : Str → Option Value} {base : Heap} {C fI pR fG fL fE : Addr}
theorem scTable : FnScope ["book", "rule"] ["book"] (defScope sTable) := ⟨rfl, rfl, rfl, by decide +kernel, rfl, by decide +kernel, by decide +kernel⟩
def spTable (C : Addr) : Sp := fun vs H Q _ => ∃ a t xs rs M, vs = [.ref a] ∧ BkAt H C a (.ref t) ∧ H t = some (.tup xs) ∧ Rs H xs rs ∧ Md rs M ∧ ∀ d o kvs rs' H', Ex H H' → H d = none → H' d = some (.frz o (.dK kvs)) → rs'.Perm rs → rs'.map (·.1) = M →
  KP Prod.fst (fun v (p : Rt) => Shp H' v p.1 p.2) kvs rs' → Q (.ref d) H'
theorem ok_table {f : Addr} {fd fdG : FuncData} (F : Fun K "rule_table" "rule_table" sTable f fd) (T : Gv mg) (B : Bks K mg C fI pR fG fL fE) (FG : FnOk P w K mg base CX0 1 fG fdG ["self"] (spGet C)) (bG : Binds K fdG ["self"] []) :
    FnOk P w K mg base CX0 3 f fd ["book"] (spTable C) := by
  refine F.ok scTable (fun vs H Q E h => ?_) (fun cdv A outer s H vs Q E hr h => ?_)
  · obtain ⟨a, t, xs, rs, M, rfl, _⟩ := h
    rfl
  · obtain ⟨a, t, xs, rs, M, rfl, b, ht, R, mdM, k⟩ := h
    have hu : (A.deeper (envOfC "rule_table" (defScope sTable) s.heap.objs.size f cdv)).units + 70 < cLine := by have := hr.un; omega
    refine ⟨_, pss_one (ps_ret (pe_frz (pe_dc (own := [("rule", 1)]) (g := gName 1) (tt := tYes) rfl scTable.nd (pi_list (pe_callB (cr_srtH hu) (by rfl) T.srt (by decide +kernel) (pa_cons (pe_prop (pv 0) B.cls B.prop FG hr bG .nil pass0 (by rfl)) pa_nil))) (blkOk_by (N := ["book", "rule"]) (sc := defScope sTable) (by decide +kernel))
        (fun _ _ _ _ _ => pg_name (i := 1) scTable.nd rfl (Or.inl rfl)) (fun _ _ _ _ _ => pts_nil) (fun _ _ _ _ _ => pe_ix (r := rIxT K) ix_tup (pv 1) pe_int (fun _ _ => rfl)) (fun _ _ _ _ _ => pv 1)))), ?_⟩
    have few := R.few
    refine ret_raw (frz_raw (dc_lst_raw (cb_raw (ev_prop (ev_var (i := 0) rfl) b H (Ex.refl _) _ fun H1 e1 => ?_))))
    obtain ⟨bs, hbx, hbr⟩ := rd_all (K := K) (pr_mono R.pr fun _ _ z => z.mono e1)
    have lx := pr_len hbr
    have hb : ∀ b ∈ bs, ∃ p ∈ rs, RD K H1 b.1 p.1 b.2 := by
      intro b hb
      obtain ⟨i, hi⟩ := List.getElem?_of_mem hb
      obtain ⟨p, hp, hr⟩ := pr_get hbr hi
      exact ⟨p, List.mem_of_getElem? hp, hr.2⟩
    have hh := rd_heads hbr
    refine ⟨t, bs, rfl, by rw [hbx]; exact st_of (e1 _ _ ht), fun b h => ?_, fun b h => ?_, fun b h => ?_, by rw [hh]; exact R.nd, fun b h => ?_, fun cs l pm so hl => ?_⟩
    · obtain ⟨p, _, r⟩ := hb b h; exact r.1
    · obtain ⟨p, _, r⟩ := hb b h; exact r.2.2.1
    · obtain ⟨p, _, r⟩ := hb b h
      obtain ⟨l, hl⟩ := r.2.1
      exact ⟨_, l, hl⟩
    · obtain ⟨p, _, r⟩ := hb b h; exact r.2.2.2
    obtain ⟨rs', pm', pr'⟩ := pr_perm pm hbr
    have hh' := rd_heads pr'
    have nd' : (rs'.map (·.1)).Nodup := (pm'.map (·.1)).nodup_iff.mpr R.nd
    have asc' : AscS (rs'.map (·.1)) := by
      rw [← hh']
      have h1 : (cs.map fun b => hdT b.2).Pairwise fun x y => ¬ ltS y x := List.pairwise_map.mpr so
      have h2 : (cs.map fun b => hdT b.2).Nodup := by rw [hh']; exact nd'
      exact (h1.and h2).imp fun {a b} z => lt_of_nle z.1 z.2
    have eM : rs'.map (·.1) = M := ascS_ext asc' mdM.asc fun y => by rw [mdM.mem y]; exact (pm'.map (·.1)).mem_iff
    have eL := Ex.new (o := .lst (cs.map Prod.fst)) hl
    have hl1 : (upd H1 l (.lst (cs.map Prod.fst))) l = some (.lst (cs.map Prod.fst)) := upd_same
    have prv := rd_fst eL pr'
    have e02 := e1.trans eL
    have len' : rs'.length ≤ 6 := by rw [pm'.length_eq]; exact few
    generalize upd H1 l (.lst (cs.map Prod.fst)) = G1 at hl1 e02 prv ⊢
    have lv := pr_len prv
    refine ⟨l, rfl, ⟨_, sq_of hl1⟩, fun D hD => walk_w (walk_list (K := K) (a := l) (xs := cs.map Prod.fst)) (fun i F => Ex G1 F ∧ ∃ kvs, F D = some (.dK kvs) ∧ KP Prod.fst (fun v (p : Rt) => Shp F v p.1 p.2) kvs (rs'.take i)) ⟨Ex.new hD, [], upd_same, .nil⟩ (fun i F _ p => sq_of (p.1 _ _ hl1)) (fun i x F F' hi p y => ?_) (fun F p => ?_)⟩
    · obtain ⟨eF, kvs, hFD, kp⟩ := p
      obtain ⟨rfl, hx⟩ := y
      obtain ⟨q, hq, sh⟩ := pr_get prv hx
      refine ⟨rfl, ?_⟩
      unfold tYes
      dsimp only
      rw [if_pos rfl]
      have hs := sh.mono eF
      obtain ⟨c, ts, rfl, hc⟩ := hs.head
      refine ⟨_, rfl, c, _, 0, _, rfl, rfl, st_of hc, atI_nat (j := 0) rfl, _, rfl, kvs, Sum.inr q.1, rfl, hFD, ?_, eF.mut hD, _, upd_same, ?_⟩
      · have := pr_len kp
        rw [List.length_take] at this
        exact sz_lt (by omega)
      · rw [List.take_succ, hq]
        have keep : ∀ {v : V} {m : Str} {told : List Str} {o : HO}, Shp F' v m told → Shp (upd F' D o) v m told := fun z => z.imp fun b ys hb => by
          rw [upd_ne (ne_of hb hFD (by intro z; cases z))]
          exact hb
        refine KP.snoc (KP.mono kp fun v p z => keep z) (keep hs) fun c hc z => ?_
        obtain ⟨n, hn⟩ := List.getElem?_of_mem hc
        have hn2 : n < i := by
          have h1 := (List.getElem?_eq_some_iff.mp hn).1
          have h2 := List.length_take_le i rs'
          omega
        rw [List.getElem?_take_of_lt hn2] at hn
        have e1 : (rs'.map (·.1))[n]? = some c.1 := by rw [List.getElem?_map, hn]; rfl
        have e2 : (rs'.map (·.1))[i]? = some q.1 := by rw [List.getElem?_map, hq]; rfl
        rw [z] at e1
        have := nd_ix nd' e1 e2
        omega
    · obtain ⟨eF, kvs, hFD, kp⟩ := p
      rw [lv, List.take_length] at kp
      refine ⟨D, kvs, rfl, hFD, fun o => k D o kvs rs' _ (e02.trans (eF.mut hD)) (fresh_back e02 hD) upd_same pm' eM (KP.mono kp fun v p z => z.imp fun b ys hb => ?_)⟩
      rw [upd_ne (ne_of hb hFD (by intro z; cases z))]
      exact hb
end
end Bl
namespace Bl
open PySem PySem.Spec PyProof.Rows L2 Bk Bm Evl Be Cr Bp TL Kr Ks
section
variable {P : Program} {w : World} {K : PySem.W.Frag} {mg : Str → Option Value} {base : Heap} {C fI pR fG fL fE : Addr}
theorem scToldMade : FnScope nTM ["book"] (defScope sToldMade) := ⟨rfl, rfl, rfl, by decide +kernel, rfl, by decide +kernel, by decide +kernel⟩
def spTM (C : Addr) : Sp := fun vs H Q _ => ∃ a t xs rs M, vs = [.ref a] ∧ BkAt H C a (.ref t) ∧ H t = some (.tup xs) ∧ Rs H xs rs ∧ Md rs M ∧ ∀ d o kvs H', Ex H H' → H d = none → H' d = some (.frz o (.dK kvs)) → ToldK H' (Ed rs) M kvs → Q (.ref d) H'
theorem ok_toldMade {f : Addr} {fd : FuncData} (F : Fun K "told_made" "told_made" sToldMade f fd) (T : Gv mg) (cB : Cal P w K mg base CX0 3 "rule_table" ["book"] (spTable C))
    (cP : Cal P w K mg base CX0 1 "told_paths" ["rule"] spTold) : FnOk P w K mg base CX0 4 f fd ["book"] (spTM C) := by
  refine F.ok scToldMade (fun vs H Q E h => ?_) (fun cdv A outer s H vs Q E hr h => ?_)
  · obtain ⟨a, t, xs, rs, M, rfl, _⟩ := h
    rfl
  · obtain ⟨a, t, xs, rs, M, rfl, b, ht, R, mdM, k⟩ := h
    have hu : (A.deeper (envOfC "told_made" (defScope sToldMade) s.heap.objs.size f cdv)).units + 1 < cLine := by have := hr.un; omega
    have hr1 : Room 1 _ := hr.mono (by decide)
    refine ⟨_, pss_cons (ps_set (i := 1) scToldMade.nd rfl (Or.inr rfl) (pe_call cB.F hr (by rfl) cB.g cB.kp cB.b .nil pass0 (pa_cons (pv 0) pa_nil)))
      (pss_one (ps_ret (pe_frz (pe_dc (own := [("made", 2), ("rule", 3)]) (g := gTup K 2 (gCons (gName 2) (gCons (gName 3) gNil))) (tt := tYes) rfl scToldMade.nd (pi_items (pv 1)) (blkOk_by (N := nTM) (sc := defScope sToldMade) (by decide +kernel))
        (fun _ _ _ _ _ => pg_tup rfl (pgs_cons (pg_name (i := 2) scToldMade.nd rfl (Or.inl rfl)) (pgs_cons (pg_name (i := 3) scToldMade.nd rfl (Or.inl rfl)) pgs_nil))) (fun _ _ _ _ _ => pts_nil) (fun _ _ _ _ _ => pv 2)
        (fun _ _ _ _ _ => pe_callB (r := rSrtX P w) (cr_srtX rfl rfl rfl) (by rfl) T.srt (by decide +kernel) (pa_cons (pe_scP (P := P) (w := w) (own := [("path", 4)]) (g := gName 4) rfl rfl rfl scToldMade.nd
          (pi_listK (K := K) rfl (pe_call cP.F hr1 (by rfl) cP.g cP.kp cP.b .nil pass0 (pa_cons (pv 3) pa_nil))) (blkOk_by (N := nTM) (by rfl))
          (fun _ _ _ _ _ => pg_name (i := 4) scToldMade.nd rfl (Or.inl rfl)) (fun _ _ _ _ _ => pts_one (pt_cmp (pc_din hu (pv 4) (pv 1)))) (fun _ _ _ _ _ => pv 4)) pa_nil)))))), ?_⟩
    have few := R.few
    refine q_raw ⟨_, rfl, a, t, xs, rs, M, rfl, b, ht, R, mdM, fun D oD kvs rs' G1 e02 hD0 hG1 pm' eM kp => ?_⟩
    show tRet _ _ ([some (.ref a), some (.ref D), none, none, none] : L2.St) G1
    have lkp := pr_len kp
    have len' := pm'.length_eq
    have memM : ∀ y, y ∈ rs'.map (·.1) ↔ y ∈ rs.map (·.1) := fun y => (pm'.map (·.1)).mem_iff
    refine ret_raw (frz_raw ⟨_, rfl, D, oD, kvs, rfl, hG1, fun D2 hD2 => walk_w (walk_items (kvs := kvs)) (fun i F => Ex G1 F ∧ ∃ kvs2, F D2 = some (.dK kvs2) ∧ KP (fun m => m) (fun v m => ∃ l, v = .ref l ∧ F l = some (.lst ((Gm.td M (Ed rs) m).map V.str))) kvs2 (M.take i))
      ⟨Ex.new hD2, [], upd_same, .nil⟩ (fun i F _ p => p.1 _ _ hG1) (fun i x F F' hi p y => ?_) (fun F p => ?_)⟩)
    · obtain ⟨eF, kvs2, hF2, kp2⟩ := p
      obtain ⟨T0, x0, y0, rfl, hT0, rfl, hx, hy⟩ := y
      dsimp only at hx hy
      obtain ⟨kv, hkv, ex0⟩ : ∃ kv, kvs[i]? = some kv ∧ x0 = kV kv.1 := by
        cases e : kvs[i]? with
        | none => rw [e] at hx; cases hx
        | some kv => rw [e] at hx; exact ⟨kv, rfl, (Option.some.inj hx).symm⟩
      rw [hkv] at hy
      have ey0 : y0 = kv.2 := (Option.some.inj hy).symm
      subst ey0
      obtain ⟨p, hp', hk1, sh0⟩ := pr_get kp hkv
      have hp := pm'.mem_iff.mp (List.mem_of_getElem? hp')
      have hm : M[i]? = some p.1 := by rw [← eM, List.getElem?_map, hp']; rfl
      subst ex0
      rw [hk1]
      have eT := Ex.new (o := .tup [kV (Sum.inr p.1), kv.2]) hT0
      replace hF2 := eT _ _ hF2
      replace kp2 : KP (fun m => m) (fun v m => ∃ l, v = V.ref l ∧ (upd F T0 (.tup [kV (Sum.inr p.1), kv.2])) l = some (.lst ((Gm.td M (Ed rs) m).map V.str))) kvs2 (M.take i) := KP.mono kp2 fun v m ⟨l, z, h⟩ => ⟨l, z, eT _ _ h⟩
      replace eF := eF.trans eT
      refine ⟨T0, _, rfl, SqT.of upd_same, rfl, _, _, rfl, _, _, rfl, rfl, ?_⟩
      generalize upd F T0 (.tup [kV (Sum.inr p.1), kv.2]) = F' at hF2 kp2 eF ⊢
      refine ⟨rfl, ?_⟩
      unfold tYes
      dsimp only
      rw [if_pos rfl]
      refine ⟨_, rfl, ?_⟩
      have sh := sh0.mono eF
      have hDF := eF _ _ hG1
      refine cb_raw (sc_lst_raw (call_raw (cons_raw ⟨_, rfl, ?_⟩)))
      refine ⟨kv.2, p.1, p.2, rfl, sh, fun l2 F2 hl2 e2 h2 => ?_⟩
      have pf := sh.few
      refine ⟨l2, rfl, ⟨_, sq_of h2⟩, fun D3 hD3 => walk_w (walk_list (K := K) (a := l2) (xs := p.2.map V.str)) (fun j F => Ex F2 F ∧ F D3 = some (SetX P w D3 ((p.2.take j).filter fun y => decide (y ∈ rs.map (·.1)))))
          ⟨Ex.new hD3, upd_same⟩ (fun j F _ q => sq_of (q.1 _ _ h2)) (fun j x F G hj q y => ?_) (fun F q => ?_)⟩
      · obtain ⟨eF2, hF3⟩ := q
        obtain ⟨rfl, hx2⟩ := y
        obtain ⟨y, hy, rfl⟩ : ∃ y, p.2[j]? = some y ∧ x = V.str y := by
          rw [List.getElem?_map] at hx2
          cases e : p.2[j]? with
          | none => rw [e] at hx2; cases hx2
          | some y => rw [e] at hx2; exact ⟨y, rfl, (Option.some.inj hx2).symm⟩
        refine ⟨rfl, ?_⟩
        have step : (p.2.take (j + 1)).filter (fun y => decide (y ∈ rs.map (·.1))) = (p.2.take j).filter (fun y => decide (y ∈ rs.map (·.1))) ++ if decide (y ∈ rs.map (·.1)) = true then [y] else [] := by
          rw [List.take_succ, hy, List.filter_append]
          congr 1
          show List.filter _ [y] = _
          rw [List.filter_cons]
          rfl
        have small : ((p.2.take j).filter fun y => decide (y ∈ rs.map (·.1))).length ≤ 4 := by
          have h3 := List.length_filter_le (fun y => decide (y ∈ rs.map (·.1))) (p.2.take j)
          have h4 := List.length_take_le' j p.2
          omega
        refine ⟨_, rfl, _, rfl, D, _, rfl, .inl ⟨kvs, Sum.inr y, .inr ⟨oD, eF2 _ _ (e2 _ _ hDF)⟩, rfl, rfl⟩, _, rfl, ?_⟩
        rcases kp.val y with ⟨p', hp', ey, v', hv', _⟩ | ⟨no, hv'⟩
        · rw [hv']
          have inM : y ∈ rs.map (·.1) := List.mem_map.mpr ⟨p', pm'.mem_iff.mp hp', ey⟩
          refine iteP rfl ⟨_, rfl, y, _, rfl, hF3, by unfold scanBound; omega, eF2.mut hD3, ?_⟩
          rw [upd_same, step, if_pos (decide_eq_true inM)]
        · rw [hv']
          have outM : ¬ y ∈ rs.map (·.1) := fun z => by
            obtain ⟨c, hc, ec⟩ := List.mem_map.mp z
            exact no c (pm'.mem_iff.mpr hc) ec
          refine iteN rfl ⟨eF2, ?_⟩
          rw [step, decide_eq_false outM, if_neg (by decide), List.append_nil]
          exact hF3
      · obtain ⟨eF2, hF3⟩ := q
        rw [List.length_map, List.take_length] at hF3
        have small : (p.2.filter fun y => decide (y ∈ rs.map (·.1))).length ≤ 4 := by
          have h3 := List.length_filter_le (fun y => decide (y ∈ rs.map (·.1))) p.2
          omega
        refine ⟨D3, _, rfl, hF3, by omega, fun zs p3 so3 nd3 mem3 hp3 => ?_⟩
        have ez : zs = Gm.td M (Ed rs) p.1 := by
          refine ascS_ext (asc_names so3 nd3) (mdM.asc.filter _) fun y => ?_
          rw [mem3, List.mem_filter, Gm.mem_td, mdM.mem y]
          unfold Ed
          rw [told_mem R.nd hp, decide_eq_true_eq, decide_eq_true_eq]
          exact And.comm
        subst ez
        have e3 := (e2.trans eF2).trans (Ex.new (o := .lst ((Gm.td M (Ed rs) p.1).map V.str)) hp3)
        refine ⟨kvs2, Sum.inr p.1, rfl, e3 _ _ hF2, ?_, (eF.trans e3).mut hD2, _, upd_same, ?_⟩
        · have := pr_len kp2
          rw [List.length_take] at this
          exact sz_lt (by omega)
        · rw [List.take_succ, hm]
          have nw : ∀ c ∈ M.take i, c ≠ p.1 := fun c hc z => by
            obtain ⟨n, hn⟩ := List.getElem?_of_mem hc
            have hn2 : n < i := by
              have h1 := (List.getElem?_eq_some_iff.mp hn).1
              have h2 := List.length_take_le i M
              omega
            rw [List.getElem?_take_of_lt hn2, z] at hn
            have := nd_ix mdM.asc.nodup hn hm
            omega
          refine KP.snoc (KP.mono kp2 fun v m ⟨l, z, h⟩ => ⟨l, z, lst_updD (e3 _ _ h) (e3 _ _ hF2)⟩) ⟨p3, rfl, lst_updD upd_same (e3 _ _ hF2)⟩ nw
    · obtain ⟨eF, kvs2, hF2, kp2⟩ := p
      have lM : M.length = kvs.length := by rw [← eM, List.length_map]; exact lkp.symm
      rw [← lM, List.take_length] at kp2
      refine ⟨D2, kvs2, rfl, hF2, fun o => k D2 o kvs2 _ (e02.trans (eF.mut hD2)) (fresh_back e02 hD2) upd_same ?_⟩
      exact KP.mono kp2 fun v m ⟨l, z, h⟩ => ⟨l, z, lst_updD h hF2⟩
end
end Bl
namespace Bl
open PySem PySem.Spec PyProof.Rows L2 Bk Bm Evl Be Cr Bp TL Kr Ks
abbrev sKeys : Stmt := top 30
section
variable {P : Program} {w : World} {K : PySem.W.Frag} {mg : Str → Option Value} {base : Heap}
theorem scKeys : FnScope ["value", "table", "thing"] ["value", "table"] (defScope sKeys) := ⟨rfl, rfl, rfl, by decide +kernel, rfl, by decide +kernel, by decide +kernel⟩
/-- the dict of told_made at d -/
def TdAt (H : Hp) (d : Addr) (E : Str → Str → Bool) (M : List Str) : Prop := ∃ o kvs, H d = some (.frz o (.dK kvs)) ∧ ToldK H E M kvs
theorem TdAt.mono {H G : Hp} {d : Addr} {E : Str → Str → Bool} {M : List Str} (e : Ex H G) (h : TdAt H d E M) : TdAt G d E M := by
  obtain ⟨o, kvs, h1, h2⟩ := h
  exact ⟨o, kvs, e _ _ h1, h2.mono e⟩
theorem TdAt.has {H : Hp} {d : Addr} {E : Str → Str → Bool} {M : List Str} (h : TdAt H d E M) (y : Str) : ∃ o, DGet H d (.str y) o ∧ o.isSome = decide (y ∈ M) := by
  obtain ⟨o, kvs, h1, h2⟩ := h
  refine ⟨_, .inl ⟨kvs, Sum.inr y, .inr ⟨o, h1⟩, rfl, rfl⟩, ?_⟩
  rcases h2.val y with ⟨b, hb, rfl, v, hv, _⟩ | ⟨no, hv⟩
  · rw [hv, decide_eq_true hb]
    rfl
  · rw [hv, decide_eq_false fun z => no y z rfl]
    rfl
theorem TdAt.get {H : Hp} {d : Addr} {E : Str → Str → Bool} {M : List Str} (h : TdAt H d E M) {m : Str} (hm : m ∈ M) : ∃ l, DGet H d (.str m) (some (.ref l)) ∧ H l = some (.lst ((Gm.td M E m).map V.str)) := by
  obtain ⟨o, kvs, h1, h2⟩ := h
  rcases h2.val m with ⟨b, hb, rfl, v, hv, l, rfl, hl⟩ | ⟨no, _⟩
  · exact ⟨l, .inl ⟨kvs, Sum.inr b, .inr ⟨o, h1⟩, rfl, hv.symm⟩, hl⟩
  · exact absurd rfl (no m hm)
def keysB (M ts : List Str) : Bool := ts.all (fun y => decide (y ∈ M)) && decide ts.Nodup
def spKeys : Sp := fun vs H Q _ => ∃ v d E M, vs = [v, .ref d] ∧ TdAt H d E M ∧ ((∃ n, Kd K H v n ∧ n ≠ "tuple" ∧ RetV (.bl false) H Q) ∨ (∃ a ts, v = .ref a ∧ Kd K H v "tuple" ∧ SqT K H a (ts.map V.str) ∧ ts.length ≤ 100 ∧ RetV (.bl (keysB M ts)) H Q) ∨
  (∃ a x n, v = .ref a ∧ Kd K H v "tuple" ∧ SqT K H a [x] ∧ Kd K H x n ∧ n ≠ "str" ∧ RetV (.bl false) H Q))
theorem ok_keys {f : Addr} {fd : FuncData} (F : Fun K "are_unlike_keys" "are_unlike_keys" sKeys f fd) (T : Gv mg) : FnOk P w K mg base CX0 1 f fd ["value", "table"] (spKeys (K := K)) := by
  refine F.ok scKeys (fun vs H Q E h => ?_) (fun cdv A outer s H vs Q E hr h => ?_)
  · obtain ⟨v, d, E, M, rfl, _⟩ := h
    rfl
  · obtain ⟨v, d, E, M, rfl, td, h⟩ := h
    have hu : (A.deeper (envOfC "are_unlike_keys" (defScope sKeys) s.heap.objs.size f cdv)).units + 1 < cLine := by have := hr.un; omega
    refine ⟨_, pss_cons (ps_if (pt_not (pt_val (pe_callB call_isi (by rfl) T.isi boot_isinstance (pa_cons (pv 0) (pa_cons (pe_bltn (v := .ty "tuple") (by rfl) T.tup (by decide +kernel) rfl) pa_nil))))) (pss_one (ps_ret pe_bl)) pss_nil)
      (pss_one (ps_ret (pe_and (pe_callB (cr_all rfl) (by rfl) T.all boot_all (pa_cons (pe_lc (own := [("thing", 2)]) (g := gName 2) (tt := tYes) rfl scKeys.nd (pi_tup (pv 0)) (blkOk_by (N := ["value", "table", "thing"]) (sc := defScope sKeys) (by decide +kernel))
          (fun _ _ _ _ _ => pg_name (i := 2) scKeys.nd rfl (Or.inl rfl)) (fun _ _ _ _ _ => pts_nil)
          (fun _ _ _ _ _ => pe_and (pe_callB (r := rIsi K) call_isi (by rfl) T.isi boot_isinstance (pa_cons (pv 2) (pa_cons (pe_bltn (v := .ty "str") (by rfl) T.str (by decide +kernel) rfl) pa_nil))) (pe_one (pe_cmp (pc_din hu (pv 2) (pv 1)))))) pa_nil))
        (pe_one (pe_cmpR op_eq (pe_callB call_lenX (by rfl) T.len PySem.boot_len (pa_cons (pe_callTy (cr_setXT rfl) (by rfl) T.set_ (by decide +kernel) (pa_cons (pv 0) pa_nil)) pa_nil)) (pe_callB call_len_seq (by rfl) T.len PySem.boot_len (pa_cons (pv 0) pa_nil)) (nomark _)))))), ?_⟩
    rcases h with ⟨n, kd, hn, k⟩ | ⟨a, ts, rfl, kd, hx, hl, k⟩ | ⟨a, x, n, rfl, kd, hx, kx, nx, k⟩
    · exact q_when (b := true) (et_is (et_not (et_B (ev_isi (ev_var rfl) ev_c kd (.inr rfl)))) (by simp [hn])) (fun _ H1 e1 => s_ret (v := .bl false) ev_c fun H2 e2 => k H2 (e1.trans e2)) (fun z => by cases z)
    · refine q_when (b := false) (et_is (et_not (et_B (ev_isi (ev_var rfl) ev_c kd (.inr rfl)))) (by simp)) (fun z => by cases z) (fun _ H1 e1 => ?_)
      refine s_ret (v := .bl (keysB M ts)) (ev_is (ev_and (a := (ts.map fun y => decide (y ∈ M)).all id) (b := decide ts.Nodup) (ev_all (ev_isL (el_lcT (K := K) (j := 2) (fun v => match v with | .str y => .bl (decide (y ∈ M)) | _ => .non) (ev_var (i := 0) (v := .ref a) rfl) (ex_t e1 hx) (by rw [List.length_map]; omega) (fun x H2 e2 hxm => ?_)) ?_)) (fun _ H2 e2 Q' q' => ?_)) ?_) fun H2 e2 => k H2 (e1.trans e2)
      · obtain ⟨y, hy, rfl⟩ := List.mem_map.mp hxm
        refine ev_is (ev_and (a := true) (b := decide (y ∈ M)) (ev_is (ev_isi (ev_var rfl) ev_c (kd_str y) (.inl rfl)) (by simp)) (fun _ H3 e3 Q' q' => ?_)) (by simp)
        obtain ⟨o, hg, ho⟩ := (td.mono ((e1.trans e2).trans e3)).has y
        refine ⟨_, rfl, _, rfl, d, o, rfl, hg, ?_⟩
        rw [ho]
        exact q' H3 (Ex.refl _)
      · rw [List.map_map, List.map_map]
        rfl
      · refine ⟨_, rfl, a, ts, rfl, ex_t (e1.trans e2) hx, by omega, fun S hS => ⟨S, ts, rfl, upd_same, by omega, fun n hn iff => ?_⟩⟩
        have e3 := Ex.new (o := SetX P w S ts) hS
        refine ⟨_, rfl, a, _, rfl, .inr (ex_t ((e1.trans e2).trans e3) hx), rfl, ?_⟩
        have e : decide (V.int (n : Int) = V.int ((ts.map V.str).length : Int)) = decide ts.Nodup := by
          rw [List.length_map]
          exact decide_eq_decide.mpr ⟨fun h => by injection h with h; exact iff.mp (by omega), fun h => by rw [iff.mpr h]⟩
        rw [e]
        exact q' _ e3
      · unfold keysB
        simp [List.all_map]
    · refine q_when (b := false) (et_is (et_not (et_B (ev_isi (ev_var rfl) ev_c kd (.inr rfl)))) (by simp)) (fun z => by cases z) (fun _ H1 e1 => ?_)
      refine s_ret (v := .bl false) (ev_is (ev_and (a := false) (b := false) (ev_is (ev_all (bs := [false]) (ev_isL (el_lcT (K := K) (j := 2) (fun _ => .bl false) (ev_var (i := 0) (v := .ref a) rfl) (ex_t e1 hx) (by show 1 ≤ 40000; decide) (fun y H2 e2 hy => ?_)) rfl)) rfl) (fun z => by cases z)) rfl) fun H2 e2 => k H2 (e1.trans e2)
      have : y = x := by simpa using hy
      subst this
      refine ev_is (ev_and (a := false) (b := false) (ev_is (ev_isi (ev_var rfl) ev_c (kx.mono (e1.trans e2)) (.inl rfl)) (by simp [nx])) (fun z => by cases z)) rfl
end
end Bl
namespace Bl
open PySem PySem.Spec PyProof.Rows L2 Bk Bm Evl Be Cr Bp TL Kr Ks
/-! rows of texts -/
def TupAt (G : Hp) (v : V) (t : List Str) : Prop := ∃ b, v = .ref b ∧ G b = some (.tup (t.map V.str))
section
variable {H G : Hp} {v : V} {t : List Str}
theorem TupAt.mono (e : Ex H G) (h : TupAt H v t) : TupAt G v t := by
  obtain ⟨b, z, h⟩ := h
  exact ⟨b, z, e _ _ h⟩
theorem TupAt.updL {D : Addr} {xs : List V} {o : HO} (h : TupAt H v t) (hD : H D = some (.lst xs)) : TupAt (upd H D o) v t := by
  obtain ⟨b, z, h⟩ := h
  exact ⟨b, z, by rw [upd_ne (ne_of h hD (by intro z; cases z))]; exact h⟩
theorem flatMap_len {α β : Type} {f : α → List β} {c : Nat} : ∀ {l : List α}, (∀ x ∈ l, (f x).length ≤ c) → (l.flatMap f).length ≤ l.length * c
  | [], _ => by simp
  | x :: r, h => by
    have ih := flatMap_len (l := r) fun y hy => h y (List.mem_cons_of_mem _ hy)
    have h1 := h x List.mem_cons_self
    rw [List.flatMap_cons, List.length_append, List.length_cons, Nat.succ_mul]
    omega
theorem tups_len {M : List Str} (h6 : M.length ≤ 6) : ∀ k, (Gm.tups M k).length ≤ 6 ^ k
  | 0 => Nat.le_refl _
  | k + 1 => by
    have h := flatMap_len (l := Gm.tups M k) (f := fun t => (M.filter fun x => decide (x ∉ t)).map fun x => t ++ [x]) (c := 6) fun t _ => by
      rw [List.length_map]
      exact Nat.le_trans (List.length_filter_le _ _) h6
    have ih := tups_len h6 k
    show ((Gm.tups M k).flatMap _).length ≤ _
    rw [Nat.pow_succ]
    omega
theorem pow_small : ∀ k, k ≤ 6 → 6 ^ k ≤ 46656 := by decide
theorem at_neg {xs : List V} {v : V} (h : xs.getLast? = some v) : atI xs (-1) = some v := by
  obtain ⟨ys, rfl⟩ := List.getLast?_eq_some_iff.mp h
  exact atI_last ys v
theorem take_flat {α β : Type} {f : α → List β} {l : List α} {i : Nat} {x : α} (h : l[i]? = some x) : (l.take (i + 1)).flatMap f = (l.take i).flatMap f ++ f x := by
  rw [List.take_succ, h, List.flatMap_append]
  simp
end
abbrev sRing : Stmt := top 21
abbrev nRing : List Str := ["book", "told", "rows", "made", "row", "path"]
def nxt (M : List Str) (E : Str → Str → Bool) (t : List Str) : List (List Str) := ((Gm.td M E (t.getLast?.getD default)).filter fun x => decide (x ∉ t)).map fun x => t ++ [x]
theorem key_raw {td : TE} {g : TG} {tt : TT} {te : TE} {vs : List Nat} {σ : L2.St} {H : Hp} {Q : VK} (h : td σ H fun x H1 => tLc (iKeys (tC x)) g tt te vs σ H1 Q) : tLc (iKeys td) g tt te vs σ H Q := h
theorem lc2_raw {K : PySem.W.Frag} {tl : TE} {g : TG} {tt : TT} {wi1 : TI} {g1 : TG} {tt1 : TT} {te : TE} {vs vs1 : List Nat} {σ : L2.St} {H : Hp} {Q : VK} (h : tl σ H fun x H1 => tLc2 (iList K (tC x)) g tt wi1 g1 tt1 te vs vs1 σ H1 Q) :
    tLc2 (iList K tl) g tt wi1 g1 tt1 te vs vs1 σ H Q := h
theorem lin_raw {K : PySem.W.Frag} {tl : TE} {σ : L2.St} {H : Hp} {R : It → Hp → Prop} (h : tl σ H fun x H1 => iList K (tC x) σ H1 R) : iList K tl σ H R := h
theorem inV_str (y : Str) (l : List Str) : inV (.str y) (l.map V.str) = decide (y ∈ l) := by
  unfold inV
  rw [List.any_map]
  induction l with
  | nil => simp
  | cons x r ih =>
    have e : eqV (V.str x) (V.str y) = decide (x = y) := rfl
    rw [List.any_cons, ih]
    show (eqV (V.str x) (V.str y) || decide (y ∈ r)) = _
    rw [e]
    by_cases c : x = y
    · subst c
      simp
    · have c2 : ¬ y = x := fun z => c z.symm
      simp [c, c2]
theorem flat_strs (l : List Str) : (l.map V.str).all flatV = true := by
  rw [List.all_eq_true]
  intro v hv
  obtain ⟨y, _, rfl⟩ := List.mem_map.mp hv
  rfl
theorem TdAt.ev {H : Hp} {d : Addr} {E : Str → Str → Bool} {M : List Str} {σ : L2.St} {td ty : TE} {m : Str} (h : TdAt H d E M) (hm : m ∈ M) (h1 : Ev td σ H (.ref d)) (h2 : Ev ty σ H (.str m)) : ∃ l, H l = some (.lst ((Gm.td M E m).map V.str)) ∧ Ev (tDGet td ty) σ H (.ref l) := by
  obtain ⟨l, g, hl⟩ := h.get hm
  obtain ⟨o, kvs, k1, k2⟩ := h
  refine ⟨l, hl, fun H1 e Q q => h1 H1 e _ fun H2 e2 => h2 H2 (e.trans e2) _ fun H3 e3 => ⟨d, .ref l, rfl, ?_, q H3 (e2.trans e3)⟩⟩
  have e13 := (e.trans e2).trans e3
  rcases k2.val m with ⟨b, hb, rfl, v, hv, l', rfl, hl'⟩ | ⟨no, _⟩
  · have el : l' = l := by
      rcases g with ⟨kvs', key, rd, ek, er⟩ | ⟨kvs', key, b', rd, ek, _⟩
      · cases key with
        | inl z => cases ek
        | inr z =>
          have ez : b = z := by injection ek
          subst ez
          have : kvs' = kvs := by
            rcases rd with rd | ⟨o', rd⟩
            · rw [k1] at rd; cases rd
            · rw [k1] at rd; cases rd; rfl
          subst this
          rw [hv] at er
          injection er with er
          injection er with er
          exact er.symm
      · cases ek
    subst el
    exact .inl ⟨kvs, Sum.inr b, .inr ⟨o, e13 _ _ k1⟩, rfl, hv.symm⟩
  · exact absurd rfl (no m hm)
section
variable {P : Program} {w : World} {K : PySem.W.Frag} {mg : Str → Option Value} {base : Heap} {C fI pR fG fL fE : Addr}
theorem scRing : FnScope nRing ["book"] (defScope sRing) := ⟨rfl, rfl, rfl, by decide +kernel, rfl, by decide +kernel, by decide +kernel⟩
/-- a book, told -/
def BkR (H : Hp) (C a : Addr) (rs : List Rt) (M : List Str) : Prop := ∃ t xs, BkAt H C a (.ref t) ∧ H t = some (.tup xs) ∧ Rs H xs rs ∧ Md rs M
theorem BkR.mono {H G : Hp} {a : Addr} {rs : List Rt} {M : List Str} (e : Ex H G) (h : BkR H C a rs M) : BkR G C a rs M := by
  obtain ⟨t, xs, b, ht, R, m⟩ := h
  exact ⟨t, xs, b.mono e, e _ _ ht, R.mono e, m⟩
/-- what a row of texts or None is, as it is given back -/
def RetR (o : Option (List Str)) (H : Hp) (Q : VK) : Prop := match o with
  | some t => ∀ c G, Ex H G → G c = some (.tup (t.map V.str)) → Q (.ref c) G
  | none => RetV .non H Q
def spRing (C : Addr) : Sp := fun vs H Q _ => ∃ a rs M, vs = [.ref a] ∧ BkR H C a rs M ∧ RetR (Gm.rings M (Ed rs) M.length).head? H Q
theorem ok_ring {f : Addr} {fd : FuncData} (F : Fun K "told_ring" "told_ring" sRing f fd) (T : Gv mg) (cB : Cal P w K mg base CX0 1 "check_book" ["value"] (spCkB C)) (cM : Cal P w K mg base CX0 4 "told_made" ["book"] (spTM C)) :
    FnOk P w K mg base CX0 5 f fd ["book"] (spRing C) := by
  refine F.ok scRing (fun vs H Q E h => ?_) (fun cdv A outer s H vs Q E hr h => ?_)
  · obtain ⟨a, rs, M, rfl, _⟩ := h
    rfl
  · obtain ⟨a, rs, M, rfl, ⟨t, xs, b, ht, R, mdM⟩, k⟩ := h
    have hu : (A.deeper (envOfC "told_ring" (defScope sRing) s.heap.objs.size f cdv)).units + 1 < cLine := by have := hr.un; omega
    have hr1 : Room 1 _ := hr.mono (by decide)
    refine ⟨_, pss_cons (ps_expr (pe_call cB.F hr1 (by rfl) cB.g cB.kp cB.b .nil pass0 (pa_cons (pv 0) pa_nil)))
      (pss_cons (ps_set (i := 1) scRing.nd rfl (Or.inr rfl) (pe_call cM.F hr (by rfl) cM.g cM.kp cM.b .nil pass0 (pa_cons (pv 0) pa_nil)))
      (pss_cons (ps_setLc (i := 2) (own := [("made", 3)]) (g := gName 3) (tt := tYes) rfl scRing.nd rfl rfl rfl (pi_keys (pv 1)) (blkOk_by (N := nRing) (sc := defScope sRing) (by decide +kernel))
          (fun _ _ _ _ _ => pg_name (i := 3) scRing.nd rfl (Or.inl rfl)) (fun _ _ _ _ _ => pts_nil) (fun _ _ _ _ _ => pe_tup (pa_cons (pv 3) pa_nil)))
      (pss_cons (ps_while PassesOwn.never (pt_truth (pv 2) (by intro _; rfl))
        (pss_cons (ps_for PassesOwn.never rfl (pi_list (pv 2)) (pg_name (i := 4) scRing.nd rfl (Or.inl rfl))
          (pss_one (ps_if (pt_cmpR op_in_seq (pe_ix ix_tup (pv 4) pe_int (fun _ _ => rfl)) (pe_dget hu (pv 1) (pe_ix ix_tup (pv 4) (pe_un un_neg pe_int) (fun _ _ => rfl)) (fun _ _ => rfl)) rfl) (pss_one (ps_ret (pv 4))) pss_nil)))
        (pss_one (ps_setLc2 (i := 2) (own := [("row", 4), ("path", 5)]) (vs1 := [5]) (g := gName 4) (g1 := gName 5) (tt := tYes) rfl scRing.nd rfl rfl rfl (pi_list (pv 2)) (blkOk_by (N := nRing) (sc := defScope sRing) (by decide +kernel)) (by decide)
          (fun _ _ _ _ _ => pg_name (i := 4) scRing.nd rfl (Or.inl rfl)) (fun _ _ _ _ _ => pts_nil)
          (fun _ _ _ _ _ => pi_listK (K := K) rfl (pe_dget hu (pv 1) (pe_ix (r := rIxT K) ix_tup (pv 4) (pe_un un_neg pe_int) (fun _ _ => rfl)) (fun _ _ => rfl)))
          (fun _ _ _ _ _ => pg_name (i := 5) scRing.nd rfl (Or.inl rfl)) (fun _ _ _ _ _ => pts_one (pt_cmpR (r := rIn K true) op_notIn_seq (pv 5) (pv 4) rfl))
          (fun _ _ _ _ _ => pe_op (r := rCatA K) op_catA (pv 4) (pe_tup (pa_cons (pv 5) pa_nil)))))))
      (pss_one (ps_ret pe_non))))), ?_⟩
    refine q_drop (v := .non) (ev_call (ea_cons (ev_var rfl) ea_nil) fun H1 e1 Q' q' E' => ⟨a, _, rfl, b.mono e1, q'⟩) fun H1 e1 => ?_
    refine q_raw ?_
    refine ⟨_, rfl, a, t, xs, rs, M, rfl, b.mono e1, e1 _ _ ht, R.mono e1, mdM, fun d o kvs H2 e2 hd0 hd2 tk => ?_⟩
    have td2 : TdAt H2 d (Ed rs) M := ⟨o, kvs, hd2, tk⟩
    have e02 := e1.trans e2
    have h6 := mdM.few R.few
    have nd := mdM.asc.nodup
    show tSeq (tAsg _ (gName 2)) _ _ ([some (.ref a), some (.ref d), none, none, none, none] : L2.St) H2
    -- rows of one
    refine q_raw ?_
    refine ⟨_, rfl, d, o, rfl, .inl ⟨kvs, hd2, fun D hD => walk_w (walk_keys (kvs := kvs)) (fun i G => Ex H2 G ∧ ∃ vs, G D = some (.lst vs) ∧ Paired (TupAt G) vs ((M.take i).map fun m => [m])) ⟨Ex.new hD, [], upd_same, .nil⟩ (fun i G _ p => p.1 _ _ hd2) (fun i x G G' hi p y => ?_) (fun G p => ?_)⟩⟩
    · obtain ⟨eG, vs, hGD, pt⟩ := p
      obtain ⟨rfl, kk, vv, hk, rfl⟩ := y
      obtain ⟨m, hm, ek, _⟩ := pr_get tk hk
      have ek' : kk = Sum.inr m := ek
      subst ek'
      refine ⟨rfl, ?_⟩
      unfold tYes
      dsimp only
      rw [if_pos rfl]
      refine ⟨_, rfl, by show 1 ≤ sizeLine; decide, fun Tn hT => ?_⟩
      have eT := Ex.new (o := .tup [V.str m]) hT
      have pl := pr_len pt
      rw [List.length_map, List.length_take] at pl
      refine ⟨vs, eT _ _ hGD, sz_lt (by omega), (eG.trans eT).mut hD, _, upd_same, ?_⟩
      rw [List.take_succ, hm, List.map_append]
      refine pr_app (pr_mono pt fun _ _ z => (z.mono eT).updL (eT _ _ hGD)) (.cons ⟨Tn, rfl, ?_⟩ .nil)
      rw [upd_ne (ne_of_none hGD hT).symm, upd_same]
      rfl
    obtain ⟨eG, vs, hGD, pt⟩ := p
    have lk := pr_len tk
    rw [lk, List.take_length, ← Gm.paths_one (E := Ed rs)] at pt
    show tSeq _ _ _ ([some (.ref a), some (.ref d), some (.ref D), none, none, none] : L2.St) G
    refine q_while (fun m σ' F => ∃ k l vs u, m + k = M.length ∧ σ' = [some (.ref a), some (.ref d), some (.ref l), none, u, none] ∧ Ex H F ∧ TdAt F d (Ed rs) M ∧ F l = some (.lst vs) ∧ Paired (TupAt F) vs ((Gm.tups M (k + 1)).filter (Gm.path (Ed rs))) ∧ ∀ j, j < k → (Gm.tups M (j + 1)).filter (Gm.ring (Ed rs)) = [])
      M.length ⟨0, D, vs, none, rfl, rfl, e02.trans eG, td2.mono eG, hGD, pt, fun j z => (by cases z)⟩ (fun m σ' F q => ?_)
    obtain ⟨k0, l, vs, u, hmk, rfl, eF, tdF, hl, pt, before⟩ := q
    refine ⟨!vs.isEmpty, fun F1 e Q q => ⟨_, rfl, _, .inl ⟨vs, sq_of (e _ _ hl), rfl⟩, q F1 (Ex.refl _)⟩, fun hb F1 eF1 => ?_, fun hb F1 eF1 => ?_⟩
    · -- a turn
      have pl := pr_len pt
      have hne : (Gm.tups M (k0 + 1)).filter (Gm.path (Ed rs)) ≠ [] := fun z => by
        rw [z] at pt
        cases pt
        cases hb
      obtain ⟨t0, ht0⟩ := List.exists_mem_of_ne_nil _ hne
      have hk1 := Gm.len_tups nd (List.mem_filter.mp ht0).1
      have small : ((Gm.tups M (k0 + 1)).filter (Gm.path (Ed rs))).length ≤ 46656 := by
        have h1 := List.length_filter_le (Gm.path (Ed rs)) (Gm.tups M (k0 + 1))
        have h2 := tups_len h6 (k0 + 1)
        have h3 := pow_small (k0 + 1) (by omega)
        omega
      have shape : ∀ t ∈ (Gm.tups M (k0 + 1)).filter (Gm.path (Ed rs)), ∃ h0 l0, t.head? = some h0 ∧ t.getLast? = some l0 ∧ h0 ∈ M ∧ l0 ∈ M ∧ t ≠ [] ∧ t.length ≤ 6 := fun t ht => by
        obtain ⟨t1, t2, t3⟩ := (Gm.mem_tups nd).mp (List.mem_filter.mp ht).1
        obtain ⟨l0, hl0, hm0⟩ := Gm.last_of t3
        cases t with
        | nil => cases t3
        | cons h0 r => exact ⟨h0, l0, rfl, hl0, t2 h0 List.mem_cons_self, t2 l0 hm0, by simp, by omega⟩
      have nextEq := Gm.paths_next (E := Ed rs) nd k0
      have first := fun t ht => Gm.ring_first (E := Ed rs) (t := t) nd ht before
      have ringEq := Gm.ring_filter (M := M) (E := Ed rs) (k0 + 1)
      generalize hrows : (Gm.tups M (k0 + 1)).filter (Gm.path (Ed rs)) = rows at pt pl hne ht0 small shape nextEq first ringEq
      refine ⟨fun σ2 F2 => ∃ l vs u, σ2 = [some (.ref a), some (.ref d), some (.ref l), none, u, none] ∧ Ex H F2 ∧ TdAt F2 d (Ed rs) M ∧ F2 l = some (.lst vs) ∧ Paired (TupAt F2) vs (rows.flatMap (nxt M (Ed rs))) ∧ rows.filter (Gm.closes (Ed rs)) = [], fun σ2 F2 ⟨l2, vs2, u2, z1, z2, z3, z4, z5, z6⟩ => ⟨m - 1, by omega, k0 + 1, l2, vs2, u2, by omega, z1, z2, z3, z4, ?_, fun j hj => ?_⟩, ?_⟩
      · rw [nextEq]
        exact z5
      · by_cases c : j < k0
        · exact before j c
        · have : j = k0 := by omega
          subst this
          rw [ringEq]
          exact z6
      have eF1' := eF.trans eF1
      have td1 := tdF.mono eF1
      have hl1 := eF1 _ _ hl
      have pt1 : Paired (TupAt F1) vs rows := pr_mono pt fun _ _ z => z.mono eF1
      refine seq_raw ?_
      refine ⟨_, rfl, l, rfl, ⟨vs, sq_of hl1⟩, for_list (K := K) (xs := vs) (fun i σ' F => (∃ u, σ' = [some (.ref a), some (.ref d), some (.ref l), none, u, none]) ∧ Ex F1 F ∧ (rows.take i).filter (Gm.closes (Ed rs)) = []) ⟨⟨u, rfl⟩, Ex.refl _, rfl⟩ (fun i σ' F _ q => sq_of (q.2.1 _ _ hl1)) (fun i x σ' F hi q => ?_) (fun σ' F q => ?_)⟩
      · obtain ⟨⟨u, rfl⟩, e3, none3⟩ := q
        obtain ⟨t1, hr1, c, rfl, hc⟩ := pr_get pt1 hi
        obtain ⟨h0, l0, hh, hlast, hM0, lM0, tne, _⟩ := shape t1 (List.mem_of_getElem? hr1)
        have hc3 := e3 _ _ hc
        show tIfS _ _ tNext _ ([some (.ref a), some (.ref d), some (.ref l), none, some (.ref c), none] : L2.St) F
        have a0 : atI (t1.map V.str) 0 = some (.str h0) := atI_nat (j := 0) (by rw [List.getElem?_map, ← List.head?_eq_getElem?, hh]; rfl)
        have a1 : atI (t1.map V.str) (-1) = some (.str l0) := at_neg (by rw [List.getLast?_map, hlast]; rfl)
        obtain ⟨l1, hl1', ev1⟩ := TdAt.ev (σ := [some (.ref a), some (.ref d), some (.ref l), none, some (.ref c), none]) (td := tVar 1) (ty := tOp (rIxT K) (tVar 4) (tUn (rU fun i => .int (-i)) (tC (.int 1)))) (td1.mono e3) lM0 (ev_var rfl) (ev_op (ev_var rfl) (ev_un ev_c ru_neg) (rv_ixT (st_of hc3) a1))
        have clo : Gm.closes (Ed rs) t1 = inV (.str h0) ((Gm.td M (Ed rs) l0).map V.str) := by
          rw [inV_str]
          unfold Gm.closes
          rw [hh, hlast]
          show Ed rs l0 h0 = _
          cases c : Ed rs l0 h0 with
          | true => exact (decide_eq_true (Gm.mem_td.mpr ⟨hM0, c⟩)).symm
          | false => exact (decide_eq_false fun z => by have := (Gm.mem_td.mp z).2; rw [c] at this; cases this).symm
        refine s_when (b := Gm.closes (Ed rs) t1) (et_is (et_test (ev_op (ev_op (ev_var rfl) ev_c (rv_ixT (st_of hc3) a0)) ev1 (rv_isL (sq_of hl1') rfl (flat_strs _)))) clo.symm) (fun hb2 F4 e4 => ?_) (fun hb2 F4 e4 => ?_)
        · have hd : (rows.filter (Gm.closes (Ed rs))).head? = some t1 := by
            have e5 : rows = rows.take i ++ t1 :: rows.drop (i + 1) := by
              have h8 : i < rows.length := (List.getElem?_eq_some_iff.mp hr1).1
              have h9 : rows[i] = t1 := (List.getElem?_eq_some_iff.mp hr1).2
              rw [← h9, List.getElem_cons_drop, List.take_append_drop]
            rw [e5, List.filter_append, none3, List.nil_append, List.filter_cons, if_pos hb2]
            rfl
          rw [first t1 hd] at k
          exact ⟨_, rfl, k c F4 ((eF1'.trans e3).trans e4) (e4 _ _ hc3)⟩
        · refine ⟨⟨_, rfl⟩, e3.trans e4, ?_⟩
          rw [List.take_succ, hr1, List.filter_append, none3, List.nil_append]
          show List.filter _ [t1] = []
          rw [List.filter_cons, hb2, if_neg (by decide)]
          rfl
      · obtain ⟨⟨u, rfl⟩, e3, none3⟩ := q
        rw [pl, List.take_length] at none3
        have td3 := td1.mono e3
        have hl3 := e3 _ _ hl1
        have pt3 : Paired (TupAt F) vs rows := pr_mono pt1 fun _ _ z => z.mono e3
        dsimp only
        refine s_raw ?_
        refine ⟨_, rfl, l, rfl, ⟨vs, sq_of hl3⟩, fun D2 hD2 => walk_w (walk_list (K := K) (a := l) (xs := vs)) (fun i F2 => Ex F F2 ∧ ∃ ws, F2 D2 = some (.lst ws) ∧ Paired (TupAt F2) ws ((rows.take i).flatMap (nxt M (Ed rs)))) ⟨Ex.new hD2, [], upd_same, .nil⟩ (fun i F2 _ q => sq_of (q.1 _ _ hl3)) (fun i x F2 F2' hi q y => ?_) (fun F2 q => ?_)⟩
        · obtain ⟨e4, ws, hws, pw⟩ := q
          obtain ⟨rfl, hx⟩ := y
          obtain ⟨t1, hr1, c, rfl, hc⟩ := pr_get pt3 hx
          obtain ⟨h0, l0, hh, hlast, hM0, lM0, tne, tl6⟩ := shape t1 (List.mem_of_getElem? hr1)
          have hc4 := e4 _ _ hc
          refine ⟨rfl, ?_⟩
          unfold tYes
          dsimp only
          rw [if_pos rfl]
          show iList K _ ([some (.ref a), some (.ref d), some (.ref l), none, some (.ref c), none] : L2.St) F2' _
          have a1 : atI (t1.map V.str) (-1) = some (.str l0) := at_neg (by rw [List.getLast?_map, hlast]; rfl)
          obtain ⟨l1, hl1', ev1⟩ := TdAt.ev (σ := [some (.ref a), some (.ref d), some (.ref l), none, some (.ref c), none]) (td := tVar 1) (ty := tOp (rIxT K) (tVar 4) (tUn (rU fun i => .int (-i)) (tC (.int 1)))) td3 lM0 (ev_var rfl) (ev_op (ev_var rfl) (ev_un ev_c ru_neg) (rv_ixT (st_of hc) a1))
          refine lin_raw (ev1 F2' e4 _ fun F3 e5 => ?_)
          have hl5 := (e4.trans e5) _ _ hl1'
          have tds : (Gm.td M (Ed rs) l0).length ≤ 6 := Nat.le_trans (List.length_filter_le _ _) h6
          have base : ((rows.take i).flatMap (nxt M (Ed rs))).length ≤ 46656 * 6 := by
            have h1 := flatMap_len (l := rows.take i) (f := nxt M (Ed rs)) (c := 6) fun t _ => by
              unfold nxt
              rw [List.length_map]
              exact Nat.le_trans (List.length_filter_le _ _) (Nat.le_trans (List.length_filter_le _ _) h6)
            have h2 := List.length_take_le' i rows
            omega
          refine ⟨l1, rfl, ⟨_, sq_of hl5⟩, walk_w (walk_list (K := K) (a := l1) (xs := (Gm.td M (Ed rs) l0).map V.str)) (fun j F4 => Ex F F4 ∧ ∃ ws, F4 D2 = some (.lst ws) ∧ Paired (TupAt F4) ws ((rows.take i).flatMap (nxt M (Ed rs)) ++ (((Gm.td M (Ed rs) l0).take j).filter fun x => decide (x ∉ t1)).map fun x => t1 ++ [x]))
            ⟨e4.trans e5, ws, e5 _ _ hws, by simpa using pr_mono pw fun _ _ z => z.mono e5⟩ (fun j F4 _ q => sq_of (q.1 _ _ hl1')) (fun j x F4 F4' hj q y => ?_) (fun F4 q => ?_)⟩
          · obtain ⟨e6, ws6, hws6, pw6⟩ := q
            obtain ⟨rfl, hx2⟩ := y
            obtain ⟨y, hy, rfl⟩ : ∃ y, (Gm.td M (Ed rs) l0)[j]? = some y ∧ x = V.str y := by
              rw [List.getElem?_map] at hx2
              cases e : (Gm.td M (Ed rs) l0)[j]? with
              | none => rw [e] at hx2; cases hx2
              | some y => rw [e] at hx2; exact ⟨y, rfl, (Option.some.inj hx2).symm⟩
            refine ⟨rfl, ?_⟩
            have hc6 := e6 _ _ hc
            have lw := pr_len pw6
            have small7 : ws6.length ≤ 46656 * 6 + 6 := by
              have h3 := List.length_filter_le (fun x => decide (x ∉ t1)) ((Gm.td M (Ed rs) l0).take j)
              have h4 := List.length_take_le' j (Gm.td M (Ed rs) l0)
              rw [lw, List.length_append, List.length_map]
              omega
            have step : (((Gm.td M (Ed rs) l0).take (j + 1)).filter fun x => decide (x ∉ t1)).map (fun x => t1 ++ [x]) = (((Gm.td M (Ed rs) l0).take j).filter fun x => decide (x ∉ t1)).map (fun x => t1 ++ [x]) ++ if decide (y ∉ t1) = true then [t1 ++ [y]] else [] := by
              rw [List.take_succ, hy, List.filter_append, List.map_append]
              congr 1
              show (List.filter _ [y]).map _ = _
              rw [List.filter_cons]
              split <;> rfl
            have tst : EvT (tTest (tOp (rIn K true) (tVar 5) (tVar 4))) ([some (.ref a), some (.ref d), some (.ref l), none, some (.ref c), some (.str y)] : L2.St) F4' (decide (y ∉ t1)) :=
              et_is (et_test (ev_op (ev_var rfl) (ev_var rfl) (rv_niT (st_of hc6) rfl (flat_strs t1)))) (by rw [inV_str]; by_cases c : y ∈ t1 <;> simp [c])
            refine tst F4' (Ex.refl _) _ fun F5 e7 => ?_
            by_cases cy : y ∉ t1
            · refine iteP (decide_eq_true cy) (op_raw ⟨_, rfl, tup_raw ⟨_, rfl, by show 1 ≤ sizeLine; decide, fun Tn hT => ?_⟩⟩)
              have eT := Ex.new (o := .tup [V.str y]) hT
              refine ⟨c, Tn, t1.map V.str, [.str y], rfl, rfl, st_of (eT _ _ (e7 _ _ hc6)), st_of upd_same, by rw [List.length_map]; exact sz_of (by show t1.length + 1 ≤ _; omega), fun z => absurd (List.map_eq_nil_iff.mp z) tne, fun _ z => (by cases z), fun _ _ pn hpn => ?_⟩
              have e8 := (e7.trans eT).trans (Ex.new (o := .tup (t1.map V.str ++ [V.str y])) hpn)
              have hws8 := e8 _ _ hws6
              refine ⟨ws6, hws8, by rw [sizeLine_eq]; omega, (e6.trans e8).mut hD2, _, upd_same, ?_⟩
              rw [step, if_pos (decide_eq_true cy), ← List.append_assoc]
              refine pr_app (pr_mono pw6 fun _ _ z => (z.mono e8).updL hws8) (.cons (TupAt.updL ⟨pn, rfl, ?_⟩ hws8) .nil)
              rw [upd_same, List.map_append]
              rfl
            · refine iteN (decide_eq_false cy) ⟨e6.trans e7, ws6, e7 _ _ hws6, ?_⟩
              rw [step, decide_eq_false cy, if_neg (by decide), List.append_nil]
              exact pr_mono pw6 fun _ _ z => z.mono e7
          · obtain ⟨e6, ws6, hws6, pw6⟩ := q
            rw [List.length_map, List.take_length] at pw6
            refine ⟨e6, ws6, hws6, ?_⟩
            rw [take_flat hr1]
            have e9 : nxt M (Ed rs) t1 = ((Gm.td M (Ed rs) l0).filter fun x => decide (x ∉ t1)).map fun x => t1 ++ [x] := by
              unfold nxt
              rw [hlast]
              rfl
            rw [e9]
            exact pw6
        · obtain ⟨e4, ws, hws, pw⟩ := q
          rw [pl, List.take_length] at pw
          exact ⟨D2, ws, u, rfl, (eF1'.trans e3).trans e4, td3.mono e4, hws, pw, none3⟩
    · -- no more rows
      have hv : vs = [] := by
        cases vs with
        | nil => rfl
        | cons _ _ => cases hb
      subst hv
      have none0 : (Gm.tups M (k0 + 1)).filter (Gm.path (Ed rs)) = [] := by
        have := pr_len pt
        exact List.eq_nil_of_length_eq_zero (by simpa using this.symm)
      rw [Gm.no_ring nd none0 before M.length] at k
      exact k F1 (eF.trans eF1)
end
end Bl
namespace Gm
theorem zip_ring {α : Type} {E : α → α → Bool} : ∀ (r : List α) (a x : α) {l : α}, (a :: r).getLast? = some l → (((a :: r).zip (r ++ [x])).all fun p => E p.1 p.2) = (path E (a :: r) && E l x)
  | [], a, x, l, h => by
    have : a = l := by simpa using h
    subst this
    show (E a x && true) = (true && E a x)
    simp
  | b :: r, a, x, l, h => by
    have h2 : (b :: r).getLast? = some l := by simpa [List.getLast?_cons_cons] using h
    have ih := zip_ring (E := E) r b x h2
    show (E a b && (((b :: r).zip (r ++ [x])).all fun p => E p.1 p.2)) = ((E a b && path E (b :: r)) && E l x)
    rw [ih, Bool.and_assoc]
theorem ring_zip {α : Type} {E : α → α → Bool} {t : List α} (h : t ≠ []) : ring E t = ((t.zip (t.drop 1 ++ t.take 1)).all fun p => E p.1 p.2) := by
  cases t with
  | nil => exact absurd rfl h
  | cons a r =>
    cases hl : (a :: r).getLast? with
    | none => rw [List.getLast?_eq_none_iff] at hl; cases hl
    | some l =>
      have e := zip_ring (E := E) r a a hl
      show _ = (((a :: r).zip (r ++ [a])).all fun p => E p.1 p.2)
      rw [e]
      unfold ring closes
      rw [hl]
      rfl
end Gm
namespace Bl
open PySem PySem.Spec PyProof.Rows L2 Bk Bm Evl Be Cr Bp TL Kr Ks
abbrev sRR : Stmt := top 22
abbrev nRR : List Str := ["book", "value", "told", "made", "path"]
theorem lay_txts : ∀ {ys : List Str}, (∀ y ∈ ys, PyData.strOk y = true) → PyData.canLayAll0 (ys.map PyData.str) = true ∧ PyData.depthAll (ys.map PyData.str) ≤ 1
  | [], _ => ⟨rfl, by simp [PyData.depthAll]⟩
  | y :: r, h => by
    obtain ⟨i1, i2⟩ := lay_txts (ys := r) fun z hz => h z (List.mem_cons_of_mem _ hz)
    refine ⟨?_, ?_⟩
    · show (PyData.strOk y && PyData.canLayAll0 (r.map PyData.str)) = true
      rw [h y List.mem_cons_self, i1]
      rfl
    · simp only [List.map_cons, PyData.depthAll, PyData.depth] at i2 ⊢
      omega
theorem sh_txtT {zs : List Str} (h : ∀ z ∈ zs, PyData.strOk z = true) : SeqAt.shaped (.tuple (zs.map PyData.str)) = true := by
  obtain ⟨l1, l2⟩ := lay_txts h
  show (PyData.canLayAll0 (zs.map PyData.str) && decide (PyData.depth (.tuple (zs.map PyData.str)) ≤ 64)) = true
  rw [l1, decide_eq_true (by simp only [PyData.depth]; omega)]
  rfl
theorem sh_txtL {zs : List Str} (h : ∀ z ∈ zs, PyData.strOk z = true) : SeqAt.shaped (.list (zs.map PyData.str)) = true := by
  obtain ⟨l1, l2⟩ := lay_txts h
  show (PyData.canLayAll0 (zs.map PyData.str) && decide (PyData.depth (.list (zs.map PyData.str)) ≤ 64)) = true
  rw [l1, decide_eq_true (by simp only [PyData.depth]; omega)]
  rfl
theorem dp_txts (K : PySem.W.Frag) (G : Hp) : ∀ zs : List Str, DpAll K G (zs.map V.str) (zs.map PyData.str)
  | [] => .nil
  | z :: r => .cons (.str z) (dp_txts K G r)
theorem eqv_txts : ∀ (a b : List Str), PyData.eqvAll (a.map PyData.str) (b.map PyData.str) = decide (a = b)
  | [], [] => by simp [PyData.eqvAll]
  | [], _ :: _ => by simp [PyData.eqvAll]
  | _ :: _, [] => by simp [PyData.eqvAll]
  | x :: a, y :: b => by
    have ih := eqv_txts a b
    show (PyData.eqv (.str x) (.str y) && PyData.eqvAll (a.map PyData.str) (b.map PyData.str)) = _
    rw [ih]
    by_cases c : x = y
    · subst c
      simp [PyData.eqv]
    · simp [PyData.eqv, c]
theorem eqv_tup (a b : List Str) : PyData.eqv (.tuple (a.map PyData.str)) (.tuple (b.map PyData.str)) = decide (a = b) := by
  rw [PyData.eqv]
  exact eqv_txts a b
theorem zipc_raw {K : PySem.W.Frag} {ta tb te : TE} {g : TG} {tt : TT} {vs : List Nat} {σ : L2.St} {H : Hp} {Q : VK} (h : ta σ H fun x H1 => tb σ H1 fun y H2 => tLc (RZ.iZipA K (tCons (tC x) (tCons (tC y) tNil))) g tt te vs σ H2 Q) :
    tLc (RZ.iZipA K (tCons ta (tCons tb tNil))) g tt te vs σ H Q := h
theorem cat_go {K : PySem.W.Frag} {H : Hp} {a b : Addr} {xs ys : List V} {Q : VK} (ha : SqT K H a xs) (hb : SqT K H b ys) (hz : xs.length + ys.length ≤ 100000) (k : ∀ c G, Ex H G → SqT K G c (xs ++ ys) → Q (.ref c) G) : rCatA K (.ref a) (.ref b) H Q :=
  ⟨a, b, xs, ys, rfl, rfl, ha, hb, sz_of hz, fun z => k b H (Ex.refl _) (by rw [z]; exact hb), fun _ z => k a H (Ex.refl _) (by rw [z, List.append_nil]; exact ha), fun _ _ p hp => k p _ (Ex.new hp) (st_of upd_same)⟩
theorem five_strOk : ∀ y ∈ five, PyData.strOk y = true := fun y hy => (ten_ok y (five_ten y hy)).1.2
section
variable {P : Program} {w : World} {K : PySem.W.Frag} {mg : Str → Option Value} {base : Heap} {C fI pR fG fL fE : Addr}
theorem scRR : FnScope nRR ["book", "value"] (defScope sRR) := ⟨rfl, rfl, rfl, by decide +kernel, rfl, by decide +kernel, by decide +kernel⟩
/-- a value that is asked about -/
def AskV (K : PySem.W.Frag) (H : Hp) (v : V) (ans : List Str → Bool) (b : Bool) : Prop := (b = false ∧ ∃ n, Kd K H v n ∧ n ≠ "tuple") ∨ (∃ a ts, v = .ref a ∧ Kd K H v "tuple" ∧ SqT K H a (ts.map V.str) ∧ ts.length ≤ 100 ∧ b = ans ts) ∨
  (b = false ∧ ∃ a x n, v = .ref a ∧ Kd K H v "tuple" ∧ SqT K H a [x] ∧ Kd K H x n ∧ n ≠ "str")
theorem AskV.mono {H G : Hp} {v : V} {ans : List Str → Bool} {b : Bool} (e : Ex H G) (h : AskV K H v ans b) : AskV K G v ans b := by
  rcases h with ⟨h, n, k, hn⟩ | ⟨a, ts, h, k, hs, hl, hb⟩ | ⟨h, a, x, n, h1, h2, h3, h4, h5⟩
  · exact .inl ⟨h, n, k.mono e, hn⟩
  · exact .inr (.inl ⟨a, ts, h, k.mono e, ex_t e hs, hl, hb⟩)
  · exact .inr (.inr ⟨h, a, x, n, h1, h2.mono e, ex_t e h3, h4.mono e, h5⟩)
def ringV (rs : List Rt) (M ts : List Str) : Bool := keysB M ts && (decide (ts ≠ []) && Gm.ring (Ed rs) ts)
def spRR (C : Addr) : Sp := fun vs H Q _ => ∃ a rs M v b, vs = [.ref a, v] ∧ BkR H C a rs M ∧ (∀ y ∈ M, y ∈ five) ∧ AskV K H v (ringV rs M) b ∧ RetV (.bl b) H Q
theorem ok_rr {f : Addr} {fd : FuncData} (F : Fun K "right_ring" "right_ring" sRR f fd) (T : Gv mg) (cB : Cal P w K mg base CX0 1 "check_book" ["value"] (spCkB C)) (cM : Cal P w K mg base CX0 4 "told_made" ["book"] (spTM C))
    (cK : Cal P w K mg base CX0 1 "are_unlike_keys" ["value", "table"] (spKeys (K := K))) : FnOk P w K mg base CX0 5 f fd ["book", "value"] (spRR (K := K) C) := by
  refine F.ok scRR (fun vs H Q E h => ?_) (fun cdv A outer s H vs Q E hr h => ?_)
  · obtain ⟨a, rs, M, v, b, rfl, _⟩ := h
    rfl
  · obtain ⟨a, rs, M, v, b, rfl, ⟨t, xs, bk, ht, R, mdM⟩, h5, ask, k⟩ := h
    have hu : (A.deeper (envOfC "right_ring" (defScope sRR) s.heap.objs.size f cdv)).units + 64 < cLine := by have := hr.un; omega
    have hu1 : (A.deeper (envOfC "right_ring" (defScope sRR) s.heap.objs.size f cdv)).units + 1 < cLine := by omega
    have hr1 : Room 1 _ := hr.mono (by decide)
    refine ⟨_, pss_cons (ps_expr (pe_call cB.F hr1 (by rfl) cB.g cB.kp cB.b .nil pass0 (pa_cons (pv 0) pa_nil)))
      (pss_cons (ps_set (i := 2) scRR.nd rfl (Or.inr rfl) (pe_call cM.F hr (by rfl) cM.g cM.kp cM.b .nil pass0 (pa_cons (pv 0) pa_nil)))
      (pss_cons (ps_if (pw_or (pt_not (pt_val (pe_call cK.F hr1 (by rfl) cK.g cK.kp cK.b .nil pass0 (pa_cons (pv 1) (pa_cons (pv 2) pa_nil))))) (pw_or1 (pt_cmpR (op_eqD hu) (pv 1) (pe_tup pa_nil) (nomark _)))).pt (pss_one (ps_ret pe_bl)) pss_nil)
      (pss_one (ps_ret (pe_callB (cr_all rfl) (by rfl) T.all boot_all (pa_cons (pe_lc (own := [("made", 3), ("path", 4)]) (g := gTup K 2 (gCons (gName 3) (gCons (gName 4) gNil))) (tt := tYes) rfl scRR.nd
          (RZ.pi_zipA (by rfl) T.zip (pa_cons (pv 1) (pa_cons (pe_op op_catA (pe_slice sl_tupA (pv 1) (po_some pe_int) po_none) (pe_slice sl_tupA (pv 1) po_none (po_some pe_int))) pa_nil))) (blkOk_by (N := nRR) (sc := defScope sRR) (by decide +kernel))
          (fun _ _ _ _ _ => pg_tup rfl (pgs_cons (pg_name (i := 3) scRR.nd rfl (Or.inl rfl)) (pgs_cons (pg_name (i := 4) scRR.nd rfl (Or.inl rfl)) pgs_nil))) (fun _ _ _ _ _ => pts_nil)
          (fun _ _ _ _ _ => pe_cmpR (r := rIn K false) op_in_seq (pv 4) (pe_dget hu1 (pv 2) (pv 3) (fun _ _ => rfl)) rfl)) pa_nil)))))), ?_⟩
    refine q_drop (v := .non) (ev_call (ea_cons (ev_var rfl) ea_nil) fun H1 e1 Q' q' E' => ⟨a, _, rfl, bk.mono e1, q'⟩) fun H1 e1 => ?_
    refine q_raw ?_
    refine ⟨_, rfl, a, t, xs, rs, M, rfl, bk.mono e1, e1 _ _ ht, R.mono e1, mdM, fun d o kvs H2 e2 hd0 hd2 tk => ?_⟩
    have td2 : TdAt H2 d (Ed rs) M := ⟨o, kvs, hd2, tk⟩
    have e02 := e1.trans e2
    have h6 := mdM.few R.few
    show tSeq (tIfS _ _ _) _ _ ([some (.ref a), some v, some (.ref d), none, none] : L2.St) H2
    have no : ∀ (hb : b = false) (z : ∀ (H3 : Hp), Ex H2 H3 → ∀ Q' : VK, (∀ H4, Ex H3 H4 → Q' (.bl false) H4) → spKeys (K := K) [v, .ref d] H3 Q' E0), ∀ (tn : TT) (tu : TS) (De : Ends), De.rt = Q →
        tIfS (tOr (tNot (tB (tCall (spKeys (K := K)) [] E0 (tCons (tVar 1) (tCons (tVar 2) tNil))))) tn) (tRet (tC (.bl false))) tu De ([some (.ref a), some v, some (.ref d), none, none] : L2.St) H2 := fun hb z tn tu De eQ => by
      refine s_if (b := true) (et_is (et_or (a := true) (b := true) (et_is (et_not (a := false) (et_B (ev_call (z := .bl false) (ea_cons (ev_var rfl) (ea_cons (ev_var rfl) ea_nil)) fun H3 e3 Q' q' E' => ?_))) rfl) (fun z => by cases z)) rfl) (fun _ H3 e3 => ?_) (fun z => by cases z)
      · exact z H3 e3 Q' q'
      · refine s_ret (v := .bl false) ev_c fun H4 e4 => ?_
        rw [eQ, ← hb]
        exact k H4 ((e02.trans e3).trans e4)
    rcases ask with ⟨hb, n, kd, hn⟩ | ⟨c, ts, rfl, kd, hx, hl, hb⟩ | ⟨hb, c, x, n, rfl, kd, hx, kx, nx⟩
    · exact seq_raw (no hb (fun H3 e3 Q' q' => ⟨v, d, Ed rs, M, rfl, td2.mono e3, .inl ⟨n, kd.mono (e02.trans e3), hn, fun H4 e4 => q' H4 e4⟩⟩) _ _ _ rfl)
    · cases hk : keysB M ts with
      | false =>
        have hb' : b = false := by
          rw [hb]
          unfold ringV
          rw [hk]
          rfl
        exact seq_raw (no hb' (fun H3 e3 Q' q' => ⟨_, d, Ed rs, M, rfl, td2.mono e3, .inr (.inl ⟨c, ts, rfl, kd.mono (e02.trans e3), ex_t (e02.trans e3) hx, hl, by rw [hk]; exact fun H4 e4 => q' H4 e4⟩)⟩) _ _ _ rfl)
      | true =>
        have inM : ∀ y ∈ ts, y ∈ M := by
          unfold keysB at hk
          rw [Bool.and_eq_true, List.all_eq_true] at hk
          exact fun y hy => of_decide_eq_true (hk.1 y hy)
        have sOk : ∀ y ∈ ts, PyData.strOk y = true := fun y hy => five_strOk y (h5 y (inM y hy))
        refine q_when (b := decide (ts = [])) (et_is (et_or (a := false) (b := decide (ts = [])) (et_is (et_not (a := true) (et_B (ev_call (z := .bl true) (ea_cons (ev_var rfl) (ea_cons (ev_var rfl) ea_nil)) fun H3 e3 Q' q' E' =>
            ⟨_, d, Ed rs, M, rfl, td2.mono e3, .inr (.inl ⟨c, ts, rfl, kd.mono (e02.trans e3), ex_t (e02.trans e3) hx, hl, by rw [hk]; exact q'⟩)⟩))) rfl)
          (fun _ => et_is (et_test (ev_opU (ev_var rfl) (eu_tup ea_nil (by decide)) fun q H4 hq e4 H5 e5 Q' q' => ⟨.tuple (ts.map PyData.str), .tuple (([] : List Str).map PyData.str), .tup (ex_t ((e02.trans e4).trans e5) hx) (dp_txts K _ ts), .tup (st_of (e5 _ _ hq)) .nil, sh_txtT sOk, sh_txtT (zs := []) (fun _ z => by cases z), q' H5 (Ex.refl _)⟩)) (eqv_tup ts []))) (by simp)) (fun hb3 H3 e3 => ?_) (fun hb3 H3 e3 => ?_)
        · have hb' : b = false := by
            rw [hb]
            unfold ringV
            have : ts = [] := of_decide_eq_true hb3
            rw [this]
            rfl
          refine s_ret (v := .bl false) ev_c fun H4 e4 => ?_
          have := k H4 ((e02.trans e3).trans e4)
          rw [hb'] at this
          exact this
        · have hne : ts ≠ [] := of_decide_eq_false hb3
          have hb' : b = ((ts.zip (ts.drop 1 ++ ts.take 1)).map fun p => Ed rs p.1 p.2).all id := by
            rw [hb, List.all_map]
            unfold ringV
            rw [hk, decide_eq_true hne, Gm.ring_zip hne]
            rfl
          have hx3 := ex_t (e02.trans e3) hx
          have tl1 : 1 ≤ ts.length := List.length_pos_iff.mpr hne
          refine ret_raw (cb_raw (zipc_raw ⟨_, rfl, op_raw ?_⟩))
          refine slice_from (i := 1) (ev_var (i := 1) rfl) ev_c hx3 (by rw [List.length_map]; exact tl1) H3 (Ex.refl _) _ fun p1 H4 e4 hp1 => ?_
          refine slice_to (i := 1) (ev_var (i := 1) rfl) ev_c (ex_t e4 hx3) (by rw [List.length_map]; exact tl1) H4 (Ex.refl _) _ fun p2 H5 e5 hp2 => ?_
          refine cat_go (ex_t e5 hp1) hp2 (by rw [List.length_drop, List.length_take, List.length_map]; omega) fun c2 H6 e6 hc2 => ?_
          have hc2' : SqT K H6 c2 ((ts.drop 1 ++ ts.take 1).map V.str) := by
            rw [List.map_append, List.map_drop, List.map_take]
            exact hc2
          have lz : (ts.drop 1 ++ ts.take 1).length = ts.length := by
            rw [List.length_append, List.length_drop, List.length_take]
            omega
          have td6 := td2.mono ((e3.trans e4).trans (e5.trans e6))
          refine el_lcZ (K := K) (xs := ts.map V.str) (ys := (ts.drop 1 ++ ts.take 1).map V.str) (bs := (ts.zip (ts.drop 1 ++ ts.take 1)).map fun p => V.bl (Ed rs p.1 p.2)) (ea_cons ev_c (ea_cons ev_c ea_nil)) (ex_t ((e4.trans e5).trans e6) hx3) hc2' (by rw [List.length_map, List.length_map, lz]) (by rw [List.length_map]; omega) (by rw [List.length_map, List.length_zip, List.length_map, lz, Nat.min_self]) ?_ H6 (Ex.refl _) _ fun p H7 hp e7 h7 => ?_
          · intro i x y z H7 e7 hx7 hy7 hz7
            rw [List.getElem?_map] at hx7 hy7 hz7
            cases em : ts[i]? with
            | none => rw [em] at hx7; cases hx7
            | some m =>
              cases eq : (ts.drop 1 ++ ts.take 1)[i]? with
              | none => rw [eq] at hy7; cases hy7
              | some q =>
                rw [em] at hx7
                rw [eq] at hy7
                have ez : (ts.zip (ts.drop 1 ++ ts.take 1))[i]? = some (m, q) := List.getElem?_zip_eq_some.mpr ⟨em, eq⟩
                rw [ez] at hz7
                have ex7 : V.str m = x := Option.some.inj hx7
                have ey7 : V.str q = y := Option.some.inj hy7
                have ez7 : V.bl (Ed rs m q) = z := Option.some.inj hz7
                subst ex7 ey7 ez7
                have hm := inM m (List.mem_of_getElem? em)
                have hq : q ∈ M := by
                  rcases List.mem_append.mp (List.mem_of_getElem? eq) with h | h
                  · exact inM q (List.mem_of_mem_drop h)
                  · exact inM q (List.mem_of_mem_take h)
                obtain ⟨l, hl7, ev⟩ := TdAt.ev (σ := [some (.ref a), some (.ref c), some (.ref d), some (.str m), some (.str q)]) (td := tVar 2) (ty := tVar 3) (td6.mono e7) hm (ev_var rfl) (ev_var rfl)
                refine ev_is (ev_op (ev_var rfl) ev (rv_isL (sq_of hl7) rfl (flat_strs _))) ?_
                rw [inV_str]
                congr 1
                cases c : Ed rs m q with
                | true => exact decide_eq_true (Gm.mem_td.mpr ⟨hq, c⟩)
                | false => exact decide_eq_false fun z => by have := (Gm.mem_td.mp z).2; rw [c] at this; cases this
          · refine ⟨p, (ts.zip (ts.drop 1 ++ ts.take 1)).map fun p => Ed rs p.1 p.2, rfl, sq_of (by rw [h7, List.map_map]; rfl), ?_⟩
            rw [← hb']
            exact k H7 ((e02.trans e3).trans ((e4.trans e5).trans (e6.trans e7)))
    · exact seq_raw (no hb (fun H3 e3 Q' q' => ⟨_, d, Ed rs, M, rfl, td2.mono e3, .inr (.inr ⟨c, x, n, rfl, kd.mono (e02.trans e3), ex_t (e02.trans e3) hx, kx.mono (e02.trans e3), nx, fun H4 e4 => q' H4 e4⟩)⟩) _ _ _ rfl)
end
end Bl
namespace Bl
open PySem PySem.Spec PyProof.Rows L2 Bk Bm Evl Be Cr Bp TL Kr Ks
abbrev sOrder : Stmt := top 23
abbrev nOrder : List Str := ["book", "order"]
abbrev sLeast : Stmt := top 26
abbrev nLeast : List Str := ["needed", "order", "left", "key", "ready", "other"]
section
variable {X : Cx}
/-- len of a dict that is read -/
theorem call_lenF : CallR X (.builtin "len") (fun vs G Q => ∃ a kvs, vs = [V.ref a] ∧ Rd G a (.dK kvs) ∧ Q (.int kvs.length) G) := by
  intro pins s τ G vs us Q I rv h
  obtain ⟨a, kvs, rfl, hr, q⟩ := h
  obtain ⟨u, rfl, ru⟩ := vals1 rv
  cases ru
  have ok : kvs.length ≤ sizeLine ∧ (a == sysModules) = false ∧ ∃ vs, KV kvs vs ∧ s.heap.DictOf (mixKind X.prog X.w) a vs := by
    rcases hr with hr | ⟨o, hr⟩
    · exact I.hok a _ hr
    · exact (I.hok a _ hr).2
  obtain ⟨small, hm, ws, kv, hd⟩ := ok
  have len := kv.length
  refine call_len_dict hm hd (by rw [sizeLine_eq] at small; omega) ?_
  rw [← len]
  exact ⟨.int _, G, I.tok _, ⟨_, rfl⟩, q⟩
end
section
variable {K : PySem.W.Frag} {σ : L2.St} {H H' : Hp} {te : TE}
/-- over a list that is made on the way, with a test -/
theorem el_fS {j : Nat} {xs : List V} {tl : TE} {tt : TT} (kp : V → Bool) (val : V → V) (h : ∀ H1, Ex H H1 → ∀ Q : VK, (∀ a H2, Ex H1 H2 → SqL K H2 a xs → Q (.ref a) H2) → tl σ H1 Q) (hz : xs.length ≤ 40000)
    (ht : ∀ (x : V) H1, Ex H H1 → x ∈ xs → EvT tt (σ.set j (some x)) H1 (kp x)) (he : ∀ (x : V) H1, Ex H H1 → x ∈ xs → kp x = true → Ev te (σ.set j (some x)) H1 (val x)) :
    EvL (tLc (iList K tl) (gName j) tt te [j]) σ H ((xs.filter kp).map val) := fun H0 e Q q => h H0 e _ fun a H1 e1 hx => ⟨a, rfl, ⟨xs, hx⟩, fun D hD =>
  lc_it (walk_list (K := K) (a := a) (xs := xs)) (fun i G => Ex H1 G ∧ G D = some (.lst (((xs.take i).filter kp).map val))) ⟨Ex.new hD, by rw [upd_same]; rfl⟩ (fun i G _ p => ex_l p.1 hx) (by
    rintro i v G G' hi ⟨s1, hd⟩ ⟨rfl, hl⟩
    have ee : (wipe σ [j]).set j (some v) = σ.set j (some v) := by
      show (σ.set j none).set j (some v) = _
      rw [List.set_set]
    show wipe ((wipe σ [j]).set j (some v)) [j] = wipe σ [j] ∧ _
    rw [ee]
    refine ⟨by show (σ.set j _).set j none = σ.set j none; rw [List.set_set], ?_⟩
    have hm := List.mem_of_getElem? hl
    refine ht v G' ((e.trans e1).trans s1) hm G' (Ex.refl _) _ fun G2 e2 => ?_
    have step : (xs.take (i + 1)).filter kp = (xs.take i).filter kp ++ if kp v = true then [v] else [] := by
      rw [List.take_succ, hl, List.filter_append]
      congr 1
      show List.filter kp [v] = _
      rw [List.filter_cons]
      rfl
    cases hk : kp v with
    | false =>
      rw [if_neg (by decide)]
      refine ⟨s1.trans e2, ?_⟩
      rw [step, hk, if_neg (by decide), List.append_nil]
      exact e2 _ _ hd
    | true =>
      rw [if_pos rfl]
      refine he v G2 (((e.trans e1).trans s1).trans e2) hm hk G2 (Ex.refl _) _ fun G3 e3 => ⟨_, e3 D _ (e2 D _ hd), sz_lt ?_, ((s1.trans e2).trans e3).mut hD, ?_⟩
      · rw [List.length_map]
        have h3 := List.length_take_le' i xs
        have h4 := List.length_filter_le kp (xs.take i)
        omega
      · rw [upd_same, step, hk, if_pos rfl, List.map_append]
        rfl) (by
    rintro G ⟨s1, hd⟩
    refine q D G (fresh_back e1 hD) (e1.trans s1) ?_
    rw [hd, List.take_of_length_le (Nat.le_refl _)])⟩
end
theorem ToldK.keys {H : Hp} {E : Str → Str → Bool} {M : List Str} {kvs : List (Key × V)} (h : ToldK H E M kvs) : kvs.map (·.1) = M.map Sum.inr := by
  refine List.ext_getElem? fun i => ?_
  rw [List.getElem?_map, List.getElem?_map]
  cases e : kvs[i]? with
  | none =>
    have l := pr_len h
    have : M[i]? = none := List.getElem?_eq_none (by have := List.getElem?_eq_none_iff.mp e; omega)
    rw [this]
    rfl
  | some x =>
    obtain ⟨m, hm, ek, _⟩ := pr_get h e
    rw [hm]
    show some x.1 = some (Sum.inr m)
    rw [show x.1 = Sum.inr m from ek]
def kpN (t : List Str) : V → Bool := fun v => match v with | .str y => decide (y ∉ t) | _ => false
def kpR (M : List Str) (E : Str → Str → Bool) (L : List Str) : V → Bool := fun v => match v with | .str y => !((Gm.td M E y).any fun z => decide (z ∈ L)) | _ => false
theorem kpN_map (M t : List Str) : (M.map V.str).filter (kpN t) = (M.filter fun y => decide (y ∉ t)).map V.str := by
  rw [List.filter_map]
  rfl
theorem kpR_map (M : List Str) (E : Str → Str → Bool) (t : List Str) : ((M.filter fun y => decide (y ∉ t)).map V.str).filter (kpR M E (M.filter fun y => decide (y ∉ t))) = (Gm.ready M E t).map V.str := by
  rw [List.filter_map]
  congr 1
  rw [List.filter_filter]
  unfold Gm.ready
  refine List.filter_congr fun m _ => ?_
  show ((!((Gm.td M E m).any fun z => decide (z ∈ M.filter fun y => decide (y ∉ t)))) && decide (m ∉ t)) = _
  rw [Bool.and_comm]
  congr 1
  rw [List.not_any_eq_all_not]
  rw [Bool.eq_iff_iff, List.all_eq_true, List.all_eq_true]
  refine forall_congr' fun y => forall_congr' fun hy => ?_
  have hM := (List.mem_filter.mp hy).1
  simp [List.mem_filter, hM]
section
variable {P : Program} {w : World} {K : PySem.W.Frag} {mg : Str → Option Value} {base : Heap} {C fI pR fG fL fE : Addr}
theorem scLeast : FnScope nLeast ["needed"] (defScope sLeast) := ⟨rfl, rfl, rfl, by decide +kernel, rfl, by decide +kernel, by decide +kernel⟩
theorem scOrder : FnScope nOrder ["book"] (defScope sOrder) := ⟨rfl, rfl, rfl, by decide +kernel, rfl, by decide +kernel, by decide +kernel⟩
def ordersM (E : Str → Str → Bool) (M : List Str) : List (List Str) := (Gm.tups M M.length).filter (Gm.valid M E)
def ordersOf (rs : List Rt) (M : List Str) : List (List Str) := (Gm.tups M M.length).filter (Gm.valid M (Ed rs))
def RetLo (o : Option (List Str)) (H : Hp) (Q : VK) : Prop := match o with
  | some t => ∀ l G, Ex H G → G l = some (.lst (t.map V.str)) → Q (.ref l) G
  | none => RetV .non H Q
def spLeast : Sp := fun vs H Q _ => ∃ d E M, vs = [.ref d] ∧ TdAt H d E M ∧ AscS M ∧ M.length ≤ 6 ∧ RetLo (ordersM E M).head? H Q
theorem ok_least {f : Addr} {fd : FuncData} (F : Fun K "least_order" "least_order" sLeast f fd) (T : Gv mg) : FnOk P w K mg base CX0 1 f fd ["needed"] spLeast := by
  refine F.ok scLeast (fun vs H Q E h => ?_) (fun cdv A outer s H vs Q E hr h => ?_)
  · obtain ⟨d, E, M, rfl, _⟩ := h
    rfl
  · obtain ⟨d, Ee, M, rfl, td2, asc, h6, k⟩ := h
    have hu : (A.deeper (envOfC "least_order" (defScope sLeast) s.heap.objs.size f cdv)).units + 1 < cLine := by have := hr.un; omega
    refine ⟨_, pss_cons (ps_set (i := 1) scLeast.nd rfl (Or.inr rfl) (pe_lst pa_nil))
      (pss_cons (ps_while PassesOwn.never (pt_cmpR op_lt (pe_callB call_len_seq (by rfl) T.len PySem.boot_len (pa_cons (pv 1) pa_nil)) (pe_callB call_lenF (by rfl) T.len PySem.boot_len (pa_cons (pv 0) pa_nil)) (nomark _))
        (pss_cons (ps_set (i := 2) scLeast.nd rfl (Or.inr rfl) (pe_lc (own := [("key", 3)]) (g := gName 3) rfl scLeast.nd (pi_listK (K := K) rfl (pe_callB (call_sortedD rfl) (by rfl) T.srt (by decide +kernel) (pa_cons (pv 0) pa_nil))) (blkOk_by (N := nLeast) (sc := defScope sLeast) (by decide +kernel))
            (fun _ _ _ _ _ => pg_name (i := 3) scLeast.nd rfl (Or.inl rfl))
            (fun _ _ _ _ _ => pts_one (pt_cmpR (r := rIn K true) op_notIn_seq (pv 3) (pv 1) rfl))
            (fun _ _ _ _ _ => pv 3)))
        (pss_cons (ps_setLc (i := 4) (own := [("key", 3)]) (g := gName 3) rfl scLeast.nd rfl rfl rfl (pi_listK (K := K) rfl (pv 2)) (blkOk_by (N := nLeast) (sc := defScope sLeast) (by decide +kernel))
            (fun _ _ _ _ _ => pg_name (i := 3) scLeast.nd rfl (Or.inl rfl))
            (fun _ _ _ _ _ => pts_one (pt_not (pt_val (pe_callB (r := rAny K) (cr_any rfl) (by rfl) T.any boot_any (pa_cons
              (pe_lc (own := [("other", 5)]) (g := gName 5) (tt := tYes) rfl scLeast.nd (pi_listK (K := K) rfl (pe_dget hu (pv 0) (pv 3) (fun _ _ => rfl))) (blkOk_by (N := nLeast) (by rfl))
                (fun _ _ _ _ _ => pg_name (i := 5) scLeast.nd rfl (Or.inl rfl)) (fun _ _ _ _ _ => pts_nil) (fun _ _ _ _ _ => pe_cmpR (r := rIn K false) op_in_seq (pv 5) (pv 2) rfl)) pa_nil)))))
            (fun _ _ _ _ _ => pv 3))
        (pss_cons (ps_if (pt_not (pt_truth (pv 4) (by intro _; rfl))) (pss_one (ps_ret pe_non)) pss_nil)
        (pss_one (ps_expr (pe_bm PySem.F.plainAttrs_list PySem.F.slot_list_append PySem.F.type_list_append mt_append (pv 1) (pa_cons (pe_ix ix_list (pv 4) pe_int (fun _ _ => rfl)) pa_nil))))))))
      (pss_one (ps_ret (pv 1)))), ?_⟩
    have nd := asc.nodup
    obtain ⟨o, kvs, hd2, tk⟩ := id td2
    have lk := pr_len tk
    have ks := tk.keys
    refine q_asgL (xs := []) (el_lst ea_nil (by decide)) fun l H3 hl3 e3 h3 => ?_
    show tSeq (tWhile _ _) _ _ ([some (.ref d), some (.ref l), none, none, none, none] : L2.St) H3
    refine q_while (fun m σ' G => ∃ k t u u2, m + k = M.length ∧ σ' = [some (.ref d), some (.ref l), u, none, u2, none] ∧ Ex H G ∧ G l = some (.lst (t.map V.str)) ∧ ((Gm.tups M k).filter (Gm.valid M Ee)).head? = some t)
      M.length ⟨0, [], none, none, rfl, rfl, e3, h3, rfl⟩ (fun m σ' G q => ?_)
    obtain ⟨k0, t0, u, u2, hmk, rfl, eG, hl, hd⟩ := q
    have hv := List.mem_filter.mp (List.mem_of_mem_head? hd)
    obtain ⟨t1, t2, t3⟩ := (Gm.mem_tups nd).mp hv.1
    refine ⟨decide (k0 < M.length), et_is (et_test (ev_op (ev_len (ev_var rfl) (sq_of hl)) (fun G1 e Q q => ⟨_, rfl, d, kvs, rfl, .inr ⟨o, (eG.trans e) _ _ hd2⟩, q G1 (Ex.refl _)⟩) rv_I0)) ?_, fun hb G1 e4 => ?_, fun hb G1 e4 => ?_⟩
    · rw [List.length_map, t3]
      exact decide_eq_decide.mpr (by omega)
    · have hk : k0 < M.length := of_decide_eq_true hb
      have eG1 := eG.trans e4
      have hl1 := e4 _ _ hl
      have hdG := eG1 _ _ hd2
      refine ⟨fun σ2 F => ∃ t u u2, σ2 = [some (.ref d), some (.ref l), u, none, u2, none] ∧ Ex H F ∧ F l = some (.lst (t.map V.str)) ∧ ((Gm.tups M (k0 + 1)).filter (Gm.valid M Ee)).head? = some t, fun σ2 F ⟨t', u', u2', z1, z2, z3, z4⟩ => ⟨m - 1, by omega, k0 + 1, t', u', u2', by omega, z1, z2, z3, z4⟩, ?_⟩
      -- who is left
      refine q_asgL (xs := (M.filter fun y => decide (y ∉ t0)).map V.str) (ev_isL (el_fS (K := K) (j := 3) (xs := M.map V.str) (kpN t0) (fun v => v) (fun H1 e Q q => ?_) (by rw [List.length_map]; omega) (fun x F e6 hx => ?_) (fun x F e6 hx _ => ev_var rfl)) ?_) fun L G2 hL e5 h5 => ?_
      · refine cb_raw ⟨_, rfl, d, kvs, M, rfl, .inr ⟨o, e _ _ hdG⟩, ks, by omega, fun ys p perm so hp => ?_⟩
        have : ys = M := ascS_ext (asc_names so (perm.nodup_iff.mpr nd)) asc fun g => perm.mem_iff
        subst this
        exact q p _ (Ex.new hp) (sq_of upd_same)
      · obtain ⟨y, hy, rfl⟩ := List.mem_map.mp hx
        refine et_is (et_test (ev_op (ev_var rfl) (ev_var rfl) (rv_niL (sq_of (e6 _ _ hl1)) rfl (flat_strs t0)))) ?_
        rw [inV_str]
        show _ = decide (y ∉ t0)
        by_cases c : y ∈ t0 <;> simp [c]
      · rw [List.map_id'', kpN_map]
        exact fun _ => rfl
      -- who is ready
      have eG2 := eG1.trans e5
      have td3 := td2.mono eG2
      show tSeq (tAsg _ (gName 4)) _ _ ([some (.ref d), some (.ref l), some (.ref L), none, u2, none] : L2.St) G2
      refine q_asgL (xs := (Gm.ready M Ee t0).map V.str) (ev_isL (el_fS (K := K) (j := 3) (xs := (M.filter fun y => decide (y ∉ t0)).map V.str) (kpR M Ee (M.filter fun y => decide (y ∉ t0))) (fun v => v) (fun H1 e Q q => ?_) (by rw [List.length_map]; have := List.length_filter_le (fun y => decide (y ∉ t0)) M; omega) (fun x F e6 hx => ?_) (fun x F e6 hx _ => ev_var rfl)) ?_) fun D G3 hD e7 h7 => ?_
      · exact ⟨_, rfl, q L H1 (Ex.refl _) (sq_of (e _ _ h5))⟩
      · obtain ⟨y, hy, rfl⟩ := List.mem_map.mp hx
        have hyM := (List.mem_filter.mp hy).1
        obtain ⟨l1, hl1', ev1⟩ := TdAt.ev (σ := [some (.ref d), some (.ref l), some (.ref L), some (.str y), u2, none]) (td := tVar 0) (ty := tVar 3) (td3.mono e6) hyM (ev_var rfl) (ev_var rfl)
        have tds : (Gm.td M Ee y).length ≤ 6 := Nat.le_trans (List.length_filter_le _ _) h6
        refine et_is (et_not (et_B (ev_any (K := K) (bs := (Gm.td M Ee y).map fun z => decide (z ∈ M.filter fun y => decide (y ∉ t0))) (ev_isL (el_lcA (K := K) (j := 5) (fun v => match v with | .str z => .bl (decide (z ∈ M.filter fun y => decide (y ∉ t0))) | _ => .non) ev1 (sq_of hl1') (by rw [List.length_map]; omega) (fun x F3 e8 hx => ?_)) ?_)))) ?_
        · obtain ⟨z, hz, rfl⟩ := List.mem_map.mp hx
          exact ev_is (ev_op (ev_var rfl) (ev_var rfl) (rv_isL (sq_of (e8 _ _ (e6 _ _ h5))) rfl (flat_strs _))) (by rw [inV_str])
        · rw [List.map_map, List.map_map]
          rfl
        · rw [List.any_map]
          rfl
      · rw [List.map_id'', kpR_map]
        exact fun _ => rfl
      have hlF := e7 _ _ (e5 _ _ hl1)
      show tSeq (tIfS _ _ _) _ _ ([some (.ref d), some (.ref l), some (.ref L), none, some (.ref D), none] : L2.St) G3
      refine q_when (b := (Gm.ready M Ee t0).isEmpty) (et_is (et_not (a := !(Gm.ready M Ee t0).isEmpty) fun F1 e Q q => ⟨_, rfl, _, .inl ⟨_, sq_of (e _ _ h7), by rw [List.isEmpty_map]⟩, q F1 (Ex.refl _)⟩) (by simp)) (fun hb2 F1 e8 => ?_) (fun hb2 F1 e8 => ?_)
      · have stuck := Gm.order_stuck (E := Ee) nd hv.1 (List.isEmpty_iff.mp hb2) hk
        have hn : (ordersM Ee M).head? = none := by
          unfold ordersM
          rw [stuck]
          rfl
        rw [hn] at k
        exact k F1 ((eG2.trans e7).trans e8)
      · cases hr : Gm.ready M Ee t0 with
        | nil => rw [hr] at hb2; cases hb2
        | cons x rest =>
          have next := Gm.order_step hd hr
          rw [hr] at h7
          have hlF1 := e8 _ _ hlF
          refine ⟨_, rfl, Or.inl ⟨rfl, _, sq_of hlF1⟩, _, rfl, D, _, 0, _, rfl, rfl, sq_of (e8 _ _ h7), atI_nat (j := 0) rfl, l, _, _, rfl, rfl, hlF1, sz_lt (by rw [List.length_map, t3]; omega), ?_⟩
          refine ⟨t0 ++ [x], _, _, rfl, ((eG2.trans e7).trans e8).mut (fresh_back (Ex.refl _) hl3), ?_, next⟩
          rw [upd_same, List.map_append]
          rfl
    · have hk : k0 = M.length := by
        have : ¬ k0 < M.length := of_decide_eq_false hb
        omega
      subst hk
      have hn : (ordersM Ee M).head? = some t0 := hd
      rw [hn] at k
      exact ret_raw ⟨_, rfl, k l G1 (eG.trans e4) (e4 _ _ hl)⟩
def spOrder (C : Addr) : Sp := fun vs H Q _ => ∃ a rs M, vs = [.ref a] ∧ BkR H C a rs M ∧ RetR (ordersOf rs M).head? H Q
theorem ok_order {f : Addr} {fd : FuncData} (F : Fun K "told_order" "told_order" sOrder f fd) (T : Gv mg) (cB : Cal P w K mg base CX0 1 "check_book" ["value"] (spCkB C)) (cM : Cal P w K mg base CX0 4 "told_made" ["book"] (spTM C))
    (cL : Cal P w K mg base CX0 1 "least_order" ["needed"] spLeast) : FnOk P w K mg base CX0 5 f fd ["book"] (spOrder C) := by
  refine F.ok scOrder (fun vs H Q E h => ?_) (fun cdv A outer s H vs Q E hr h => ?_)
  · obtain ⟨a, rs, M, rfl, _⟩ := h
    rfl
  · obtain ⟨a, rs, M, rfl, ⟨t, xs, b, ht, R, mdM⟩, k⟩ := h
    have hr1 : Room 1 _ := hr.mono (by decide)
    refine ⟨_, pss_cons (ps_expr (pe_call cB.F hr1 (by rfl) cB.g cB.kp cB.b .nil pass0 (pa_cons (pv 0) pa_nil)))
      (pss_cons (ps_set (i := 1) scOrder.nd rfl (Or.inl rfl) (pe_call cL.F hr1 (by rfl) cL.g cL.kp cL.b .nil pass0 (pa_cons (pe_call cM.F hr (by rfl) cM.g cM.kp cM.b .nil pass0 (pa_cons (pv 0) pa_nil)) pa_nil)))
      (pss_one (ps_ret (pe_ifExp (pt_cmpR op_isN (pv 1) pe_non (nomark _)) pe_non (pe_callTy call_tuple_of (by rfl) T.tup (by decide +kernel) (pa_cons (pv 1) pa_nil)))))), ?_⟩
    refine q_drop (v := .non) (ev_call (ea_cons (ev_var rfl) ea_nil) fun H1 e1 Q' q' E' => ⟨a, _, rfl, b.mono e1, q'⟩) fun H1 e1 => ?_
    refine q_raw (call_raw (cons_raw (call_raw (cons_raw ⟨_, rfl, ?_⟩))))
    refine ⟨a, t, xs, rs, M, rfl, b.mono e1, e1 _ _ ht, R.mono e1, mdM, fun d o kvs H2 e2 hd0 hd2 tk => ?_⟩
    refine ⟨d, Ed rs, M, rfl, ⟨o, kvs, hd2, tk⟩, mdM.asc, mdM.few R.few, ?_⟩
    have e02 := e1.trans e2
    have heq : ordersM (Ed rs) M = ordersOf rs M := rfl
    rw [heq]
    cases hh : (ordersOf rs M).head? with
    | none =>
      rw [hh] at k
      intro G eG
      refine ret_raw ⟨_, rfl, rfl, _, rfl, ?_⟩
      exact iteP (decide_eq_true rfl) (k G (e02.trans eG))
    | some t0 =>
      rw [hh] at k
      intro l G eG hl
      refine ret_raw ⟨_, rfl, rfl, _, rfl, ?_⟩
      refine iteN (by simp) ?_
      refine cb_raw ⟨_, rfl, l, _, rfl, .inl ⟨sq_of hl, fun c hc => ?_⟩⟩
      exact k c _ ((e02.trans eG).trans (Ex.new hc)) upd_same
end
end Bl
namespace Bl
open PySem PySem.Spec PyProof.Rows L2 Bk Bm Evl Be Cr Bp TL Kr Ks
abbrev sRO : Stmt := top 24
abbrev nRO : List Str := ["book", "value", "told", "place", "made", "path"]
theorem walk_enumT {K : PySem.W.Frag} {a : Addr} {xs : List V} : Walk (ItEt K a) xs.length (fun H => SqT K H a xs) (YPair (fun i => some (.int (i : Nat))) (fun i => xs[i]?)) :=
  ⟨fun i H hi q => ⟨xs, xs[i], q, by simp [hi]⟩, fun H q => ⟨xs, q, Nat.le_refl _⟩, fun i H x H' hi q y => by
    obtain ⟨T, z, rfl, hT, rfl, hz⟩ := y
    exact ⟨T, _, z, rfl, hT, rfl, rfl, hz xs q⟩⟩
/-- whether each that is told stands ahead, place by place -/
def stB (M : List Str) (E : Str → Str → Bool) (ts : List Str) (j : Nat) : List Bool := (Gm.td M E (ts.getD j default)).map fun y => decide (y ∈ ts.take j)
theorem st_valid {M : List Str} {E : Str → Str → Bool} {ts : List Str} : ∀ i, i ≤ ts.length → ((List.range i).flatMap (stB M E ts)).all id = Gm.valid M E (ts.take i)
  | 0, _ => rfl
  | i + 1, h => by
    have ih := st_valid (M := M) (E := E) (ts := ts) i (by omega)
    have hi : ts[i]? = some ts[i] := List.getElem?_eq_getElem (by omega)
    have e : ts.getD i default = ts[i] := by rw [List.getD_eq_getElem?_getD, hi]; rfl
    rw [List.range_succ, List.flatMap_append, List.all_append, ih, List.take_succ, hi]
    show (_ && ((List.flatMap _ [i]).all id)) = Gm.valid M E (ts.take i ++ [ts[i]])
    rw [Gm.valid_snoc, Bool.and_comm, List.flatMap_cons, List.flatMap_nil, List.append_nil]
    unfold stB
    rw [e, List.all_map]
    rfl
section
variable {P : Program} {w : World} {K : PySem.W.Frag} {mg : Str → Option Value} {base : Heap} {C fI pR fG fL fE : Addr}
theorem scRO : FnScope nRO ["book", "value"] (defScope sRO) := ⟨rfl, rfl, rfl, by decide +kernel, rfl, by decide +kernel, by decide +kernel⟩
def orderV (rs : List Rt) (M ts : List Str) : Bool := keysB M ts && (decide (ts.length = M.length) && Gm.valid M (Ed rs) ts)
def spRO (C : Addr) : Sp := fun vs H Q _ => ∃ a rs M v b, vs = [.ref a, v] ∧ BkR H C a rs M ∧ AskV K H v (orderV rs M) b ∧ RetV (.bl b) H Q
theorem ok_ro {f : Addr} {fd : FuncData} (F : Fun K "right_order" "right_order" sRO f fd) (T : Gv mg) (cB : Cal P w K mg base CX0 1 "check_book" ["value"] (spCkB C)) (cM : Cal P w K mg base CX0 4 "told_made" ["book"] (spTM C))
    (cK : Cal P w K mg base CX0 1 "are_unlike_keys" ["value", "table"] (spKeys (K := K))) : FnOk P w K mg base CX0 5 f fd ["book", "value"] (spRO (K := K) C) := by
  refine F.ok scRO (fun vs H Q E h => ?_) (fun cdv A outer s H vs Q E hr h => ?_)
  · obtain ⟨a, rs, M, v, b, rfl, _⟩ := h
    rfl
  · obtain ⟨a, rs, M, v, b, rfl, ⟨t, xs, bk, ht, R, mdM⟩, ask, k⟩ := h
    have hu1 : (A.deeper (envOfC "right_order" (defScope sRO) s.heap.objs.size f cdv)).units + 1 < cLine := by have := hr.un; omega
    have hr1 : Room 1 _ := hr.mono (by decide)
    refine ⟨_, pss_cons (ps_expr (pe_call cB.F hr1 (by rfl) cB.g cB.kp cB.b .nil pass0 (pa_cons (pv 0) pa_nil)))
      (pss_cons (ps_set (i := 2) scRO.nd rfl (Or.inr rfl) (pe_call cM.F hr (by rfl) cM.g cM.kp cM.b .nil pass0 (pa_cons (pv 0) pa_nil)))
      (pss_cons (ps_if (pw_or (pt_not (pt_val (pe_call cK.F hr1 (by rfl) cK.g cK.kp cK.b .nil pass0 (pa_cons (pv 1) (pa_cons (pv 2) pa_nil))))) (pw_or1 (pt_cmpR op_ne (pe_callB call_len_seq (by rfl) T.len PySem.boot_len (pa_cons (pv 1) pa_nil)) (pe_callB call_lenF (by rfl) T.len PySem.boot_len (pa_cons (pv 2) pa_nil)) (nomark _)))).pt (pss_one (ps_ret pe_bl)) pss_nil)
      (pss_one (ps_ret (pe_callB (cr_all rfl) (by rfl) T.all boot_all (pa_cons (pe_lc2 (own := [("place", 3), ("made", 4), ("path", 5)]) (vs1 := [5]) (g := gTup K 2 (gCons (gName 3) (gCons (gName 4) gNil))) (g1 := gName 5) (tt := tYes) (tt1 := tYes) rfl scRO.nd
          (pi_enumT (by rfl) T.enu (pa_cons (pv 1) pa_nil)) (blkOk_by (N := nRO) (sc := defScope sRO) (by decide +kernel)) (by decide)
          (fun _ _ _ _ _ => pg_tup rfl (pgs_cons (pg_name (i := 3) scRO.nd rfl (Or.inl rfl)) (pgs_cons (pg_name (i := 4) scRO.nd rfl (Or.inl rfl)) pgs_nil))) (fun _ _ _ _ _ => pts_nil)
          (fun _ _ _ _ _ => pi_listK (K := K) rfl (pe_dget hu1 (pv 2) (pv 4) (fun _ _ => rfl))) (fun _ _ _ _ _ => pg_name (i := 5) scRO.nd rfl (Or.inl rfl)) (fun _ _ _ _ _ => pts_nil)
          (fun _ _ _ _ _ => pe_cmpR (r := rIn K false) op_in_seq (pv 5) (pe_slice (r := rSlA K) sl_tupA (pv 1) po_none (po_some (pv 3))) rfl)) pa_nil)))))), ?_⟩
    refine q_drop (v := .non) (ev_call (ea_cons (ev_var rfl) ea_nil) fun H1 e1 Q' q' E' => ⟨a, _, rfl, bk.mono e1, q'⟩) fun H1 e1 => ?_
    refine q_raw ?_
    refine ⟨_, rfl, a, t, xs, rs, M, rfl, bk.mono e1, e1 _ _ ht, R.mono e1, mdM, fun d o kvs H2 e2 hd0 hd2 tk => ?_⟩
    have td2 : TdAt H2 d (Ed rs) M := ⟨o, kvs, hd2, tk⟩
    have e02 := e1.trans e2
    have h6 := mdM.few R.few
    have lk := pr_len tk
    show tSeq (tIfS _ _ _) _ _ ([some (.ref a), some v, some (.ref d), none, none, none] : L2.St) H2
    have no : ∀ (hb : b = false) (z : ∀ (H3 : Hp), Ex H2 H3 → ∀ Q' : VK, (∀ H4, Ex H3 H4 → Q' (.bl false) H4) → spKeys (K := K) [v, .ref d] H3 Q' E0), ∀ (tn : TT) (tu : TS) (De : Ends), De.rt = Q →
        tIfS (tOr (tNot (tB (tCall (spKeys (K := K)) [] E0 (tCons (tVar 1) (tCons (tVar 2) tNil))))) tn) (tRet (tC (.bl false))) tu De ([some (.ref a), some v, some (.ref d), none, none, none] : L2.St) H2 := fun hb z tn tu De eQ => by
      refine s_if (b := true) (et_is (et_or (a := true) (b := true) (et_is (et_not (a := false) (et_B (ev_call (z := .bl false) (ea_cons (ev_var rfl) (ea_cons (ev_var rfl) ea_nil)) fun H3 e3 Q' q' E' => ?_))) rfl) (fun z => by cases z)) rfl) (fun _ H3 e3 => ?_) (fun z => by cases z)
      · exact z H3 e3 Q' q'
      · refine s_ret (v := .bl false) ev_c fun H4 e4 => ?_
        rw [eQ, ← hb]
        exact k H4 ((e02.trans e3).trans e4)
    rcases ask with ⟨hb, n, kd, hn⟩ | ⟨c, ts, rfl, kd, hx, hl, hb⟩ | ⟨hb, c, x, n, rfl, kd, hx, kx, nx⟩
    · exact seq_raw (no hb (fun H3 e3 Q' q' => ⟨v, d, Ed rs, M, rfl, td2.mono e3, .inl ⟨n, kd.mono (e02.trans e3), hn, fun H4 e4 => q' H4 e4⟩⟩) _ _ _ rfl)
    · cases hk : keysB M ts with
      | false =>
        have hb' : b = false := by
          rw [hb]
          unfold orderV
          rw [hk]
          rfl
        exact seq_raw (no hb' (fun H3 e3 Q' q' => ⟨_, d, Ed rs, M, rfl, td2.mono e3, .inr (.inl ⟨c, ts, rfl, kd.mono (e02.trans e3), ex_t (e02.trans e3) hx, hl, by rw [hk]; exact fun H4 e4 => q' H4 e4⟩)⟩) _ _ _ rfl)
      | true =>
        have inM : ∀ y ∈ ts, y ∈ M := by
          unfold keysB at hk
          rw [Bool.and_eq_true, List.all_eq_true] at hk
          exact fun y hy => of_decide_eq_true (hk.1 y hy)
        have tl6 : ts.length ≤ 6 := by
          unfold keysB at hk
          rw [Bool.and_eq_true, decide_eq_true_eq] at hk
          have := Gm.len_le hk.2 inM
          omega
        refine q_when (b := !decide (ts.length = M.length)) (et_is (et_or (a := false) (b := !decide (ts.length = M.length)) (et_is (et_not (a := true) (et_B (ev_call (z := .bl true) (ea_cons (ev_var rfl) (ea_cons (ev_var rfl) ea_nil)) fun H3 e3 Q' q' E' =>
            ⟨_, d, Ed rs, M, rfl, td2.mono e3, .inr (.inl ⟨c, ts, rfl, kd.mono (e02.trans e3), ex_t (e02.trans e3) hx, hl, by rw [hk]; exact q'⟩)⟩))) rfl)
          (fun _ => et_is (et_test (ev_op (ev_lenT (ev_var rfl) (ex_t e02 hx)) (fun G1 e Q q => ⟨_, rfl, d, kvs, rfl, .inr ⟨o, e _ _ hd2⟩, q G1 (Ex.refl _)⟩) (rv_ne rfl))) ?_)) (by simp)) (fun hb3 H3 e3 => ?_) (fun hb3 H3 e3 => ?_)
        · rw [List.length_map]
          congr 1
          exact decide_eq_decide.mpr ⟨fun h => by injection h with h; omega, fun h => by rw [h, lk]⟩
        · have hb' : b = false := by
            rw [hb]
            unfold orderV
            have : ¬ ts.length = M.length := by simpa using hb3
            rw [decide_eq_false this]
            simp
          refine s_ret (v := .bl false) ev_c fun H4 e4 => ?_
          have := k H4 ((e02.trans e3).trans e4)
          rw [hb'] at this
          exact this
        · have hlen : ts.length = M.length := by simpa using hb3
          have hb' : b = ((List.range ts.length).flatMap (stB M (Ed rs) ts)).all id := by
            rw [hb, st_valid ts.length (Nat.le_refl _), List.take_length]
            unfold orderV
            rw [hk, decide_eq_true hlen]
            rfl
          have hx3 := ex_t (e02.trans e3) hx
          have td3 := td2.mono e3
          have lenB : ∀ i, i ≤ 6 → ((List.range i).flatMap (stB M (Ed rs) ts)).length ≤ 36 := fun i hi => by
            have h1 := flatMap_len (l := List.range i) (f := stB M (Ed rs) ts) (c := 6) fun j _ => by
              unfold stB
              rw [List.length_map]
              exact Nat.le_trans (List.length_filter_le _ _) h6
            rw [List.length_range] at h1
            omega
          refine ret_raw (cb_raw ?_)
          refine ⟨_, rfl, c, ts.map V.str, rfl, hx3, fun D hD => walk_w (walk_enumT (K := K) (a := c) (xs := ts.map V.str)) (fun i F => Ex H3 F ∧ F D = some (.lst (((List.range i).flatMap (stB M (Ed rs) ts)).map V.bl))) ⟨Ex.new hD, upd_same⟩ (fun i F _ p => ex_t p.1 hx3) (fun i x F F' hi p y => ?_) (fun F p => ?_)⟩
          · obtain ⟨eF, hF⟩ := p
            obtain ⟨T0, x0, y0, rfl, hT, rfl, hx0, hy0⟩ := y
            have ex0 : V.int (i : Nat) = x0 := Option.some.inj hx0
            subst ex0
            rw [List.length_map] at hi
            obtain ⟨m, hm, rfl⟩ : ∃ m, ts[i]? = some m ∧ y0 = V.str m := by
              have hy0' : (ts.map V.str)[i]? = some y0 := hy0
              rw [List.getElem?_map] at hy0'
              cases e : ts[i]? with
              | none => rw [e] at hy0'; cases hy0'
              | some m => rw [e] at hy0'; exact ⟨m, rfl, (Option.some.inj hy0').symm⟩
            have eT := Ex.new (o := .tup [V.int (i : Nat), V.str m]) hT
            have hmM := inM m (List.mem_of_getElem? hm)
            have hF2 := eT _ _ hF
            have eF2 := eF.trans eT
            refine ⟨T0, _, rfl, SqT.of upd_same, rfl, _, _, rfl, _, _, rfl, rfl, ?_⟩
            generalize upd F T0 (.tup [V.int (i : Nat), V.str m]) = F2 at hF2 eF2 ⊢
            refine ⟨rfl, ?_⟩
            unfold tYes
            dsimp only
            rw [if_pos rfl]
            obtain ⟨l1, hl1, ev1⟩ := TdAt.ev (σ := [some (.ref a), some (.ref c), some (.ref d), some (.int (i : Nat)), some (.str m), none]) (td := tVar 2) (ty := tVar 4) td3 hmM (ev_var rfl) (ev_var rfl)
            have gd : ts.getD i default = m := by rw [List.getD_eq_getElem?_getD, hm]; rfl
            have stE : stB M (Ed rs) ts i = (Gm.td M (Ed rs) m).map fun y => decide (y ∈ ts.take i) := by
              unfold stB
              rw [gd]
            have tds : (Gm.td M (Ed rs) m).length ≤ 6 := Nat.le_trans (List.length_filter_le _ _) h6
            have small := lenB i (by omega)
            refine lin_raw (ev1 F2 eF2 _ fun F3 e5 => ?_)
            refine ⟨l1, rfl, ⟨_, sq_of ((eF2.trans e5) _ _ hl1)⟩, walk_w (walk_list (K := K) (a := l1) (xs := (Gm.td M (Ed rs) m).map V.str)) (fun j F4 => Ex H3 F4 ∧ F4 D = some (.lst (((List.range i).flatMap (stB M (Ed rs) ts) ++ ((Gm.td M (Ed rs) m).take j).map fun y => decide (y ∈ ts.take i)).map V.bl)))
              ⟨eF2.trans e5, by rw [e5 _ _ hF2]; simp⟩ (fun j F4 _ q => sq_of (q.1 _ _ hl1)) (fun j x F4 F4' hj q y => ?_) (fun F4 q => ?_)⟩
            · obtain ⟨e6, hF4⟩ := q
              obtain ⟨rfl, hx2⟩ := y
              obtain ⟨y, hy, rfl⟩ : ∃ y, (Gm.td M (Ed rs) m)[j]? = some y ∧ x = V.str y := by
                rw [List.getElem?_map] at hx2
                cases e : (Gm.td M (Ed rs) m)[j]? with
                | none => rw [e] at hx2; cases hx2
                | some y => rw [e] at hx2; exact ⟨y, rfl, (Option.some.inj hx2).symm⟩
              refine ⟨rfl, iteP rfl ?_⟩
              refine op_raw ⟨_, rfl, ?_⟩
              refine slice_to (i := i) (ev_var (i := 1) rfl) (ev_var (i := 3) rfl) (ex_t e6 hx3) (by rw [List.length_map]; omega) F4' (Ex.refl _) _ fun p F5 e8 hp => ?_
              rw [← List.map_take] at hp
              have hF5 := e8 _ _ hF4
              refine ⟨p, _, rfl, .inr hp, rfl, flat_strs _, _, hF5, sz_lt ?_, (e6.trans e8).mut hD, ?_⟩
              · have h1 := List.length_take_le' j (Gm.td M (Ed rs) m)
                rw [List.length_map, List.length_append, List.length_map]
                omega
              · rw [upd_same, if_neg (by decide), inV_str, List.take_succ, hy]
                simp
            · obtain ⟨e6, hF4⟩ := q
              refine ⟨e6, ?_⟩
              rw [hF4, List.length_map, List.take_length, List.range_succ, List.flatMap_append, List.flatMap_cons, List.flatMap_nil, List.append_nil, stE]
          · obtain ⟨eF, hF⟩ := p
            rw [List.length_map] at hF
            refine ⟨D, _, rfl, sq_of hF, ?_⟩
            rw [← hb']
            exact k F ((e02.trans e3).trans eF)
    · exact seq_raw (no hb (fun H3 e3 Q' q' => ⟨_, d, Ed rs, M, rfl, td2.mono e3, .inr (.inr ⟨c, x, n, rfl, kd.mono (e02.trans e3), ex_t (e02.trans e3) hx, kx.mono (e02.trans e3), nx, fun H4 e4 => q' H4 e4⟩)⟩) _ _ _ rfl)
end
end Bl
namespace Bl
open PySem PySem.Spec PyProof.Rows L2 Bk Bm Evl Be Cr Bp TL Kr Ks
abbrev sDepths : Stmt := top 25
abbrev nDep : List Str := ["book", "order", "told", "depth", "made", "path"]
theorem valid_at {M : List Str} {E : Str → Str → Bool} {o : List Str} (h : Gm.valid M E o = true) {i : Nat} {m : Str} (hi : o[i]? = some m) : ∀ y ∈ Gm.td M E m, y ∈ o.take i := by
  have hl := (List.getElem?_eq_some_iff.mp hi).1
  have e := st_valid (M := M) (E := E) (ts := o) o.length (Nat.le_refl _)
  rw [List.take_length, h] at e
  rw [List.all_eq_true] at e
  intro y hy
  have gd : o.getD i default = m := by rw [List.getD_eq_getElem?_getD, hi]; rfl
  have hb : decide (y ∈ o.take i) ∈ (List.range o.length).flatMap (stB M E o) := by
    rw [List.mem_flatMap]
    refine ⟨i, List.mem_range.mpr hl, ?_⟩
    unfold stB
    rw [gd]
    exact List.mem_map.mpr ⟨y, hy, rfl⟩
  exact of_decide_eq_true (e _ hb)
theorem opc_raw {r : R2} {v : V} {tb : TE} {σ : L2.St} {H : Hp} {Q : VK} (h : tb σ H fun y H2 => r v y H2 Q) : tOp r (tC v) tb σ H Q := h
theorem mx_raw {K : PySem.W.Frag} {te : TE} {z : V} {σ : L2.St} {H : Hp} {Q : VK} (h : te σ H fun x H1 => ∃ z' a ns, [x] = [V.ref a] ∧ [z] = [z'] ∧ SqL K H1 a (ns.map V.int) ∧ (ns = [] → Q z' H1) ∧ ∀ n r, ns = n :: r → Q (.int (r.foldl max n)) H1) :
    tMaxD K (tCons te tNil) (tCons (tC z) tNil) σ H Q := h
theorem dput_raw {td ty tv : TE} {De : Ends} {σ : L2.St} {H : Hp} (h : tv σ H fun v H1 => td σ H1 fun x H2 => ty σ H2 fun y H3 => ∃ a H4, x = .ref a ∧ DPut H3 a y v H4 ∧ De.nx σ H4) : sDPut td ty tv De σ H := h
section
variable {P : Program} {w : World} {K : PySem.W.Frag} {mg : Str → Option Value} {base : Heap} {C fI pR fG fL fE : Addr}
theorem scDepths : FnScope nDep ["book"] (defScope sDepths) := ⟨rfl, rfl, rfl, by decide +kernel, rfl, by decide +kernel, by decide +kernel⟩
def depI (rs : List Rt) (M : List Str) (m : Str) : Int := (Gm.dep M (Ed rs) m : Int)
def spDepths (C : Addr) : Sp := fun vs H Q _ => ∃ a rs M, vs = [.ref a] ∧ BkR H C a rs M ∧ (ordersOf rs M = [] → RetV .non H Q) ∧ (ordersOf rs M ≠ [] → RetL (M.map fun m => V.int (depI rs M m)) H Q)
theorem ok_depths {f : Addr} {fd : FuncData} (F : Fun K "depths" "depths" sDepths f fd) (T : Gv mg) (cO : Cal P w K mg base CX0 5 "told_order" ["book"] (spOrder C)) (cM : Cal P w K mg base CX0 4 "told_made" ["book"] (spTM C)) :
    FnOk P w K mg base CX0 6 f fd ["book"] (spDepths C) := by
  refine F.ok scDepths (fun vs H Q E h => ?_) (fun cdv A outer s H vs Q E hr h => ?_)
  · obtain ⟨a, rs, M, rfl, _⟩ := h
    rfl
  · obtain ⟨a, rs, M, rfl, bkr, k0, k1⟩ := h
    have hu : (A.deeper (envOfC "depths" (defScope sDepths) s.heap.objs.size f cdv)).units + 4 < cLine := by have := hr.un; omega
    have hu1 : (A.deeper (envOfC "depths" (defScope sDepths) s.heap.objs.size f cdv)).units + 1 < cLine := by omega
    have hr3 : Room 4 _ := hr.mono (by decide)
    refine ⟨_, pss_cons (ps_set (i := 1) scDepths.nd rfl (Or.inl rfl) (pe_call cO.F hr (by rfl) cO.g cO.kp cO.b .nil pass0 (pa_cons (pv 0) pa_nil)))
      (pss_cons (ps_if (pt_cmpR op_isN (pv 1) pe_non (nomark _)) (pss_one (ps_ret pe_non)) pss_nil)
      (pss_cons (ps_set (i := 2) scDepths.nd rfl (Or.inl rfl) (pe_call cM.F hr3 (by rfl) cM.g cM.kp cM.b .nil pass0 (pa_cons (pv 0) pa_nil)))
      (pss_cons (ps_set (i := 3) scDepths.nd rfl (Or.inr rfl) pe_dnewK)
      (pss_cons (ps_for PassesOwn.never rfl (pi_tup (pv 1)) (pg_name (i := 4) scDepths.nd rfl (Or.inl rfl))
        (pss_one (ps_dput hu1 (pv 3) (pv 4) (pe_op op_add pe_int (pe_maxD rfl hu (by rfl) T.max (by decide +kernel) (pa_cons (pe_lc (own := [("path", 5)]) (g := gName 5) (tt := tYes) rfl scDepths.nd (pi_list (pe_dget hu1 (pv 2) (pv 4) (fun _ _ => rfl))) (blkOk_by (N := nDep) (sc := defScope sDepths) (by decide +kernel))
            (fun _ _ _ _ _ => pg_name (i := 5) scDepths.nd rfl (Or.inl rfl)) (fun _ _ _ _ _ => pts_nil) (fun _ _ _ _ _ => pe_dget hu1 (pv 3) (pv 5) (fun _ _ => rfl))) pa_nil) (pk_cons pe_int pk_nil))) (by rfl))))
      (pss_one (ps_ret (pe_lc (own := [("made", 4)]) (g := gName 4) (tt := tYes) rfl scDepths.nd (pi_keys (pv 2)) (blkOk_by (N := nDep) (sc := defScope sDepths) (by decide +kernel))
          (fun _ _ _ _ _ => pg_name (i := 4) scDepths.nd rfl (Or.inl rfl)) (fun _ _ _ _ _ => pts_nil) (fun _ _ _ _ _ => pe_dget hu1 (pv 3) (pv 4) (fun _ _ => rfl))))))))), ?_⟩
    refine q_raw ?_
    refine ⟨_, rfl, a, rs, M, rfl, bkr, ?_⟩
    cases ho : (ordersOf rs M).head? with
    | none =>
      intro H1 e1
      show tSeq (tIfS _ _ _) _ _ ([some (.ref a), some .non, none, none, none, none] : L2.St) H1
      refine q_when (b := true) (et_is (et_test (ev_op (ev_var rfl) ev_c fun G1 e Q q => ⟨rfl, q G1 (Ex.refl _)⟩)) (by simp)) (fun _ H2 e2 => ?_) (fun z => by cases z)
      exact k0 (List.head?_eq_none_iff.mp ho) H2 (e1.trans e2)
    | some od =>
      intro c H1 e1 hc1
      have hne : ordersOf rs M ≠ [] := fun z => by rw [z] at ho; cases ho
      have hod : od ∈ ordersOf rs M := List.mem_of_mem_head? ho
      obtain ⟨t, xs, b, ht, R, mdM⟩ := bkr
      have h6 := mdM.few R.few
      have nd := mdM.asc.nodup
      obtain ⟨hod1, hval⟩ := List.mem_filter.mp hod
      obtain ⟨o1, o2, o3⟩ := (Gm.mem_tups nd).mp hod1
      have nr : Gm.rings M (Ed rs) M.length = [] := Classical.byContradiction fun z => hne (Gm.no_order_of_ring nd z)
      have all : ∀ y ∈ M, y ∈ od := fun y hy => Classical.byContradiction fun z => by
        have := Gm.len_le (List.nodup_cons.mpr ⟨z, o1⟩) (l := M) fun q hq => by
          rcases List.mem_cons.mp hq with rfl | hq
          · exact hy
          · exact o2 q hq
        rw [List.length_cons] at this
        omega
      show tSeq (tIfS _ _ _) _ _ ([some (.ref a), some (.ref c), none, none, none, none] : L2.St) H1
      refine q_when (b := false) (et_is (et_test (ev_op (ev_var rfl) ev_c fun G1 e Q q => ⟨rfl, q G1 (Ex.refl _)⟩)) (by simp)) (fun z => by cases z) (fun _ H2 e2 => ?_)
      refine q_raw ?_
      have e02 := e1.trans e2
      refine ⟨_, rfl, a, t, xs, rs, M, rfl, b.mono e02, e02 _ _ ht, R.mono e02, mdM, fun d o kvs H3 e3 hd0 hd3 tk => ?_⟩
      have td3 : TdAt H3 d (Ed rs) M := ⟨o, kvs, hd3, tk⟩
      have lk := pr_len tk
      have hc3 := (e2.trans e3) _ _ hc1
      show tSeq (tAsg _ (gName 3)) _ _ ([some (.ref a), some (.ref c), some (.ref d), none, none, none] : L2.St) H3
      refine q_raw (fun dp hdp => ?_)
      show tSeq (tFor _ _ _) _ _ ([some (.ref a), some (.ref c), some (.ref d), some (.ref dp), none, none] : L2.St) (upd H3 dp (.dK []))
      have e4 := Ex.new (o := .dK []) hdp
      have hdp4 : (upd H3 dp (.dK [])) dp = some (.dK []) := upd_same
      generalize upd H3 dp (.dK []) = H4 at e4 hdp4 ⊢
      refine q_forT (K := K) (ev_var rfl) (st_of (e4 _ _ hc3)) (fun i σ' G => ∃ u, σ' = [some (.ref a), some (.ref c), some (.ref d), some (.ref dp), u, none] ∧ Ex H3 G ∧ ∃ kv2, G dp = some (.dK kv2) ∧ KP (fun m => m) (fun v m => v = .int (depI rs M m)) kv2 (od.take i))
        (fun H5 e5 => ⟨none, rfl, e4.trans e5, [], e5 _ _ hdp4, .nil⟩) (fun i σ' G _ q => by obtain ⟨_, _, q, _⟩ := q; exact st_of (q _ _ hc3)) (fun i x σ' G hi q => ?_) (fun σ' G q => ?_)
      · obtain ⟨u, rfl, eG, kv2, hG, kp⟩ := q
        obtain ⟨m, hm, rfl⟩ : ∃ m, od[i]? = some m ∧ x = V.str m := by
          rw [List.getElem?_map] at hi
          cases e : od[i]? with
          | none => rw [e] at hi; cases hi
          | some m => rw [e] at hi; exact ⟨m, rfl, (Option.some.inj hi).symm⟩
        have hmo := List.mem_of_getElem? hm
        have hmM := o2 m hmo
        have ahead := valid_at hval hm
        have drec := Gm.dep_rec (E := Ed rs) nd nr hmM
        have tdG := td3.mono eG
        obtain ⟨l1, hl1, ev1⟩ := TdAt.ev (σ := [some (.ref a), some (.ref c), some (.ref d), some (.ref dp), some (.str m), none]) (td := tVar 2) (ty := tVar 4) tdG hmM (ev_var rfl) (ev_var rfl)
        have tds : (Gm.td M (Ed rs) m).length ≤ 6 := Nat.le_trans (List.length_filter_le _ _) h6
        have hpl := pr_len kp
        rw [List.length_take] at hpl
        have comp := el_lcA (K := K) (σ := [some (.ref a), some (.ref c), some (.ref d), some (.ref dp), some (.str m), none]) (j := 5) (te := tDGet (tVar 3) (tVar 5)) (fun v => match v with | .str y => .int (depI rs M y) | _ => .non) ev1 (sq_of hl1) (by rw [List.length_map]; omega) (fun x H5 e5 hx => by
          obtain ⟨y, hy, rfl⟩ := List.mem_map.mp hx
          intro H6 e6 Q6 q6
          rcases kp.val y with ⟨y', hy', rfl, v, hv, rfl⟩ | ⟨no, _⟩
          · refine ⟨_, rfl, _, rfl, dp, _, rfl, .inl ⟨kv2, Sum.inr y', .inl ((e5.trans e6) _ _ hG), rfl, hv.symm⟩, q6 H6 (Ex.refl _)⟩
          · exact absurd rfl (no y (ahead y hy)))
        have fin : ∀ (w0 : Int) (G2 : Hp), Ex G G2 → w0 = depI rs M m → (∃ (a' : Addr) (H4' : Hp), V.ref dp = .ref a' ∧ DPut G2 a' (.str m) (.int w0) H4' ∧ ∃ u, ([some (.ref a), some (.ref c), some (.ref d), some (.ref dp), some (.str m), none] : L2.St) = [some (.ref a), some (.ref c), some (.ref d), some (.ref dp), u, none] ∧ Ex H3 H4' ∧ ∃ kv2, H4' dp = some (.dK kv2) ∧ KP (fun m => m) (fun v m => v = .int (depI rs M m)) kv2 (od.take (i + 1))) := fun w0 G2 eG2 ew => by
          subst ew
          refine ⟨dp, _, rfl, DPut.k (k := Sum.inr m) (eG2 _ _ hG) (sz_lt (by omega)), _, rfl, (eG.trans eG2).mut hdp, _, upd_same, ?_⟩
          rw [List.take_succ, hm]
          refine KP.snoc kp rfl fun q hq z => ?_
          obtain ⟨n, hn⟩ := List.getElem?_of_mem hq
          have hn2 : n < i := by
            have h1 := (List.getElem?_eq_some_iff.mp hn).1
            have h2 := List.length_take_le i od
            omega
          rw [List.getElem?_take_of_lt hn2, z] at hn
          have := nd_ix o1 hn hm
          omega
        show sDPut _ _ _ _ ([some (.ref a), some (.ref c), some (.ref d), some (.ref dp), some (.str m), none] : L2.St) G
        refine dput_raw (opc_raw (mx_raw (comp G (Ex.refl _) _ fun p1 G1 hp1 e5 h5 => ?_)))
        have e6 : ((Gm.td M (Ed rs) m).map V.str).map (fun v => match v with | .str y => V.int (depI rs M y) | _ => .non) = ((Gm.td M (Ed rs) m).map fun y => (depI rs M y)).map V.int := by
          rw [List.map_map, List.map_map]
          rfl
        rw [e6] at h5
        refine ⟨_, p1, _, rfl, rfl, sq_of h5, fun z => ?_, fun n r z => ?_⟩
        · have ez : Gm.td M (Ed rs) m = [] := List.map_eq_nil_iff.mp z
          refine ⟨1, 0, rfl, rfl, _, rfl, _, rfl, fin (1 + 0) G1 e5 ?_⟩
          unfold depI
          rw [drec.1 ez]
          rfl
        · refine ⟨1, _, rfl, rfl, _, rfl, _, rfl, fin _ G1 e5 ?_⟩
          exact (drec.2 n r z).symm
      · obtain ⟨u, rfl, eG, kv2, hG, kp⟩ := q
        rw [List.length_map, List.take_length] at kp
        show tRet _ _ ([some (.ref a), some (.ref c), some (.ref d), some (.ref dp), u, none] : L2.St) G
        refine ret_raw ?_
        refine ⟨_, rfl, d, o, rfl, .inl ⟨kvs, eG _ _ hd3, fun D hD => walk_w (walk_keys (kvs := kvs)) (fun i F => Ex G F ∧ F D = some (.lst ((M.take i).map fun m => V.int (depI rs M m)))) ⟨Ex.new hD, upd_same⟩ (fun i F _ p => (eG.trans p.1) _ _ hd3) (fun i x F F' hi p y => ?_) (fun F p => ?_)⟩⟩
        · obtain ⟨eF, hF⟩ := p
          obtain ⟨rfl, kk, vv, hkv, rfl⟩ := y
          obtain ⟨m, hm, ek, _⟩ := pr_get tk hkv
          have ek' : kk = Sum.inr m := ek
          subst ek'
          refine ⟨rfl, ?_⟩
          unfold tYes
          dsimp only
          rw [if_pos rfl]
          rcases kp.val m with ⟨y', hy', rfl, v, hv, rfl⟩ | ⟨no, _⟩
          · refine ⟨_, rfl, _, rfl, dp, _, rfl, .inl ⟨kv2, Sum.inr y', .inl (eF _ _ hG), rfl, hv.symm⟩, _, hF, sz_lt ?_, eF.mut hD, ?_⟩
            · have := List.length_take_le' i M
              rw [List.length_map]
              omega
            · rw [upd_same, List.take_succ, hm, List.map_append]
              rfl
          · exact absurd rfl (no m (all m (List.mem_of_getElem? hm)))
        · obtain ⟨eF, hF⟩ := p
          rw [lk, List.take_length] at hF
          have hD0 : H D = none := fresh_back (e02.trans (e3.trans eG)) hD
          exact k1 hne D F hD0 ((e02.trans e3).trans (eG.trans eF)) hF
end
end Bl
namespace Bl
open PySem PySem.Spec PyProof.Rows L2 Bk Bm Evl Be Cr Bp TL Kr Ks
section
variable {K : PySem.W.Frag} {σ : L2.St} {H H' : Hp} {te : TE}
/-- over a tuple, with a test -/
theorem el_fT {j : Nat} {a : Addr} {xs : List V} {tl : TE} {tt : TT} (kp : V → Bool) (val : V → V) (h : Ev tl σ H (.ref a)) (hx : SqT K H a xs) (hz : xs.length ≤ 40000)
    (ht : ∀ (x : V) H1, Ex H H1 → x ∈ xs → EvT tt (σ.set j (some x)) H1 (kp x)) (he : ∀ (x : V) H1, Ex H H1 → x ∈ xs → kp x = true → Ev te (σ.set j (some x)) H1 (val x)) :
    EvL (tLc (iTup K tl) (gName j) tt te [j]) σ H ((xs.filter kp).map val) := fun H0 e Q q => h H0 e _ fun H1 e1 => ⟨a, rfl, ⟨xs, ex_t (e.trans e1) hx⟩, fun D hD =>
  lc_it (walk_tup (K := K) (a := a) (xs := xs)) (fun i G => Ex H1 G ∧ G D = some (.lst (((xs.take i).filter kp).map val))) ⟨Ex.new hD, by rw [upd_same]; rfl⟩ (fun i G _ p => ex_t ((e.trans e1).trans p.1) hx) (by
    rintro i v G G' hi ⟨s1, hd⟩ ⟨rfl, hl⟩
    have ee : (wipe σ [j]).set j (some v) = σ.set j (some v) := by
      show (σ.set j none).set j (some v) = _
      rw [List.set_set]
    show wipe ((wipe σ [j]).set j (some v)) [j] = wipe σ [j] ∧ _
    rw [ee]
    refine ⟨by show (σ.set j _).set j none = σ.set j none; rw [List.set_set], ?_⟩
    have hm := List.mem_of_getElem? hl
    refine ht v G' ((e.trans e1).trans s1) hm G' (Ex.refl _) _ fun G2 e2 => ?_
    have step : (xs.take (i + 1)).filter kp = (xs.take i).filter kp ++ if kp v = true then [v] else [] := by
      rw [List.take_succ, hl, List.filter_append]
      congr 1
      show List.filter kp [v] = _
      rw [List.filter_cons]
      rfl
    cases hk : kp v with
    | false =>
      rw [if_neg (by decide)]
      refine ⟨s1.trans e2, ?_⟩
      rw [step, hk, if_neg (by decide), List.append_nil]
      exact e2 _ _ hd
    | true =>
      rw [if_pos rfl]
      refine he v G2 (((e.trans e1).trans s1).trans e2) hm hk G2 (Ex.refl _) _ fun G3 e3 => ⟨_, e3 D _ (e2 D _ hd), sz_lt ?_, ((s1.trans e2).trans e3).mut hD, ?_⟩
      · rw [List.length_map]
        have h3 := List.length_take_le' i xs
        have h4 := List.length_filter_le kp (xs.take i)
        omega
      · rw [upd_same, step, hk, if_pos rfl, List.map_append]
        rfl) (by
    rintro G ⟨s1, hd⟩
    refine q D G (fresh_back e1 hD) (e1.trans s1) ?_
    rw [hd, List.take_of_length_le (Nat.le_refl _)])⟩
/-- over a list, with a test -/
theorem el_fL {j : Nat} {a : Addr} {xs : List V} {tl : TE} {tt : TT} (kp : V → Bool) (val : V → V) (h : Ev tl σ H (.ref a)) (hx : SqL K H a xs) (hz : xs.length ≤ 40000)
    (ht : ∀ (x : V) H1, Ex H H1 → x ∈ xs → EvT tt (σ.set j (some x)) H1 (kp x)) (he : ∀ (x : V) H1, Ex H H1 → x ∈ xs → kp x = true → Ev te (σ.set j (some x)) H1 (val x)) :
    EvL (tLc (iList K tl) (gName j) tt te [j]) σ H ((xs.filter kp).map val) := fun H0 e Q q => h H0 e _ fun H1 e1 => ⟨a, rfl, ⟨xs, ex_l (e.trans e1) hx⟩, fun D hD =>
  lc_it (walk_list (K := K) (a := a) (xs := xs)) (fun i G => Ex H1 G ∧ G D = some (.lst (((xs.take i).filter kp).map val))) ⟨Ex.new hD, by rw [upd_same]; rfl⟩ (fun i G _ p => ex_l ((e.trans e1).trans p.1) hx) (by
    rintro i v G G' hi ⟨s1, hd⟩ ⟨rfl, hl⟩
    have ee : (wipe σ [j]).set j (some v) = σ.set j (some v) := by
      show (σ.set j none).set j (some v) = _
      rw [List.set_set]
    show wipe ((wipe σ [j]).set j (some v)) [j] = wipe σ [j] ∧ _
    rw [ee]
    refine ⟨by show (σ.set j _).set j none = σ.set j none; rw [List.set_set], ?_⟩
    have hm := List.mem_of_getElem? hl
    refine ht v G' ((e.trans e1).trans s1) hm G' (Ex.refl _) _ fun G2 e2 => ?_
    have step : (xs.take (i + 1)).filter kp = (xs.take i).filter kp ++ if kp v = true then [v] else [] := by
      rw [List.take_succ, hl, List.filter_append]
      congr 1
      show List.filter kp [v] = _
      rw [List.filter_cons]
      rfl
    cases hk : kp v with
    | false =>
      rw [if_neg (by decide)]
      refine ⟨s1.trans e2, ?_⟩
      rw [step, hk, if_neg (by decide), List.append_nil]
      exact e2 _ _ hd
    | true =>
      rw [if_pos rfl]
      refine he v G2 (((e.trans e1).trans s1).trans e2) hm hk G2 (Ex.refl _) _ fun G3 e3 => ⟨_, e3 D _ (e2 D _ hd), sz_lt ?_, ((s1.trans e2).trans e3).mut hD, ?_⟩
      · rw [List.length_map]
        have h3 := List.length_take_le' i xs
        have h4 := List.length_filter_le kp (xs.take i)
        omega
      · rw [upd_same, step, hk, if_pos rfl, List.map_append]
        rfl) (by
    rintro G ⟨s1, hd⟩
    refine q D G (fresh_back e1 hD) (e1.trans s1) ?_
    rw [hd, List.take_of_length_le (Nat.le_refl _)])⟩
end
theorem tif_raw {t : TT} {ta tb : TE} {σ : L2.St} {H : Hp} {Q : VK} (h : t σ H fun c H1 => if c = true then ta σ H1 Q else tb σ H1 Q) : tIf t ta tb σ H Q := h
def kpM (H : Hp) (m : Str) : V → Bool := fun v => match v with | .ref c => (match H c with | some (.tup (.str z :: _)) => decide (z = m) | _ => false) | _ => false
theorem kpM_at {H : Hp} {m q : Str} {v : V} {told : List Str} (h : Shp H v q told) : kpM H m v = decide (q = m) := by
  obtain ⟨c, ts, rfl, hc⟩ := h.head
  unfold kpM
  simp only [hc]
theorem none_rule {H : Hp} {xs : List V} {rs : List Rt} {m : Str} (pr : Paired (fun v (p : Rt) => Shp H v p.1 p.2) xs rs) (h : m ∉ rs.map (·.1)) : xs.filter (kpM H m) = [] := by
  induction pr with
  | nil => rfl
  | @cons v p xs rs r _ ih =>
    rw [List.map_cons, List.mem_cons] at h
    rw [List.filter_cons, kpM_at r, if_neg (by simpa using fun z : p.1 = m => h (.inl z.symm)), ih fun z => h (.inr z)]
theorem one_rule {H : Hp} {xs : List V} {rs : List Rt} {m : Str} (pr : Paired (fun v (p : Rt) => Shp H v p.1 p.2) xs rs) (nd : (rs.map (·.1)).Nodup) (h : m ∈ rs.map (·.1)) : ∃ v p, p ∈ rs ∧ p.1 = m ∧ Shp H v m p.2 ∧ xs.filter (kpM H m) = [v] := by
  induction pr with
  | nil => cases h
  | @cons v p xs rs r rest ih =>
    have nd' := List.nodup_cons.mp (show (p.1 :: rs.map (·.1)).Nodup from nd)
    by_cases c : p.1 = m
    · subst c
      refine ⟨v, p, List.mem_cons_self, rfl, r, ?_⟩
      rw [List.filter_cons, kpM_at r, if_pos (by simp), none_rule rest nd'.1]
    · have hm : m ∈ rs.map (·.1) := by
        rcases List.mem_cons.mp (show m ∈ p.1 :: rs.map (·.1) from h) with z | z
        · exact absurd z.symm c
        · exact z
      obtain ⟨v', p', h1, h2, h3, h4⟩ := ih nd'.2 hm
      exact ⟨v', p', List.mem_cons_of_mem _ h1, h2, h3, by rw [List.filter_cons, kpM_at r, if_neg (by simpa using c), h4]⟩
theorem heads_el {K : PySem.W.Frag} {σ : L2.St} {H : Hp} {tl : TE} {j : Nat} {t : Addr} {xs : List V} {rs : List Rt} (hj : j < σ.length) (h : Ev tl σ H (.ref t)) (ht : H t = some (.tup xs)) (R : Rs H xs rs) : EvL (tLc (iTup K tl) (gName j) tYes (tOp (rIxT K) (tVar j) (tC (.int 0))) [j]) σ H ((rs.map (·.1)).map V.str) := by
  have hh : Heads H xs (rs.map (·.1)) := by
    have pr := R.pr
    clear R ht
    induction pr with
    | nil => exact .nil
    | cons r _ ih =>
      obtain ⟨c, ts, z, hc⟩ := r.head
      exact .cons ⟨c, ts, z, hc⟩ ih
  have lx := pr_len R.pr
  have few := R.few
  refine ev_isL (el_lcT (headV H) h (st_of ht) (by omega) fun x H1 e1 hxm => ?_) (heads_map hh)
  obtain ⟨z, hz, c, ts, rfl, hc⟩ := pr_mem hh hxm
  refine ev_is (ev_op (ev_var (by simp [hj])) ev_c (rv_ixT (st_of (e1 _ _ hc)) (atI_nat (j := 0) rfl))) ?_
  simp only [headV, hc]
abbrev sReads : Stmt := top 41
abbrev sStands : Stmt := top 43
abbrev nReads : List Str := ["_law_rules_here", "_law_made", "_law_rule_here", "_law_told", "_law_path", "_law_one_here"]
section
variable {P : Program} {w : World} {K : PySem.W.Frag} {mg : Str → Option Value} {base : Heap}
theorem scReads : FnScope nReads ["_law_rules_here", "_law_made"] (defScope sReads) := ⟨rfl, rfl, rfl, by decide +kernel, rfl, by decide +kernel, by decide +kernel⟩
def rdOf (rs : List Rt) (m : Str) : List Str := (toldOf rs m).filter fun y => decide (y ∈ rs.map (·.1))
def spReads : Sp := fun vs H Q _ => ∃ t xs rs m, vs = [.ref t, .str m] ∧ H t = some (.tup xs) ∧ Rs H xs rs ∧ m ∈ rs.map (·.1) ∧ RetL ((rdOf rs m).map V.str) H Q
theorem ok_reads {f : Addr} {fd : FuncData} (F : Fun K "_law_reads" "_law_reads" sReads f fd) (T : Gv mg) : FnOk P w K mg base CX0 1 f fd ["_law_rules_here", "_law_made"] spReads := by
  refine F.ok scReads (fun vs H Q E h => ?_) (fun cdv A outer s H vs Q E hr h => ?_)
  · obtain ⟨t, xs, rs, m, rfl, _⟩ := h
    rfl
  · obtain ⟨t, xs, rs, m, rfl, ht, R, hm, k⟩ := h
    refine ⟨_, pss_cons (ps_set (i := 2) scReads.nd rfl (Or.inl rfl) (pe_ix ix_list (pe_lc (own := [("_law_one_here", 5)]) (g := gName 5) rfl scReads.nd (pi_tup (pv 0)) (blkOk_by (N := nReads) (sc := defScope sReads) (by decide +kernel))
          (fun _ _ _ _ _ => pg_name (i := 5) scReads.nd rfl (Or.inl rfl)) (fun _ _ _ _ _ => pts_one (pt_cmpR op_eq (pe_ix (r := rIxT K) ix_tup (pv 5) pe_int (fun _ _ => rfl)) (pv 1) (nomark _))) (fun _ _ _ _ _ => pv 5)) pe_int (fun _ _ => rfl)))
      (pss_cut (ps_set (i := 3) scReads.nd rfl (Or.inl rfl) (pe_ifExp (pt_cmpR op_eq (pe_ix ix_tup (pv 2) pe_int (fun _ _ => rfl)) pe_str (nomark _)) (pe_callTy call_list_of (by rfl) T.lst (by decide +kernel) (pa_cons (pe_ix ix_tup (pv 2) pe_int (fun _ _ => rfl)) pa_nil))
          (pe_ifExp (pt_cmpR op_eq (pe_ix ix_tup (pv 2) pe_int (fun _ _ => rfl)) pe_str (nomark _)) (pe_lst pa_nil) (pe_callTy call_list_of (by rfl) T.lst (by decide +kernel) (pa_cons (pe_slice sl_tupA (pv 2) (po_some pe_int) po_none) pa_nil)))))
      (pss_cut (ps_if (pt_cmpR op_in_seq (pe_ix ix_tup (pv 2) pe_int (fun _ _ => rfl)) (pe_lst (pa_cons pe_str (pa_cons pe_str pa_nil))) (by rfl)) (pss_one (ps_set (i := 3) scReads.nd rfl (Or.inl rfl) (pe_slice sl_list (pv 3) po_none (po_some pe_int)))) pss_nil)
      (pss_one (ps_ret (pe_lc (own := [("_law_path", 4)]) (g := gName 4) rfl scReads.nd (pi_list (pv 3)) (blkOk_by (N := nReads) (sc := defScope sReads) (by decide +kernel))
          (fun _ _ _ _ _ => pg_name (i := 4) scReads.nd rfl (Or.inl rfl))
          (fun _ _ _ _ _ => pts_one (pt_cmpR (r := rIn K false) op_in_seq (pv 4) (pe_lc (own := [("_law_one_here", 5)]) (g := gName 5) (tt := tYes) rfl scReads.nd (pi_tupK (K := K) rfl (pv 0)) (blkOk_by (N := nReads) (by rfl))
            (fun _ _ _ _ _ => pg_name (i := 5) scReads.nd rfl (Or.inl rfl)) (fun _ _ _ _ _ => pts_nil) (fun _ _ _ _ _ => pe_ix (r := rIxT K) ix_tup (pv 5) pe_int (fun _ _ => rfl))) rfl))
          (fun _ _ _ _ _ => pv 4)))))), ?_⟩
    obtain ⟨v, p, hp, rfl, sh, hf⟩ := one_rule R.pr R.nd hm
    have lx := pr_len R.pr
    have few := R.few
    have pf := sh.few
    have big := el_fT (K := K) (σ := [some (.ref t), some (.str p.1), none, none, none, none]) (H := H) (j := 5) (tl := tVar 0) (tt := tTest (tOp rEq (tOp (rIxT K) (tVar 5) (tC (.int 0))) (tVar 1))) (te := tVar 5) (kpM H p.1) id (ev_var (i := 0) (v := .ref t) rfl) (st_of ht) (by omega)
      (fun x H4 e4 hm4 => by
        obtain ⟨q, hq, sq⟩ := pr_mem R.pr hm4
        obtain ⟨c, ts, rfl, hc⟩ := id sq.head
        rw [kpM_at sq]
        refine et_is (et_test (ev_op (ev_op (ev_var rfl) ev_c (rv_ixT (st_of (e4 _ _ hc)) (atI_nat (j := 0) rfl))) (ev_var rfl) (rv_eq rfl))) ?_
        exact decide_eq_decide.mpr ⟨fun h => by injection h, fun h => by rw [h]⟩)
      (fun x H4 e4 hm4 hk4 => ev_var rfl)
    rw [hf] at big
    refine q_raw (op_raw (big H (Ex.refl _) _ fun l0 H1 hl0 e1 h1 => ?_))
    refine ⟨l0, _, 0, v, rfl, rfl, sq_of h1, atI_nat (j := 0) rfl, ?_⟩
    have sh1 := sh.mono e1
    show tCut _ _ _ ([some (.ref t), some (.str p.1), some v, none, none, none] : L2.St) H1
    obtain ⟨ra, kd, ysl, rest, rfl, hra, k1, k2⟩ : ∃ (ra : Addr) (kd : Str) (ysl : List Str) (rest : List V), v = .ref ra ∧ H1 ra = some (.tup (.str p.1 :: .str kd :: rest)) ∧ ((if inV (.str kd) [.str (Str.ofString "pick"), .str (Str.ofString "need")] = true then ysl.take 1 else ysl) = p.2) ∧
        ((kd = Str.ofString "join" ∧ ∃ b, rest = [.ref b] ∧ H1 b = some (.tup (ysl.map V.str))) ∨ (kd ≠ Str.ofString "join" ∧ kd = Str.ofString "names" ∧ ysl = []) ∨ (kd ≠ Str.ofString "join" ∧ kd ≠ Str.ofString "names" ∧ rest = ysl.map V.str)) := by
      generalize hto : p.2 = told at sh1
      cases sh1 with
      | @join a b _ ys h hb hl => exact ⟨a, _, told, [.ref b], rfl, h, by rw [if_neg (by decide +kernel)], .inl ⟨rfl, b, rfl, hb⟩⟩
      | @txts a _ kd ys fs h hk nj hf2 hl =>
        by_cases cn : kd = Str.ofString "names"
        · refine ⟨a, kd, [], _, rfl, h, ?_, .inr (.inl ⟨nj, cn, rfl⟩)⟩
          unfold toldS
          rw [if_pos cn]
          simp
        · refine ⟨a, kd, ys, _, rfl, h, ?_, .inr (.inr ⟨nj, cn, rfl⟩)⟩
          unfold toldS
          rw [if_neg cn]
          by_cases cp : kd = Str.ofString "pick" ∨ kd = Str.ofString "need"
          · rw [if_pos cp, if_pos (by rcases cp with rfl | rfl <;> decide +kernel)]
          · rw [if_neg cp, if_neg (by
              intro z
              have h2 : decide (kd ∈ [Str.ofString "pick", Str.ofString "need"]) = true := by rw [← inV_str]; exact z
              have h3 := of_decide_eq_true h2
              simp only [List.mem_cons, List.not_mem_nil, or_false] at h3
              exact cp h3)]
    refine q_cut (M := fun σ' G => ∃ l, σ' = [some (.ref t), some (.str p.1), some (.ref ra), some (.ref l), none, none] ∧ Ex H1 G ∧ G l = some (.lst (ysl.map V.str))) ?_ ?_
    · refine s_raw (tif_raw ((et_test (ev_op (ev_op (ev_var (i := 2) rfl) ev_c (rv_ixT (st_of hra) (atI_nat (j := 1) rfl))) ev_c (rv_eq rfl))) H1 (Ex.refl _) _ fun H2 e2 => ?_))
      rcases k2 with ⟨rfl, b, rfl, hb⟩ | ⟨nj, rfl, rfl⟩ | ⟨nj, nn, rfl⟩
      · refine iteP (by simp) (cb_raw ((ev_op (ev_var (i := 2) rfl) ev_c (rv_ixT (st_of (e2 _ _ hra)) (atI_nat (j := 2) rfl))) H2 (Ex.refl _) _ fun H3 e3 => ?_))
        exact ⟨b, _, rfl, .inr (st_of ((e2.trans e3) _ _ hb)), fun l hl => ⟨l, rfl, (e2.trans e3).trans (Ex.new hl), upd_same⟩⟩
      · refine iteN (by simpa using nj) (tif_raw ((et_test (ev_op (ev_op (ev_var (i := 2) rfl) ev_c (rv_ixT (st_of (e2 _ _ hra)) (atI_nat (j := 1) rfl))) ev_c (rv_eq rfl))) H2 (Ex.refl _) _ fun H3 e3 => ?_))
        exact iteP (by simp) ⟨by show 0 ≤ sizeLine; decide, fun l hl => ⟨l, rfl, (e2.trans e3).trans (Ex.new hl), upd_same⟩⟩
      · refine iteN (by simpa using nj) (tif_raw ((et_test (ev_op (ev_op (ev_var (i := 2) rfl) ev_c (rv_ixT (st_of (e2 _ _ hra)) (atI_nat (j := 1) rfl))) ev_c (rv_eq rfl))) H2 (Ex.refl _) _ fun H3 e3 => ?_))
        refine iteN (by simpa using nn) (cb_raw ?_)
        refine slice_from (i := 2) (ev_var (i := 2) rfl) ev_c (st_of ((e2.trans e3) _ _ hra)) (by simp) H3 (Ex.refl _) _ fun q H4 e4 hq => ?_
        exact ⟨q, _, rfl, .inr hq, fun l hl => ⟨l, rfl, ((e2.trans e3).trans e4).trans (Ex.new hl), upd_same⟩⟩
    · rintro σ' G ⟨l, rfl, eG, hlG⟩
      refine q_cut (M := fun σ' G => ∃ l, σ' = [some (.ref t), some (.str p.1), some (.ref ra), some (.ref l), none, none] ∧ Ex H1 G ∧ G l = some (.lst (p.2.map V.str))) ?_ ?_
      · refine s_when (b := inV (.str kd) [.str (Str.ofString "pick"), .str (Str.ofString "need")]) (et_test (ev_opL (ev_op (ev_var (i := 2) rfl) ev_c (rv_ixT (st_of (eG _ _ hra)) (atI_nat (j := 1) rfl))) (el_lst (ea_cons ev_c (ea_cons ev_c ea_nil)) (by decide)) fun _ _ h _ => rv_isL (sq_of h) rfl rfl)) (fun hb G1 e2 => ?_) (fun hb G1 e2 => ?_)
        · rw [if_pos hb] at k1
          have hl1 := e2 _ _ hlG
          refine s_raw (el_sl (K := K) (ev_var (i := 3) rfl) eo_none (eo_some ev_c) (sq_of hl1) G1 (Ex.refl _) _ fun q G2 hq e3 h3 => ⟨q, rfl, (eG.trans e2).trans e3, ?_⟩)
          rw [h3, ← k1, List.map_take]
          congr 2
          have c1 : HT.sIx (ysl.map V.str).length 0 none = 0 := HT.sIx_none _ _
          have c2 : HT.sIx (ysl.map V.str).length (ysl.map V.str).length (some ((1 : Nat) : Int)) = min 1 (ysl.map V.str).length := by rw [HT.sIx_nat]
          show cutV _ none (some ((1 : Nat) : Int)) = _
          unfold cutV
          rw [c1, c2]
          simp
        · rw [hb, if_neg (by decide)] at k1
          refine ⟨l, rfl, eG.trans e2, ?_⟩
          rw [e2 _ _ hlG, k1]
      · rintro σ' G2 ⟨l2, rfl, eG2, hl2⟩
        have e02 := e1.trans eG2
        refine s_retL (el_fL (K := K) (fun v => match v with | .str y => decide (y ∈ rs.map (·.1)) | _ => false) id (ev_var (i := 3) (v := .ref l2) rfl) (sq_of hl2) (by rw [List.length_map]; omega) (fun x H6 e6 hx => ?_) (fun x H6 e6 hx hk => ev_var rfl)) fun q H6 hq6 e6 h6 => ?_
        · obtain ⟨y, hy, rfl⟩ := List.mem_map.mp hx
          refine et_is (et_test (ev_opL (ev_var rfl) (heads_el (K := K) (j := 5) (by show 5 < 6; decide) (ev_var (i := 0) rfl) ((e02.trans e6) _ _ ht) (R.mono (e02.trans e6))) fun _ _ h _ => rv_isL (sq_of h) rfl (flat_strs _))) ?_
          rw [inV_str]
        · refine k q H6 (fresh_back e02 hq6) (e02.trans e6) ?_
          rw [h6, List.map_id, List.filter_map]
          unfold rdOf
          rw [told_mem R.nd hp]
          rfl
end
end Bl
namespace Bl
open PySem PySem.Spec PyProof.Rows L2 Bk Bm Evl Be Cr Bp TL Kr Ks
abbrev sTups : Stmt := top 42
abbrev nStands : List Str := ["_law_rules_here", "_law_some", "_law_at", "_law_path"]
abbrev nTups : List Str := ["_law_things", "_law_size", "_law_found", "_law_turn", "_law_wider", "_law_some", "_law_one_here"]
section
variable {P : Program} {w : World} {K : PySem.W.Frag} {mg : Str → Option Value} {base : Heap}
theorem scStands : FnScope nStands ["_law_rules_here", "_law_some", "_law_at"] (defScope sStands) := ⟨rfl, rfl, rfl, by decide +kernel, rfl, by decide +kernel, by decide +kernel⟩
theorem rd_few {H : Hp} {xs : List V} {rs : List Rt} (R : Rs H xs rs) {m : Str} (hm : m ∈ rs.map (·.1)) : (rdOf rs m).length ≤ 4 := by
  obtain ⟨v, p, hp, rfl, sh, _⟩ := one_rule R.pr R.nd hm
  unfold rdOf
  rw [told_mem R.nd hp]
  exact Nat.le_trans (List.length_filter_le _ _) sh.few
/-- what is read by a made path that stands in a slot or is looked up -/
theorem reads_el {σ : L2.St} {H : Hp} {ta tb : TE} {t : Addr} {xs : List V} {rs : List Rt} {m : Str} (h1 : Ev ta σ H (.ref t)) (h2 : Ev tb σ H (.str m)) (ht : H t = some (.tup xs)) (R : Rs H xs rs) (hm : m ∈ rs.map (·.1)) :
    EvL (tCall spReads [] E0 (tCons ta (tCons tb tNil))) σ H ((rdOf rs m).map V.str) := fun H1 e Q q =>
  call_raw (cons_raw (h1 H1 e _ fun H2 e2 => cons_raw (h2 H2 (e.trans e2) _ fun H3 e3 => ⟨t, xs, rs, m, rfl, ((e.trans e2).trans e3) _ _ ht, R.mono ((e.trans e2).trans e3), hm, fun p H4 hp e4 h4 => q p H4 (fresh_back (e2.trans e3) hp) ((e2.trans e3).trans e4) h4⟩)))
def spStands : Sp := fun vs H Q _ => ∃ (t : Addr) (xs : List V) (rs : List Rt) (c : Addr) (ts : List Str) (i : Nat) (m : Str), vs = [.ref t, .ref c, .int (i : Int)] ∧ H t = some (.tup xs) ∧ Rs H xs rs ∧ SqT K H c (ts.map V.str) ∧ ts.length ≤ 6 ∧ ts[i]? = some m ∧ m ∈ rs.map (·.1) ∧ RetV (.bl ((rdOf rs m).all fun y => decide (y ∈ ts.take i))) H Q
theorem ok_stands {f : Addr} {fd : FuncData} (F : Fun K "_law_stands" "_law_stands" sStands f fd) (T : Gv mg) (cR : Cal P w K mg base CX0 1 "_law_reads" ["_law_rules_here", "_law_made"] spReads) : FnOk P w K mg base CX0 2 f fd ["_law_rules_here", "_law_some", "_law_at"] (spStands (K := K)) := by
  refine F.ok scStands (fun vs H Q E h => ?_) (fun cdv A outer s H vs Q E hr h => ?_)
  · obtain ⟨t, xs, rs, c, ts, i, m, rfl, _⟩ := h
    rfl
  · obtain ⟨t, xs, rs, c, ts, i, m, rfl, ht, R, hc, hl, hi, hm, k⟩ := h
    refine ⟨_, pss_one (ps_ret (pe_callB (cr_all rfl) (by rfl) T.all boot_all (pa_cons (pe_lc (own := [("_law_path", 3)]) (g := gName 3) (tt := tYes) rfl scStands.nd (pi_list (pe_call cR.F hr (by rfl) cR.g cR.kp cR.b .nil pass0 (pa_cons (pv 0) (pa_cons (pe_ix ix_tup (pv 1) (pv 2) (fun _ _ => rfl)) pa_nil)))) (blkOk_by (N := nStands) (sc := defScope sStands) (by decide +kernel))
        (fun _ _ _ _ _ => pg_name (i := 3) scStands.nd rfl (Or.inl rfl)) (fun _ _ _ _ _ => pts_nil)
        (fun _ _ _ _ _ => pe_cmpR (r := rIn K false) op_in_seq (pv 3) (pe_slice (r := rSlA K) sl_tupA (pv 1) po_none (po_some (pv 2))) rfl)) pa_nil))), ?_⟩
    have il := (List.getElem?_eq_some_iff.mp hi).1
    have rf := rd_few R hm
    refine s_ret (ev_is (ev_all (bs := (rdOf rs m).map fun y => decide (y ∈ ts.take i)) (ev_isL (el_lcN (K := K) (j := 3) (fun v => match v with | .str y => .bl (decide (y ∈ ts.take i)) | _ => .non) (reads_el (ev_var (i := 0) rfl) (ev_op (ev_var (i := 1) rfl) (ev_var (i := 2) rfl) (rv_ixT hc (atI_nat (j := i) (by rw [List.getElem?_map, hi]; rfl)))) ht R hm) (by rw [List.length_map]; omega) (fun x H1 e1 hx => ?_)) ?_)) ?_) k
    · obtain ⟨y, hy, rfl⟩ := List.mem_map.mp hx
      intro H2 e2 Q2 q2
      refine op_raw ⟨_, rfl, ?_⟩
      refine slice_to (i := i) (ev_var (i := 1) rfl) (ev_var (i := 2) rfl) (ex_t (e1.trans e2) hc) (by rw [List.length_map]; omega) H2 (Ex.refl _) _ fun p H3 e3 hp => ?_
      rw [← List.map_take] at hp
      refine ⟨p, _, rfl, .inr hp, rfl, flat_strs _, ?_⟩
      rw [if_neg (by decide), inV_str]
      exact q2 H3 e3
    · rw [List.map_map, List.map_map]
      rfl
    · rw [List.all_map]
      rfl
/-! all rows of unlike things -/
theorem scTups : FnScope nTups ["_law_things", "_law_size"] (defScope sTups) := ⟨rfl, rfl, rfl, by decide +kernel, rfl, by decide +kernel, by decide +kernel⟩
def ext (M t : List Str) : List (List Str) := (M.filter fun x => decide (x ∉ t)).map fun x => t ++ [x]
def spTups : Sp := fun vs H Q _ => ∃ (l : Addr) (M : List Str) (k : Nat), vs = [.ref l, .int (k : Int)] ∧ H l = some (.lst (M.map V.str)) ∧ M.length ≤ 6 ∧ k ≤ 6 ∧ M.Nodup ∧ ∀ p vs' G, Ex H G → H p = none → G p = some (.lst vs') → Paired (TupAt G) vs' (Gm.tups M k) → Q (.ref p) G
theorem ok_tups {f : Addr} {fd : FuncData} (F : Fun K "_law_tuples" "_law_tuples" sTups f fd) (T : Gv mg) : FnOk P w K mg base CX0 1 f fd ["_law_things", "_law_size"] spTups := by
  refine F.ok scTups (fun vs H Q E h => ?_) (fun cdv A outer s H vs Q E hr h => ?_)
  · obtain ⟨l, M, k, rfl, _⟩ := h
    rfl
  · obtain ⟨l, M, k, rfl, hl, h6, hk, nd, kq⟩ := h
    refine ⟨_, pss_cons (ps_set (i := 2) scTups.nd rfl (Or.inl rfl) (pe_lst (pa_cons (pe_tup pa_nil) pa_nil)))
      (pss_cons (ps_for PassesOwn.never rfl (pi_range1 (by rfl) T.rng (pa_cons (pv 1) pa_nil)) (pg_name (i := 3) scTups.nd rfl (Or.inl rfl))
        (pss_cons (ps_set (i := 4) scTups.nd rfl (Or.inl rfl) (pe_lst pa_nil))
        (pss_cons (ps_for PassesOwn.never rfl (pi_list (pv 2)) (pg_name (i := 5) scTups.nd rfl (Or.inr rfl))
          (pss_one (ps_set (i := 4) scTups.nd rfl (Or.inl rfl) (pe_op op_cat (pv 4) (pe_lc (own := [("_law_one_here", 6)]) (g := gName 6) rfl scTups.nd (pi_list (pv 0)) (blkOk_by (N := nTups) (sc := defScope sTups) (by decide +kernel))
            (fun _ _ _ _ _ => pg_name (i := 6) scTups.nd rfl (Or.inl rfl)) (fun _ _ _ _ _ => pts_one (pt_cmpR (r := rIn K true) op_notIn_seq (pv 6) (pv 5) rfl)) (fun _ _ _ _ _ => pe_op (r := rCatA K) op_catA (pv 5) (pe_tup (pa_cons (pv 6) pa_nil))))))))
        (pss_one (ps_set (i := 2) scTups.nd rfl (Or.inl rfl) (pv 4))))))
      (pss_one (ps_ret (pv 2)))), ?_⟩
    have lenT : ∀ i, i ≤ 6 → (Gm.tups M i).length ≤ 46656 := fun i hi => Nat.le_trans (tups_len h6 i) (pow_small i hi)
    have extB : ∀ t, (ext M t).length ≤ 6 := fun t => by
      unfold ext
      rw [List.length_map]
      exact Nat.le_trans (List.length_filter_le _ _) h6
    refine q_raw ?_
    refine ⟨by show 0 ≤ sizeLine; decide, fun T0 hT0 => ⟨by show 1 ≤ sizeLine; decide, fun l0 hl0 => ?_⟩⟩
    have e0 := (Ex.new (o := .tup []) hT0).trans (Ex.new (o := .lst [V.ref T0]) hl0)
    have h0 : (upd (upd H T0 (.tup [])) l0 (.lst [V.ref T0])) l0 = some (.lst [V.ref T0]) := upd_same
    have p0 : Paired (TupAt (upd (upd H T0 (.tup [])) l0 (.lst [V.ref T0]))) [V.ref T0] (Gm.tups M 0) := .cons ⟨T0, rfl, (Ex.new hl0) _ _ upd_same⟩ .nil
    have f0 : H l0 = none := fresh_back (Ex.new hT0) hl0
    show tSeq (tFor _ _ _) _ _ ([some (.ref l), some (.int (k : Int)), some (.ref l0), none, none, none, none] : L2.St) _
    generalize upd (upd H T0 (.tup [])) l0 (.lst [V.ref T0]) = H0 at e0 h0 p0 ⊢
    refine seq_raw ?_
    refine ⟨_, rfl, (k : Int), rfl, by omega, by omega, for_range (lo := 0) (n := ((k : Nat) : Int).toNat) (fun i τ G => ∃ (l1 : Addr) (vs : List V) (u3 u4 u5 : Option V), τ = [some (.ref l), some (.int (k : Int)), some (.ref l1), u3, u4, u5, none] ∧ Ex H G ∧ H l1 = none ∧ G l1 = some (.lst vs) ∧ Paired (TupAt G) vs (Gm.tups M i)) ⟨l0, _, none, none, none, rfl, e0, f0, h0, p0⟩ ?_ ?_⟩
    · rintro i τ G hi ⟨l1, vs, u3, u4, u5, rfl, eG, f1, h1, pt⟩
      have hik : i < k := by simpa using hi
      have pl := pr_len pt
      have lt := lenT i (by omega)
      show tSeq (tAsg _ (gName 4)) _ _ ([some (.ref l), some (.int (k : Int)), some (.ref l1), some (.int (0 + (i : Nat))), u4, u5, none] : L2.St) G
      refine q_asgL (xs := []) (el_lst ea_nil (by decide)) fun w0 G1 hw0 e1 hw => ?_
      show tSeq (tFor _ _ _) _ _ ([some (.ref l), some (.int (k : Int)), some (.ref l1), some (.int (0 + (i : Nat))), some (.ref w0), u5, none] : L2.St) G1
      have eG1 := eG.trans e1
      have fw0 : H w0 = none := fresh_back eG hw0
      refine seq_raw ?_
      refine ⟨_, rfl, l1, rfl, ⟨vs, sq_of (e1 _ _ h1)⟩, for_list (K := K) (xs := vs) (fun j σ' F => ∃ (w1 : Addr) (ws : List V) (u5 : Option V), σ' = [some (.ref l), some (.int (k : Int)), some (.ref l1), some (.int (0 + (i : Nat))), some (.ref w1), u5, none] ∧ Ex G1 F ∧ H w1 = none ∧ F w1 = some (.lst ws) ∧ Paired (TupAt F) ws (((Gm.tups M i).take j).flatMap (ext M)))
        ⟨w0, [], u5, rfl, Ex.refl _, fw0, hw, .nil⟩ (fun j σ' F _ q => by obtain ⟨_, _, _, _, q, _⟩ := q; exact sq_of ((e1.trans q) _ _ h1)) (fun j x σ' F hj q => ?_) (fun σ' F q => ?_)⟩
      · obtain ⟨w1, ws, u5', rfl, eF, fw1, hw1, pw⟩ := q
        obtain ⟨t1, ht1, c, rfl, hc⟩ := pr_get (pr_mono pt fun _ _ z => z.mono (e1.trans eF)) hj
        have tl6 : t1.length ≤ 6 := by
          obtain ⟨_, _, z⟩ := (Gm.mem_tups nd).mp (List.mem_of_getElem? ht1)
          omega
        have lw := pr_len pw
        have baseL : (((Gm.tups M i).take j).flatMap (ext M)).length ≤ 46656 * 6 := by
          have z1 := flatMap_len (l := (Gm.tups M i).take j) (f := ext M) (c := 6) fun t _ => extB t
          have z2 := List.length_take_le' j (Gm.tups M i)
          omega
        show tAsg _ (gName 4) _ ([some (.ref l), some (.int (k : Int)), some (.ref l1), some (.int (0 + (i : Nat))), some (.ref w1), some (.ref c), none] : L2.St) F
        refine s_raw (op_raw ⟨_, rfl, ?_⟩)
        refine ⟨_, rfl, l, rfl, ⟨_, sq_of ((eG1.trans eF) _ _ hl)⟩, fun D hD => walk_w (walk_list (K := K) (a := l) (xs := M.map V.str)) (fun n F2 => Ex F F2 ∧ ∃ zs, F2 D = some (.lst zs) ∧ Paired (TupAt F2) zs (((M.take n).filter fun x => decide (x ∉ t1)).map fun x => t1 ++ [x])) ⟨Ex.new hD, [], upd_same, .nil⟩ (fun n F2 _ q => sq_of ((eG1.trans (eF.trans q.1)) _ _ hl)) (fun n x F2 F2' hn q y => ?_) (fun F2 q => ?_)⟩
        · obtain ⟨e2, zs, hzs, pz⟩ := q
          obtain ⟨rfl, hx⟩ := y
          obtain ⟨y, hy, rfl⟩ : ∃ y, M[n]? = some y ∧ x = V.str y := by
            rw [List.getElem?_map] at hx
            cases e : M[n]? with
            | none => rw [e] at hx; cases hx
            | some y => rw [e] at hx; exact ⟨y, rfl, (Option.some.inj hx).symm⟩
          refine ⟨rfl, ?_⟩
          have hc2 := e2 _ _ hc
          have lz := pr_len pz
          have zsm : zs.length ≤ 6 := by
            have z1 := List.length_filter_le (fun x => decide (x ∉ t1)) (M.take n)
            have z2 := List.length_take_le' n M
            rw [lz, List.length_map]
            omega
          have step : (((M.take (n + 1)).filter fun x => decide (x ∉ t1)).map fun x => t1 ++ [x]) = (((M.take n).filter fun x => decide (x ∉ t1)).map fun x => t1 ++ [x]) ++ if decide (y ∉ t1) = true then [t1 ++ [y]] else [] := by
            rw [List.take_succ, hy, List.filter_append, List.map_append]
            congr 1
            show (List.filter _ [y]).map _ = _
            rw [List.filter_cons]
            split <;> rfl
          have tst : EvT (tTest (tOp (rIn K true) (tVar 6) (tVar 5))) ([some (.ref l), some (.int (k : Int)), some (.ref l1), some (.int (0 + (i : Nat))), some (.ref w1), some (.ref c), some (.str y)] : L2.St) F2' (decide (y ∉ t1)) :=
            et_is (et_test (ev_op (ev_var rfl) (ev_var rfl) (rv_niT (st_of hc2) rfl (flat_strs t1)))) (by rw [inV_str]; by_cases c : y ∈ t1 <;> simp [c])
          refine tst F2' (Ex.refl _) _ fun F3 e3 => ?_
          by_cases cy : y ∉ t1
          · refine iteP (decide_eq_true cy) (op_raw ⟨_, rfl, tup_raw ⟨_, rfl, by show 1 ≤ sizeLine; decide, fun Tn hT => ?_⟩⟩)
            have eT := Ex.new (o := .tup [V.str y]) hT
            have fin : ∀ (pn : Addr) (F4 : Hp), Ex F3 F4 → F4 pn = some (.tup ((t1 ++ [y]).map V.str)) → ∃ acc, F4 D = some (.lst acc) ∧ acc.length < sizeLine ∧ Ex F (upd F4 D (.lst (acc ++ [V.ref pn]))) ∧ ∃ zs, (upd F4 D (.lst (acc ++ [V.ref pn]))) D = some (.lst zs) ∧ Paired (TupAt (upd F4 D (.lst (acc ++ [V.ref pn])))) zs (((M.take (n + 1)).filter fun x => decide (x ∉ t1)).map fun x => t1 ++ [x]) := fun pn F4 e4 hpn => by
              have hz4 := (e3.trans e4) _ _ hzs
              refine ⟨zs, hz4, sz_lt (by omega), ((e2.trans e3).trans e4).mut hD, _, upd_same, ?_⟩
              rw [step, if_pos (decide_eq_true cy)]
              exact pr_app (pr_mono pz fun _ _ z => (z.mono (e3.trans e4)).updL hz4) (.cons (TupAt.updL ⟨pn, rfl, hpn⟩ hz4) .nil)
            refine ⟨c, Tn, t1.map V.str, [.str y], rfl, rfl, st_of (eT _ _ (e3 _ _ hc2)), st_of upd_same, by rw [List.length_map]; exact sz_of (by show t1.length + 1 ≤ _; omega), fun z => ?_, fun _ z => (by cases z), fun _ _ pn hpn => ?_⟩
            · have tz : t1 = [] := List.map_eq_nil_iff.mp z
              subst tz
              exact fin Tn _ eT upd_same
            · refine fin pn _ (eT.trans (Ex.new hpn)) ?_
              rw [upd_same, List.map_append]
              rfl
          · refine iteN (decide_eq_false cy) ⟨e2.trans e3, zs, e3 _ _ hzs, ?_⟩
            rw [step, decide_eq_false cy, if_neg (by decide), List.append_nil]
            exact pr_mono pz fun _ _ z => z.mono e3
        · obtain ⟨e2, zs, hzs, pz⟩ := q
          rw [List.length_map, List.take_length] at pz
          have lz := pr_len pz
          have ez := extB t1
          unfold ext at ez
          have hw2 := e2 _ _ hw1
          refine ⟨w1, D, ws, zs, rfl, rfl, hw2, hzs, by rw [lw, lz, sizeLine_eq]; omega, fun w2 hw2n => ?_⟩
          have e3 := Ex.new (o := .lst (ws ++ zs)) hw2n
          refine ⟨w2, ws ++ zs, _, rfl, (eF.trans e2).trans e3, fresh_back (eG1.trans (eF.trans e2)) hw2n, upd_same, ?_⟩
          rw [take_flat ht1]
          exact pr_app (pr_mono pw fun _ _ z => z.mono (e2.trans e3)) (pr_mono pz fun _ _ z => z.mono e3)
      · obtain ⟨w1, ws, u5', rfl, eF, fw1, hw1, pw⟩ := q
        rw [pl, List.take_length] at pw
        exact ⟨_, rfl, w1, ws, _, _, _, rfl, eG1.trans eF, fw1, hw1, pw⟩
    · rintro τ G ⟨l1, vs, u3, u4, u5, rfl, eG, f1, h1, pt⟩
      have ek : ((k : Nat) : Int).toNat = k := by omega
      rw [ek] at pt
      exact ⟨_, rfl, kq l1 vs G eG f1 h1 pt⟩
end
end Bl
namespace Gm
section
variable {α : Type} [DecidableEq α] [Inhabited α] {M : List α} {E : α → α → Bool}
theorem path_ix : ∀ (t : List α), ((List.range (t.length - 1)).all fun i => E (t.getD i default) (t.getD (i + 1) default)) = path E t
  | [] => rfl
  | [_] => rfl
  | a :: b :: r => by
    have ih := path_ix (b :: r)
    have e : (a :: b :: r).length - 1 = ((b :: r).length - 1) + 1 := by simp
    rw [e, List.range_succ_eq_map, List.all_cons, List.all_map]
    show (E a b && _) = (E a b && path E (b :: r))
    congr 1
/-- who stands ahead, at the first place the last -/
def prev (t : List α) (i : Nat) : α := if i = 0 then t.getLast?.getD default else t.getD (i - 1) default
theorem ring_ix (t : List α) (h : t ≠ []) : ((List.range t.length).all fun i => E (prev t i) (t.getD i default)) = ring E t := by
  have ih := path_ix (E := E) t
  cases t with
  | nil => exact absurd rfl h
  | cons a r =>
    cases hl : (a :: r).getLast? with
    | none => rw [List.getLast?_eq_none_iff] at hl; cases hl
    | some l =>
      unfold ring closes
      rw [hl, ← ih]
      have e : (a :: r).length = ((a :: r).length - 1) + 1 := by simp
      rw [e, List.range_succ_eq_map, List.all_cons, List.all_map, Bool.and_comm]
      congr 1
      show E (prev (a :: r) 0) a = E l a
      unfold prev
      rw [if_pos rfl, hl]
      rfl
theorem prev_succ (t : List α) (i : Nat) : prev t (i + 1) = t.getD i default := by
  unfold prev
  rw [if_neg (by omega)]
  rfl
theorem take_tups (nd : M.Nodup) {j : Nat} (h : j ≤ M.length) : M.take j ∈ tups M j := (mem_tups nd).mpr ⟨nd.sublist (List.take_sublist _ _), fun x hx => List.mem_of_mem_take hx, by rw [List.length_take]; omega⟩
theorem rings_proc : rings M E M.length = (proc M M.length).filter (ring E) := by
  unfold rings proc
  rw [filter_flatMap]
theorem proc_succ (n : Nat) : proc M (n + 1) = proc M n ++ tups M (n + 1) := by
  unfold proc
  rw [List.range_succ, List.flatMap_append, List.flatMap_cons, List.flatMap_nil, List.append_nil]
end
end Gm
namespace Bl
open PySem PySem.Spec PyProof.Rows L2 Bk Bm Evl Be Cr Bp TL Kr Ks
section
variable {K : PySem.W.Frag} {σ : L2.St} {H G : Hp} {te tn tm : TE} {r : Addr}
theorem el_rng1 {j n : Nat} (f : Nat → V) (h : Ev tn σ H (.int (n : Int))) (hz : n ≤ 1000) (he : ∀ i H1, Ex H H1 → i < n → Ev te (σ.set j (some (.int (0 + (i : Int))))) H1 (f i)) : EvL (tLc (iRng1 (tCons tn tNil)) (gName j) tYes te [j]) σ H ((List.range n).map f) := fun H0 e Q q =>
  h H0 e _ fun H1 e1 => ⟨(n : Int), rfl, by omega, by omega, fun D hD => walk_w (walk_range (lo := 0) (n := n)) (fun i G => Ex H1 G ∧ G D = some (.lst ((List.range i).map f))) ⟨Ex.new hD, upd_same⟩ (fun _ _ _ _ => trivial) (fun i x G G' hi p y => by
    obtain ⟨s1, hd⟩ := p
    obtain ⟨rfl, rfl⟩ := y
    have ee : (wipe σ [j]).set j (some (V.int (0 + (i : Int)))) = σ.set j (some (V.int (0 + (i : Int)))) := by
      show (σ.set j none).set j _ = _
      rw [List.set_set]
    show wipe ((wipe σ [j]).set j (some (V.int (0 + (i : Int))))) [j] = wipe σ [j] ∧ _
    rw [ee]
    refine ⟨by show (σ.set j _).set j none = σ.set j none; rw [List.set_set], ?_⟩
    unfold tYes
    refine iteP rfl ?_
    refine he i G' ((e.trans e1).trans s1) hi G' (Ex.refl _) _ fun G2 e2 => ⟨_, e2 D _ hd, sz_lt (by rw [List.length_map, List.length_range]; omega), (s1.trans e2).mut hD, ?_⟩
    rw [upd_same, List.range_succ, List.map_append]
    rfl) fun G p => q D G (fresh_back e1 hD) (e1.trans p.1) p.2⟩
theorem el_rng2 {j n : Nat} (f : Nat → V) (h1 : Ev tm σ H (.int 1)) (h : Ev tn σ H (.int (n : Int))) (hz : n ≤ 1000) (he : ∀ i H1, Ex H H1 → i < n - 1 → Ev te (σ.set j (some (.int (1 + (i : Int))))) H1 (f i)) : EvL (tLc (iRng2 (tCons tm (tCons tn tNil))) (gName j) tYes te [j]) σ H ((List.range (n - 1)).map f) := fun H0 e Q q =>
  h1 H0 e _ fun Hm em => h Hm (e.trans em) _ fun H1 e1 => ⟨1, (n : Int), rfl, ⟨by omega, by omega, by omega, by omega⟩, by
    have en : ((n : Int) - 1).toNat = n - 1 := by omega
    rw [en]
    exact fun D hD => walk_w (walk_range (lo := 1) (n := n - 1)) (fun i G => Ex H1 G ∧ G D = some (.lst ((List.range i).map f))) ⟨Ex.new hD, upd_same⟩ (fun _ _ _ _ => trivial) (fun i x G G' hi p y => by
      obtain ⟨s1, hd⟩ := p
      obtain ⟨rfl, rfl⟩ := y
      have ee : (wipe σ [j]).set j (some (V.int (1 + (i : Int)))) = σ.set j (some (V.int (1 + (i : Int)))) := by
        show (σ.set j none).set j _ = _
        rw [List.set_set]
      show wipe ((wipe σ [j]).set j (some (V.int (1 + (i : Int))))) [j] = wipe σ [j] ∧ _
      rw [ee]
      refine ⟨by show (σ.set j _).set j none = σ.set j none; rw [List.set_set], ?_⟩
      unfold tYes
      refine iteP rfl ?_
      refine he i G' (((e.trans em).trans e1).trans s1) hi G' (Ex.refl _) _ fun G2 e2 => ⟨_, e2 D _ hd, sz_lt (by rw [List.length_map, List.length_range]; omega), (s1.trans e2).mut hD, ?_⟩
      rw [upd_same, List.range_succ, List.map_append]
      rfl) fun G p => q D G (fresh_back (em.trans e1) hD) ((em.trans e1).trans p.1) p.2⟩
theorem for_lst_raw {tl : TE} {g : TG} {tb : TS} {De : Ends} (h : tl σ H fun x H1 => tFor (iList K (tC x)) g tb De σ H1) : tFor (iList K tl) g tb De σ H := h
theorem TupAt.updD {v : V} {t : List Str} {D : Addr} {kvs : List (Key × V)} {o : HO} (h : TupAt H v t) (hD : H D = some (.dK kvs)) : TupAt (upd H D o) v t := by
  obtain ⟨b, z, h⟩ := h
  exact ⟨b, z, by rw [upd_ne (ne_of h hD (by intro z; cases z))]; exact h⟩
theorem TupAt.dr {v : V} {t : List Str} (h : TupAt H v t) (row : Row K H r) (d : Dr K r H G) : TupAt G v t := by
  obtain ⟨b, z, h⟩ := h
  obtain ⟨rl, hr⟩ := row.at
  exact ⟨b, z, d.kp _ _ (ne_of h hr (by intro z; cases z)) h⟩
theorem put_len (kvs : List (Key × V)) (k : Key) (v : V) : (putK kvs k v).length ≤ kvs.length + 1 := by
  unfold putK
  split <;> simp
/-- rows of texts as data -/
theorem dp_rows {vs : List V} {ts : List (List Str)} (h : Paired (TupAt H) vs ts) : DpAll K H vs (ts.map fun t => PyData.tuple (t.map PyData.str)) := by
  induction h with
  | nil => exact .nil
  | cons r _ ih =>
    obtain ⟨b, rfl, hb⟩ := r
    exact .cons (.tup (st_of hb) (dp_txts K H _)) ih
theorem sh_rows {ts : List (List Str)} (h : ∀ t ∈ ts, ∀ y ∈ t, PyData.strOk y = true) : SeqAt.shaped (.list (ts.map fun t => PyData.tuple (t.map PyData.str))) = true := by
  have all : PyData.canLayAll0 (ts.map fun t => PyData.tuple (t.map PyData.str)) = true ∧ PyData.depthAll (ts.map fun t => PyData.tuple (t.map PyData.str)) ≤ 3 := by
    induction ts with
    | nil => exact ⟨rfl, by simp [PyData.depthAll]⟩
    | cons t r ih =>
      obtain ⟨i1, i2⟩ := ih fun t ht => h t (List.mem_cons_of_mem _ ht)
      obtain ⟨l1, l2⟩ := lay_txts (h t List.mem_cons_self)
      refine ⟨?_, ?_⟩
      · show (PyData.canLayAll0 (t.map PyData.str) && PyData.canLayAll0 (r.map fun t => PyData.tuple (t.map PyData.str))) = true
        rw [l1, i1]
        rfl
      · simp only [List.map_cons, PyData.depthAll, PyData.depth] at i2 ⊢
        omega
  show (PyData.canLayAll0 (ts.map fun t => PyData.tuple (t.map PyData.str)) && decide (PyData.depth (.list (ts.map fun t => PyData.tuple (t.map PyData.str))) ≤ 64)) = true
  rw [all.1, decide_eq_true (by have := all.2; simp only [PyData.depth]; omega)]
  rfl
theorem eqv_nil (ts : List (List Str)) : PyData.eqv (.list (ts.map fun t => PyData.tuple (t.map PyData.str))) (.list []) = decide (ts = []) := by
  cases ts with
  | nil => simp [PyData.eqv, PyData.eqvAll]
  | cons _ _ => simp [PyData.eqv, PyData.eqvAll]
theorem any_rows (ts : List (List Str)) (t : List Str) : ((ts.map fun t => PyData.tuple (t.map PyData.str)).any fun z => PyData.eqv z (.tuple (t.map PyData.str))) = decide (t ∈ ts) := by
  rw [List.any_map]
  induction ts with
  | nil => simp
  | cons x r ih =>
    rw [List.any_cons, ih]
    show (PyData.eqv (.tuple (x.map PyData.str)) (.tuple (t.map PyData.str)) || decide (t ∈ r)) = _
    rw [eqv_tup]
    by_cases c : x = t
    · subst c
      simp
    · have c2 : ¬ t = x := fun z => c z.symm
      simp [c, c2]
theorem eqv_ints : ∀ (a : List Int), PyData.eqv (.list (a.map PyData.int)) (.list (a.map PyData.int)) = true := by
  intro a
  rw [PyData.eqv]
  induction a with
  | nil => rfl
  | cons x r ih =>
    show (PyData.eqv (.int x) (.int x) && PyData.eqvAll (r.map PyData.int) (r.map PyData.int)) = true
    rw [ih]
    simp [PyData.eqv]
theorem sh_ints (a : List Int) : SeqAt.shaped (.list (a.map PyData.int)) = true := by
  have lay : PyData.canLayAll0 (a.map PyData.int) = true := by
    induction a with
    | nil => rfl
    | cons x r ih =>
      show (true && PyData.canLayAll0 (r.map PyData.int)) = true
      rw [ih]
      rfl
  have dep := depth_ints a
  show (PyData.canLayAll0 (a.map PyData.int) && decide (PyData.depth (.list (a.map PyData.int)) ≤ 64)) = true
  rw [lay, decide_eq_true (by simp only [PyData.depth]; omega)]
  rfl
theorem rd_ed {rs : List Rt} {M : List Str} (md : Md rs M) {m y : Str} (hy : y ∈ M) : decide (y ∈ rdOf rs m) = Ed rs m y := by
  unfold rdOf Ed
  refine decide_eq_decide.mpr ?_
  rw [List.mem_filter, decide_eq_true_eq]
  exact ⟨fun z => z.1, fun z => ⟨z, (md.mem y).mp hy⟩⟩
theorem rd_td {rs : List Rt} {M : List Str} (md : Md rs M) {m y : Str} : y ∈ rdOf rs m ↔ y ∈ Gm.td M (Ed rs) m := by
  unfold rdOf Gm.td Ed
  rw [List.mem_filter, List.mem_filter, decide_eq_true_eq, decide_eq_true_eq, md.mem y]
  exact And.comm
theorem iteF {A B : Prop} (h : B) : if (false = true) then A else B := by
  rw [if_neg (by decide)]
  exact h
end
end Bl
namespace Bl
open PySem PySem.Spec PyProof.Rows L2 Bk Bm Evl Be Cr Bp TL Kr Ks
section
variable {K : PySem.W.Frag} {σ : L2.St} {H G : Hp} {t c r rl dl b : Addr} {xs : List V} {rs : List Rt} {M T : List Str}
theorem ifs_raw {tt : TT} {tu tw : TS} {De : Ends} (h : tt σ G fun b H1 => if b = true then tu De σ H1 else tw De σ H1) : tIfS tt tu tw De σ G := h
theorem tst_raw {te : TE} {Q : Bool → Hp → Prop} (h : te σ G fun x H1 => ∃ k, x = .bl k ∧ Q k H1) : tTest te σ G Q := h
theorem drp_raw {te : TE} {De : Ends} (h : te σ G fun _ H1 => De.nx σ H1) : tDrop te De σ G := h
/-- the question of a turn: is y read by m -/
abbrev tAskR (K : PySem.W.Frag) : TE := tOp (rIn K false) (tOp (rIxT K) (tVar 8) (tVar 9)) (tCall spReads [] E0 (tCons (tVar 2) (tCons (tOp (rIxT K) (tVar 8) (tOp (rI0 fun i j => V.int (i - j)) (tVar 9) (tC (V.int 1)))) tNil)))
theorem reads_at {z : Int} {y m : Str} (s2 : σ[2]? = some (some (.ref t))) (s8 : σ[8]? = some (some (.ref c))) (s9 : σ[9]? = some (some (.int z))) (ht : H t = some (.tup xs)) (R : Rs H xs rs) (md : Md rs M)
    (hc : H c = some (.tup (T.map V.str))) (hy : atI (T.map V.str) z = some (.str y)) (hm : atI (T.map V.str) (z - 1) = some (.str m)) (my : y ∈ M) (mm : m ∈ M) : Ev (tAskR K) σ H (.bl (Ed rs m y)) := fun H1 e Q q =>
  op_raw (ev_op (ev_var s8) (ev_var s9) (rv_ixT (st_of hc) hy) H1 e _ fun H2 e2 => reads_el (ev_var s2) (ev_op (ev_var s8) (ev_op (ev_var s9) ev_c rv_I0) (rv_ixT (st_of hc) hm)) ht R ((md.mem m).mp mm) H2 (e.trans e2) _ fun p H3 _ e3 h3 =>
    ⟨p, _, rfl, .inl (sq_of h3), rfl, flat_strs _, by rw [if_neg (by decide), inV_str, rd_ed md my]; exact q H3 (e2.trans e3)⟩)
theorem at_get {i : Nat} {z : Int} (hz : z = (i : Int)) (hi : i < T.length) : atI (T.map V.str) z = some (.str (T.getD i default)) := by
  subst hz
  refine atI_nat (j := i) ?_
  rw [List.getElem?_map, List.getD_eq_getElem?_getD, List.getElem?_eq_getElem hi]
  rfl
theorem at_prev {i : Nat} {z : Int} (hz : z = (i : Int) - 1) (hi : i < T.length) : atI (T.map V.str) z = some (.str (Gm.prev T i)) := by
  unfold Gm.prev
  by_cases h0 : i = 0
  · subst h0
    rw [if_pos rfl]
    cases hl : T.getLast? with
    | none => rw [List.getLast?_eq_none_iff] at hl; rw [hl] at hi; cases hi
    | some l =>
      have e : z = -1 := by omega
      rw [e]
      refine at_neg ?_
      rw [List.getLast?_map, hl]
      rfl
  · rw [if_neg h0]
    exact at_get (by omega) (by omega)
theorem get_mem {i : Nat} (hi : i < T.length) : T.getD i default ∈ T := by
  rw [List.getD_eq_getElem?_getD, List.getElem?_eq_getElem hi]
  exact List.getElem_mem hi
theorem prev_mem {i : Nat} (hi : i < T.length) : Gm.prev T i ∈ T := by
  unfold Gm.prev
  by_cases h0 : i = 0
  · rw [if_pos h0]
    cases hl : T.getLast? with
    | none => rw [List.getLast?_eq_none_iff] at hl; rw [hl] at hi; cases hi
    | some l => exact List.mem_of_getLast? hl
  · rw [if_neg h0]
    exact get_mem (by omega)
/-- what stands before a turn's two questions -/
structure At9 (K : PySem.W.Frag) (σ : L2.St) (H : Hp) (t c : Addr) (xs : List V) (rs : List Rt) (M T : List Str) : Prop where
  s2 : σ[2]? = some (some (.ref t))
  s7 : σ[7]? = some (some (.int (T.length : Int)))
  s8 : σ[8]? = some (some (.ref c))
  l9 : 9 < σ.length
  ht : H t = some (.tup xs)
  R : Rs H xs rs
  md : Md rs M
  hc : H c = some (.tup (T.map V.str))
  sub : ∀ y ∈ T, y ∈ M
  ne : T ≠ []
  few : T.length ≤ 6
theorem At9.mono (h : At9 K σ H t c xs rs M T) (e : Ex H G) : At9 K σ G t c xs rs M T := ⟨h.s2, h.s7, h.s8, h.l9, e _ _ h.ht, h.R.mono e, h.md, e _ _ h.hc, h.sub, h.ne, h.few⟩
theorem set9 {v : V} {i : Nat} {u : Option V} (h : σ[i]? = some u) (hi : i ≠ 9) : (σ.set 9 (some v))[i]? = some u := by
  rw [List.getElem?_set_ne (by omega)]
  exact h
theorem at9 {v : V} (h : 9 < σ.length) : (σ.set 9 (some v))[9]? = some (some v) := by
  rw [List.getElem?_set_self h]
theorem et_ring (a : At9 K σ H t c xs rs M T) : EvT (tB (tCB (rAll K) (tCons (tLc (iRng1 (tCons (tVar 7) tNil)) (gName 9) tYes (tAskR K) [9]) tNil))) σ H (Gm.ring (Ed rs) T) := by
  have e1 := Gm.ring_ix (E := Ed rs) T a.ne
  rw [← e1]
  refine et_B (ev_is (ev_all (bs := (List.range T.length).map fun i => Ed rs (Gm.prev T i) (T.getD i default)) (ev_isL (el_rng1 (fun i => .bl (Ed rs (Gm.prev T i) (T.getD i default))) (ev_var a.s7) (by have := a.few; omega) (fun i H1 e hi => ?_)) ?_)) ?_)
  · exact reads_at (set9 a.s2 (by decide)) (set9 a.s8 (by decide)) (at9 a.l9) (e _ _ a.ht) (a.R.mono e) a.md (e _ _ a.hc) (at_get (by omega) hi) (at_prev (by omega) hi) (a.sub _ (get_mem hi)) (a.sub _ (prev_mem hi))
  · rw [List.map_map]
    rfl
  · rw [List.all_map]
    rfl
theorem et_path (a : At9 K σ H t c xs rs M T) : EvT (tB (tCB (rAll K) (tCons (tLc (iRng2 (tCons (tC (.int 1)) (tCons (tVar 7) tNil))) (gName 9) tYes (tAskR K) [9]) tNil))) σ H (Gm.path (Ed rs) T) := by
  have e1 := Gm.path_ix (E := Ed rs) T
  rw [← e1]
  refine et_B (ev_is (ev_all (bs := (List.range (T.length - 1)).map fun i => Ed rs (T.getD i default) (T.getD (i + 1) default)) (ev_isL (el_rng2 (fun i => .bl (Ed rs (T.getD i default) (T.getD (i + 1) default))) ev_c (ev_var a.s7) (by have := a.few; omega) (fun i H1 e hi => ?_)) ?_)) ?_)
  · have h2 : Gm.prev T (i + 1) = T.getD i default := Gm.prev_succ T i
    rw [← h2]
    exact reads_at (set9 a.s2 (by decide)) (set9 a.s8 (by decide)) (at9 a.l9) (e _ _ a.ht) (a.R.mono e) a.md (e _ _ a.hc) (at_get (by omega) (by omega)) (at_prev (i := i + 1) (by omega) (by omega)) (a.sub _ (get_mem (by omega))) (a.sub _ (prev_mem (by omega)))
  · rw [List.map_map]
    rfl
  · rw [List.all_map]
    rfl
/-- all stands but at two places -/
def Kp2 (x y : Addr) (H G : Hp) : Prop := ∀ q o, q ≠ x → q ≠ y → H q = some o → G q = some o
theorem Kp2.of_ex {x y : Addr} (e : Ex H G) : Kp2 x y H G := fun q o _ _ h => e q o h
theorem Kp2.trans {x y : Addr} {F : Hp} (a : Kp2 x y H G) (b : Kp2 x y G F) : Kp2 x y H F := fun q o h1 h2 h => b q o h1 h2 (a q o h1 h2 h)
theorem Kp2.up1 {x y : Addr} {o : HO} (a : Kp2 x y H G) : Kp2 x y H (upd G x o) := fun q u h1 h2 h => by
  rw [upd_ne h1]
  exact a q u h1 h2 h
theorem Kp2.up2 {x y : Addr} {o : HO} (a : Kp2 x y H G) : Kp2 x y H (upd G y o) := fun q u h1 h2 h => by
  rw [upd_ne h2]
  exact a q u h1 h2 h
theorem Kp2.ex {x y : Addr} (hx : H x = none) (hy : H y = none) (e : Ex H G) {F : Hp} (a : Kp2 x y G F) : Ex H F := fun q o h => a q o (fun z => by rw [z, hx] at h; cases h) (fun z => by rw [z, hy] at h; cases h) (e q o h)
/-- what the two books of the turns hold -/
structure LI (G : Hp) (rl dl : Addr) (E : Str → Str → Bool) (P : List (List Str)) : Prop where
  rings : ∃ ws, G rl = some (.lst ws) ∧ Paired (TupAt G) ws (P.filter (Gm.ring E))
  long : ∃ kvs, G dl = some (.dK kvs) ∧ kvs.length ≤ P.length ∧ ∀ m, valV kvs (Sum.inr m) = (Gm.lg E P m).map fun (n : Nat) => V.int (n : Int)
theorem LI.mono {E : Str → Str → Bool} {P : List (List Str)} (h : LI H rl dl E P) (e : Ex H G) : LI G rl dl E P := by
  obtain ⟨⟨ws, h1, h2⟩, kvs, h3, h4⟩ := h
  exact ⟨⟨ws, e _ _ h1, pr_mono h2 fun _ _ z => z.mono e⟩, kvs, e _ _ h3, h4⟩
theorem turn_ok {De : Ends} {P : List (List Str)} (a : At9 K σ G t c xs rs M T) (li : LI G rl dl (Ed rs) P) (s5 : σ[5]? = some (some (.ref rl))) (s6 : σ[6]? = some (some (.ref dl))) (hP : P.length ≤ 1000000)
    (k : ∀ G', Kp2 rl dl G G' → LI G' rl dl (Ed rs) (P ++ [T]) → De.nx σ G') :
    tCut (tIfS (tB (tCB (rAll K) (tCons (tLc (iRng1 (tCons (tVar 7) tNil)) (gName 9) tYes (tAskR K) [9]) tNil))) (tDrop (tBM K "list" rAppend (tVar 5) (tCons (tVar 8) tNil))) tNext)
      (tIfS (tB (tCB (rAll K) (tCons (tLc (iRng2 (tCons (tC (.int 1)) (tCons (tVar 7) tNil))) (gName 9) tYes (tAskR K) [9]) tNil))) (sDPut (tVar 6) (tOp (rIxT K) (tVar 8) (tC (.int 0))) (tVar 7)) tNext) De σ G := by
  obtain ⟨⟨ws, hws, pw⟩, kvs, hkv, hkl, hval⟩ := li
  have lw := pr_len pw
  have lw2 := List.length_filter_le (Gm.ring (Ed rs)) P
  have hrd : rl ≠ dl := fun z => by rw [z, hkv] at hws; cases hws
  have hcr : c ≠ rl := fun z => by rw [← z, a.hc] at hws; cases hws
  have hcd : c ≠ dl := fun z => by rw [← z, a.hc] at hkv; cases hkv
  have step : (P ++ [T]).filter (Gm.ring (Ed rs)) = P.filter (Gm.ring (Ed rs)) ++ if Gm.ring (Ed rs) T = true then [T] else [] := by
    rw [List.filter_append, List.filter_cons]
    rfl
  refine q_cut (M := fun σ' F => σ' = σ ∧ Kp2 rl dl G F ∧ At9 K σ F t c xs rs M T ∧ (∃ ws, F rl = some (.lst ws) ∧ Paired (TupAt F) ws ((P ++ [T]).filter (Gm.ring (Ed rs)))) ∧ F dl = some (.dK kvs)) ?_ ?_
  · refine ifs_raw (et_ring a G (Ex.refl _) _ fun G1 e1 => ?_)
    by_cases hr : Gm.ring (Ed rs) T = true
    · refine iteP hr (drp_raw ?_)
      refine ⟨_, s5, Or.inl ⟨rfl, ws, sq_of (e1 _ _ hws)⟩, _, a.s8, rl, ws, .ref c, rfl, rfl, e1 _ _ hws, by rw [sizeLine_eq]; omega, ?_⟩
      have kp : ∀ q o, q ≠ rl → G q = some o → (upd G1 rl (.lst (ws ++ [.ref c]))) q = some o := fun q o h1 h => by rw [upd_ne h1]; exact e1 _ _ h
      have hrt : t ≠ rl := fun z => by rw [← z, a.ht] at hws; cases hws
      refine ⟨rfl, (Kp2.of_ex e1).up1, ⟨a.s2, a.s7, a.s8, a.l9, kp _ _ hrt a.ht, ⟨pr_mono a.R.pr fun _ _ z => Shp.updL (z.mono e1) (e1 _ _ hws), a.R.nd, a.R.few⟩, a.md, kp _ _ hcr a.hc, a.sub, a.ne, a.few⟩, ⟨_, upd_same, ?_⟩, kp _ _ hrd.symm hkv⟩
      rw [step, if_pos hr]
      exact pr_app (pr_mono pw fun _ _ z => (z.mono e1).updL (e1 _ _ hws)) (.cons ⟨c, rfl, kp _ _ hcr a.hc⟩ .nil)
    · refine iteN (by simpa using hr) ⟨rfl, .of_ex e1, a.mono e1, ⟨ws, e1 _ _ hws, ?_⟩, e1 _ _ hkv⟩
      rw [step, if_neg hr, List.append_nil]
      exact pr_mono pw fun _ _ z => z.mono e1
  · rintro σ' F ⟨rfl, kp, a2, ⟨ws2, hws2, pw2⟩, hkv2⟩
    refine ifs_raw (et_path a2 F (Ex.refl _) _ fun F1 e1 => ?_)
    obtain ⟨m0, T', hT⟩ : ∃ m0 T', T = m0 :: T' := by
      cases T with
      | nil => exact absurd rfl a.ne
      | cons x r => exact ⟨x, r, rfl⟩
    have hlg : ∀ m, Gm.lg (Ed rs) (P ++ [T]) m = if (Gm.path (Ed rs) T && decide (m0 = m)) = true then some T.length else Gm.lg (Ed rs) P m := fun m => by
      rw [Gm.lg_snoc]
      have e : decide (T.head? = some m) = decide (m0 = m) := by rw [hT]; simp
      rw [e]
    by_cases hp : Gm.path (Ed rs) T = true
    · refine iteP hp (dput_raw ?_)
      refine ⟨_, a.s7, _, s6, ?_⟩
      refine op_raw ⟨_, a.s8, c, T.map V.str, 0, .str m0, rfl, rfl, st_of (e1 _ _ a2.hc), by rw [hT]; exact atI_nat (j := 0) rfl, dl, _, rfl, DPut.k (k := Sum.inr m0) (e1 _ _ hkv2) (by rw [sizeLine_eq]; omega), ?_⟩
      refine k _ (((kp.trans (.of_ex e1))).up2) ⟨⟨ws2, ?_, ?_⟩, _, upd_same, ?_, fun m => ?_⟩
      · rw [upd_ne hrd]
        exact e1 _ _ hws2
      · exact pr_mono pw2 fun _ _ z => (z.mono e1).updD (e1 _ _ hkv2)
      · have := put_len kvs (Sum.inr m0) (V.int (T.length : Int))
        rw [List.length_append]
        show _ ≤ P.length + 1
        omega
      · rw [valV_put, hlg, hp, Bool.true_and]
        by_cases hm : m = m0
        · subst hm
          rw [if_pos rfl, if_pos (by simp)]
          rfl
        · rw [if_neg (fun z => hm (Sum.inr.inj z)), if_neg (by simpa using fun z => hm z.symm)]
          exact hval m
    · refine iteN (by simpa using hp) (k _ (kp.trans (.of_ex e1)) ⟨⟨ws2, e1 _ _ hws2, pr_mono pw2 fun _ _ z => z.mono e1⟩, kvs, e1 _ _ hkv2, by rw [List.length_append]; omega, fun m => ?_⟩)
      rw [hlg, if_neg (by rw [Bool.and_eq_true]; exact fun z => hp z.1)]
      exact hval m
end
end Bl
namespace Bl
open PySem PySem.Spec PyProof.Rows L2 Bk Bm Evl Be Cr Bp TL Kr Ks
section
variable {K : PySem.W.Frag} {σ : L2.St} {H G : Hp} {l b rl dl ol : Addr} {rs : List Rt} {M : List Str} {ws : List V} {ts : List (List Str)} {i : Nat}
def FiveR (ts : List (List Str)) : Prop := ∀ t ∈ ts, ∀ y ∈ t, y ∈ five
theorem FiveR.sh (h : FiveR ts) : SeqAt.shaped (.list (ts.map fun t => PyData.tuple (t.map PyData.str))) = true := sh_rows fun t ht y hy => five_strOk y (h t ht y hy)
theorem FiveR.shT {t : List Str} (h : ∀ y ∈ t, y ∈ five) : SeqAt.shaped (.tuple (t.map PyData.str)) = true := sh_txtT fun y hy => five_strOk y (h y hy)
theorem sh_e : SeqAt.shaped (.list []) = true := by decide +kernel
theorem sh_n : SeqAt.shaped .none = true := by decide +kernel
theorem et_ne0 (si : σ[i]? = some (some (.ref l))) (hl : H l = some (.lst ws)) (pw : Paired (TupAt H) ws ts) (f : FiveR ts) : EvT (tTest (tOp (rNeD K) (tVar i) (tLst tNil))) σ H (!decide (ts = [])) :=
  et_test (ev_opL (ev_var si) (el_lst ea_nil (by decide)) fun p H1 hp e H2 e2 Q q => ⟨.list (ts.map fun t => .tuple (t.map .str)), .list [], .lst (sq_of ((e.trans e2) _ _ hl)) (dp_rows (pr_mono pw fun _ _ z => z.mono (e.trans e2))), .lst (sq_of (e2 _ _ hp)) .nil, f.sh, sh_e, by
    rw [eqv_nil]
    exact q H2 (Ex.refl _)⟩)
theorem et_eq0 (si : σ[i]? = some (some (.ref l))) (hl : H l = some (.lst ws)) (pw : Paired (TupAt H) ws ts) (f : FiveR ts) : EvT (tTest (tOp (rEqD K) (tVar i) (tLst tNil))) σ H (decide (ts = [])) :=
  et_test (ev_opL (ev_var si) (el_lst ea_nil (by decide)) fun p H1 hp e H2 e2 Q q => ⟨.list (ts.map fun t => .tuple (t.map .str)), .list [], .lst (sq_of ((e.trans e2) _ _ hl)) (dp_rows (pr_mono pw fun _ _ z => z.mono (e.trans e2))), .lst (sq_of (e2 _ _ hp)) .nil, f.sh, sh_e, by
    rw [eqv_nil]
    exact q H2 (Ex.refl _)⟩)
/-- the first of the told rows, or None, against what the program tells -/
theorem told_ok {sp : Sp} {De : Ends} (si : σ[i]? = some (some (.ref l))) (s3 : σ[3]? = some (some (.ref b))) (hl : G l = some (.lst ws)) (pw : Paired (TupAt G) ws ts) (f : FiveR ts)
    (hsp : ∀ Q E, RetR ts.head? G Q → sp [.ref b] G Q E) (k : ∀ G', Ex G G' → De.nx σ G') :
    tIfS (tTest (tOp (rNeD K) (tCall sp [] E0 (tCons (tVar 3) tNil)) (tIf (tTest (tOp (rNeD K) (tVar i) (tLst tNil))) (tOp (rIxL K) (tVar i) (tC (.int 0))) (tC .non)))) (tRet (tC (.bl false))) tNext De σ G := by
  refine ifs_raw (tst_raw (op_raw (call_raw (cons_raw ⟨_, s3, ?_⟩))))
  refine hsp _ _ ?_
  cases ts with
  | nil =>
    intro G1 e1
    refine tif_raw (et_ne0 (i := i) (ts := []) si (e1 _ _ hl) (pr_mono pw fun _ _ z => z.mono e1) f G1 (Ex.refl _) _ fun G2 e2 => ?_)
    refine iteN (by rfl) ⟨.none, .none, .non, .non, sh_n, sh_n, _, rfl, ?_⟩
    exact iteN (by simp [PyData.eqv]) (k _ (e1.trans e2))
  | cons t r =>
    intro c G1 e1 hc
    refine tif_raw (et_ne0 (i := i) (ts := t :: r) si (e1 _ _ hl) (pr_mono pw fun _ _ z => z.mono e1) f G1 (Ex.refl _) _ fun G2 e2 => ?_)
    cases pw with
    | @cons v _ vs _ hv rest =>
      obtain ⟨c2, rfl, hc2⟩ := hv
      refine iteP (by simp) (op_raw ⟨_, si, l, .ref c2 :: vs, 0, .ref c2, rfl, rfl, sq_of ((e1.trans e2) _ _ hl), atI_nat (j := 0) rfl, ?_⟩)
      have sh := FiveR.shT (f t List.mem_cons_self)
      refine ⟨.tuple (t.map .str), .tuple (t.map .str), .tup (st_of (e2 _ _ hc)) (dp_txts K _ t), .tup (st_of ((e1.trans e2) _ _ hc2)) (dp_txts K _ t), sh, sh, _, rfl, ?_⟩
      rw [eqv_tup]
      exact iteN (by simp) (k _ (e1.trans e2))
theorem ord_none (nd : M.Nodup) (h : Gm.rings M (Ed rs) M.length ≠ []) : ordersOf rs M = [] := Gm.no_order_of_ring nd h
theorem ord_some (nd : M.Nodup) (h : Gm.rings M (Ed rs) M.length = []) : ordersOf rs M ≠ [] := Gm.order_of_no_ring nd h _ (Nat.le_refl _)
theorem depths_ok {sp : Sp} {De : Ends} {m : Addr} (s3 : σ[3]? = some (some (.ref b))) (s4 : σ[4]? = some (some (.ref m))) (s5 : σ[5]? = some (some (.ref rl))) (s6 : σ[6]? = some (some (.ref dl))) (l11 : 11 < σ.length)
    (hm : G m = some (.lst (M.map V.str))) (li : LI G rl dl (Ed rs) (Gm.proc M M.length)) (nd : M.Nodup) (few : M.length ≤ 6) (f : FiveR (Gm.rings M (Ed rs) M.length))
    (hsp : ∀ Q E, (ordersOf rs M = [] → RetV .non G Q) → (ordersOf rs M ≠ [] → RetL (M.map fun m => V.int (depI rs M m)) G Q) → sp [.ref b] G Q E) (k : ∀ G', Ex G G' → De.nx σ G') :
    tIfS (tTest (tOp (rNeD K) (tCall sp [] E0 (tCons (tVar 3) tNil)) (tIf (tTest (tOp (rEqD K) (tVar 5) (tLst tNil))) (tLc (iList K (tVar 4)) (gName 11) tYes (tDGet (tVar 6) (tVar 11)) [11]) (tC .non)))) (tRet (tC (.bl false))) tNext De σ G := by
  obtain ⟨⟨ws, hws, pw⟩, kvs, hkv, hkl, hval⟩ := li
  rw [← Gm.rings_proc] at pw
  refine ifs_raw (tst_raw (op_raw (call_raw (cons_raw ⟨_, s3, ?_⟩))))
  refine hsp _ _ (fun ho G1 e1 => ?_) (fun ho p G1 hp e1 h1 => ?_)
  · have hr : Gm.rings M (Ed rs) M.length ≠ [] := fun z => ord_some nd z ho
    refine tif_raw (et_eq0 (i := 5) s5 (e1 _ _ hws) (pr_mono pw fun _ _ z => z.mono e1) f G1 (Ex.refl _) _ fun G2 e2 => ?_)
    refine iteN (decide_eq_false hr) ⟨.none, .none, .non, .non, sh_n, sh_n, _, rfl, ?_⟩
    exact iteN (by simp [PyData.eqv]) (k _ (e1.trans e2))
  · have hr : Gm.rings M (Ed rs) M.length = [] := Classical.byContradiction fun z => ho (ord_none nd z)
    refine tif_raw (et_eq0 (i := 5) s5 (e1 _ _ hws) (pr_mono pw fun _ _ z => z.mono e1) f G1 (Ex.refl _) _ fun G2 e2 => ?_)
    refine iteP (decide_eq_true hr) ?_
    have e12 := e1.trans e2
    refine el_lcA (K := K) (j := 11) (xs := M.map V.str) (fun v => match v with | .str y => .int (depI rs M y) | _ => .non) (ev_var s4) (sq_of (e12 _ _ hm)) (by rw [List.length_map]; omega) (fun x H1 e hx => ?_) G2 (Ex.refl _) _ fun p2 G3 _ e3 h3 => ?_
    · obtain ⟨y, hy, rfl⟩ := List.mem_map.mp hx
      intro H2 e' Q q
      refine ⟨_, by rw [List.getElem?_set_ne (by decide)]; exact s6, _, List.getElem?_set_self l11, dl, _, rfl, .inl ⟨kvs, Sum.inr y, .inl ((e12.trans (e.trans e')) _ _ hkv), rfl, ?_⟩, q H2 (Ex.refl _)⟩
      rw [hval, (Gm.dep_spec (E := Ed rs) nd hy).1]
      rfl
    · have e4 : (M.map V.str).map (fun v => match v with | .str y => V.int (depI rs M y) | _ => .non) = (M.map fun y => depI rs M y).map V.int := by
        rw [List.map_map, List.map_map]
        rfl
      have e5 : (M.map fun m => V.int (depI rs M m)) = (M.map fun y => depI rs M y).map V.int := by
        rw [List.map_map]
        rfl
      rw [e4] at h3
      rw [e5] at h1
      have sh := sh_ints (M.map fun y => depI rs M y)
      refine ⟨.list ((M.map fun y => depI rs M y).map .int), .list ((M.map fun y => depI rs M y).map .int), .lst (sq_of ((e2.trans e3) _ _ h1)) (dp_ints K _ _), .lst (sq_of h3) (dp_ints K _ _), sh, sh, _, rfl, ?_⟩
      rw [eqv_ints]
      exact iteN (by rfl) (k _ (e12.trans e3))
/-! the turns -/
theorem proc_len (few : M.length ≤ 6) (hn : i ≤ 6) : (Gm.proc M i).length ≤ 6 * 46656 := by
  unfold Gm.proc
  have h := flatMap_len (l := List.range i) (f := fun j => Gm.tups M (j + 1)) (c := 46656) fun j hj => by
    have := List.mem_range.mp hj
    exact Nat.le_trans (tups_len few (j + 1)) (pow_small (j + 1) (by omega))
  rw [List.length_range] at h
  exact Nat.le_trans h (Nat.mul_le_mul_right _ hn)
/-- the names of the law before the draws -/
abbrev Sb (a r t b m rl dl : Addr) (u7 u8 : Option V) : L2.St := [some (.ref a), some (.ref r), some (.ref t), some (.ref b), some (.ref m), some (.ref rl), some (.ref dl), u7, u8, none, none, none, none, none, none, none, none]
abbrev tLenS (K : PySem.W.Frag) (te : TE) : TE := tCB (fun xs H Q => ∃ p ys, xs = [V.ref p] ∧ (SqL K H p ys ∨ SqT K H p ys) ∧ Q (.int (ys.length : Int)) H) (tCons te tNil)
theorem ev_lenL {te : TE} (h : Ev te σ H (.ref l)) (hl : H l = some (.lst ws)) : Ev (tLenS K te) σ H (.int (ws.length : Int)) := fun H1 e Q q => h H1 e _ fun H2 e2 => ⟨l, ws, rfl, .inl (sq_of ((e.trans e2) _ _ hl)), q H2 e2⟩
theorem ev_lenU {te : TE} (h : Ev te σ H (.ref l)) (hl : H l = some (.tup ws)) : Ev (tLenS K te) σ H (.int (ws.length : Int)) := fun H1 e Q q => h H1 e _ fun H2 e2 => ⟨l, ws, rfl, .inr (st_of ((e.trans e2) _ _ hl)), q H2 e2⟩
theorem for_r2 {t1 t2 : TE} {n : Nat} {g : TG} {tb : TS} {De : Ends} (h1 : Ev t1 σ G (.int 1)) (h2 : Ev t2 σ G (.int ((n : Int) + 1))) (hn : n ≤ 1000) (h : ∀ G1, Ex G G1 → tFor (fun _ H R => R (Itr 1 n) H) g tb De σ G1) :
    tFor (iRng2 (tCons t1 (tCons t2 tNil))) g tb De σ G := by
  refine h1 G (Ex.refl _) _ fun G1 e1 => h2 G1 e1 _ fun G2 e2 => ⟨1, _, rfl, ⟨by omega, by omega, by omega, by omega⟩, ?_⟩
  rw [show ((n : Int) + 1 - 1).toNat = n by omega]
  exact h G2 (e1.trans e2)
theorem Rs.kp2 {x y : Addr} {xs ls : List V} {kvs : List (Key × V)} (h : Rs H xs rs) (hx : H x = some (.lst ls)) (hy : H y = some (.dK kvs)) (k : Kp2 x y H G) : Rs G xs rs :=
  ⟨pr_mono h.pr fun _ _ z => z.imp fun _ _ z => k _ _ (ne_of z hx (by intro z; cases z)) (ne_of z hy (by intro z; cases z)) z, h.nd, h.few⟩
theorem turns_ok {De : Ends} {a r t m : Addr} {xs : List V} {H0 : Hp} (e0 : Ex H0 G) (nrl : H0 rl = none) (ndl : H0 dl = none) (ht : H0 t = some (.tup xs)) (R : Rs H0 xs rs) (md : Md rs M) (hm : H0 m = some (.lst (M.map V.str))) (li : LI G rl dl (Ed rs) [])
    (k : ∀ u7 u8 F, Ex H0 F → LI F rl dl (Ed rs) (Gm.proc M M.length) → De.nx (Sb a r t b m rl dl u7 u8) F) :
    tFor (iRng2 (tCons (tC (.int 1)) (tCons (tOp (rI0 fun i j => V.int (i + j)) (tLenS K (tVar 4)) (tC (.int 1))) tNil))) (gName 7)
      (tFor (iList K (tCall spTups [] E0 (tCons (tVar 4) (tCons (tVar 7) tNil)))) (gName 8)
        (tCut (tIfS (tB (tCB (rAll K) (tCons (tLc (iRng1 (tCons (tVar 7) tNil)) (gName 9) tYes (tAskR K) [9]) tNil))) (tDrop (tBM K "list" rAppend (tVar 5) (tCons (tVar 8) tNil))) tNext)
          (tIfS (tB (tCB (rAll K) (tCons (tLc (iRng2 (tCons (tC (.int 1)) (tCons (tVar 7) tNil))) (gName 9) tYes (tAskR K) [9]) tNil))) (sDPut (tVar 6) (tOp (rIxT K) (tVar 8) (tC (.int 0))) (tVar 7)) tNext)))
      De (Sb a r t b m rl dl none none) G := by
  have few := md.few R.few
  have nd := md.asc.nodup
  have h1 : G m = some (.lst (M.map V.str)) := e0 _ _ hm
  have hlen : ((M.map V.str).length : Int) = (M.length : Int) := by rw [List.length_map]
  refine for_r2 (n := M.length) ev_c (ev_op (ev_is (ev_lenL (ev_var rfl) h1) (by rw [hlen])) ev_c rv_I0) (by omega) fun G1 e1 => ?_
  have ex : ∀ F, Kp2 rl dl G1 F → Ex H0 F := fun F kp => Kp2.ex nrl ndl (e0.trans e1) kp
  refine for_range (lo := 1) (n := M.length) (fun i τ F => ∃ u7 u8, τ = Sb a r t b m rl dl u7 u8 ∧ Kp2 rl dl G1 F ∧ LI F rl dl (Ed rs) (Gm.proc M i)) ⟨none, none, rfl, .of_ex (Ex.refl _), li.mono e1⟩ ?_ ?_
  · rintro i τ F hi ⟨u7, u8, rfl, kp, lif⟩
    have eF := ex F kp
    show tFor _ _ _ _ (Sb a r t b m rl dl (some (.int (1 + (i : Nat)))) u8) F
    refine for_lst_raw (call_raw (cons_raw ⟨_, rfl, cons_raw ⟨_, rfl, ?_⟩⟩))
    have ei : (1 + (i : Int)) = ((i + 1 : Nat) : Int) := by omega
    refine ⟨m, M, i + 1, by rw [ei]; rfl, eF _ _ hm, few, by omega, nd, fun p vs F1 e2 hp hp1 pt => ?_⟩
    have lif1 := lif.mono e2
    obtain ⟨⟨ws1, hws1, pw1⟩, kv1, hkv1, _⟩ := id lif1
    obtain ⟨⟨ws0, hws0, _⟩, kv0, hkv0, _⟩ := id lif
    have pr : p ≠ rl := fun z => by rw [z, hws0] at hp; cases hp
    have pd : p ≠ dl := fun z => by rw [z, hkv0] at hp; cases hp
    have lp := pr_len pt
    have lt : (Gm.tups M (i + 1)).length ≤ 46656 := Nat.le_trans (tups_len few (i + 1)) (pow_small (i + 1) (by omega))
    have lpr := proc_len (i := i) few (by omega)
    refine ⟨p, rfl, ⟨vs, sq_of hp1⟩, for_list (K := K) (xs := vs) (fun j τ F2 => ∃ u8, τ = Sb a r t b m rl dl (some (.int (1 + (i : Nat)))) u8 ∧ Kp2 rl dl F1 F2 ∧ LI F2 rl dl (Ed rs) (Gm.proc M i ++ (Gm.tups M (i + 1)).take j))
      ⟨u8, rfl, .of_ex (Ex.refl _), by simpa using lif1⟩ (fun j τ F2 _ q => by obtain ⟨_, _, q, _⟩ := q; exact sq_of (q _ _ pr pd hp1)) (fun j x τ F2 hj q => ?_) (fun τ F2 q => ?_)⟩
    · obtain ⟨u8', rfl, kp2, li2⟩ := q
      obtain ⟨T, hT, c, rfl, hc⟩ := pr_get pt hj
      obtain ⟨T1, T2, T3⟩ := (Gm.mem_tups nd).mp (List.mem_of_getElem? hT)
      have e02 : Ex H0 F2 := ex F2 (kp.trans ((Kp2.of_ex e2).trans kp2))
      have hc2 : F2 c = some (.tup (T.map V.str)) := kp2 _ _ (fun z => by rw [← z, hc] at hws1; cases hws1) (fun z => by rw [← z, hc] at hkv1; cases hkv1) hc
      have at9 : At9 K (Sb a r t b m rl dl (some (.int (1 + (i : Nat)))) (some (.ref c))) F2 t c xs rs M T := ⟨rfl, by rw [T3, ← ei]; rfl, rfl, by show 9 < 17; decide, e02 _ _ ht, R.mono e02, md, hc2, T2, (fun z => by rw [z] at T3; cases T3), by omega⟩
      show tCut _ _ _ (Sb a r t b m rl dl (some (.int (1 + (i : Nat)))) (some (.ref c))) F2
      refine turn_ok at9 li2 rfl rfl ?_ fun G' kp3 li3 => ⟨_, rfl, kp2.trans kp3, ?_⟩
      · have := List.length_take_le' j (Gm.tups M (i + 1))
        rw [List.length_append]
        omega
      · rw [List.take_succ, hT, ← List.append_assoc]
        exact li3
    · obtain ⟨u8', rfl, kp2, li2⟩ := q
      rw [lp, List.take_length, ← Gm.proc_succ] at li2
      exact ⟨_, _, rfl, kp.trans ((Kp2.of_ex e2).trans kp2), li2⟩
  · rintro τ F ⟨u7, u8, rfl, kp, lif⟩
    exact k u7 u8 F (ex F kp) lif
/-! the orders -/
theorem all_rd (md : Md rs M) (m : Str) (p : Str → Bool) : (rdOf rs m).all p = (Gm.td M (Ed rs) m).all p := by
  rw [Bool.eq_iff_iff, List.all_eq_true, List.all_eq_true]
  exact ⟨fun h y hy => h y ((rd_td md).mpr hy), fun h y hy => h y ((rd_td md).mp hy)⟩
theorem valid_ix (md : Md rs M) (T : List Str) : ((List.range T.length).all fun i => (rdOf rs (T.getD i default)).all fun y => decide (y ∈ T.take i)) = Gm.valid M (Ed rs) T := by
  have h := st_valid (M := M) (E := Ed rs) (ts := T) T.length (Nat.le_refl _)
  rw [List.take_length] at h
  rw [← h, List.all_flatMap]
  congr 1
  funext i
  rw [all_rd md]
  unfold stB
  rw [List.all_map]
  rfl
theorem et_valid {t c : Addr} {xs : List V} {T : List Str} (s2 : σ[2]? = some (some (.ref t))) (s8 : σ[8]? = some (some (.ref c))) (l9 : 9 < σ.length) (ht : H t = some (.tup xs)) (R : Rs H xs rs) (md : Md rs M) (hc : H c = some (.tup (T.map V.str))) (sub : ∀ y ∈ T, y ∈ M) (few : T.length ≤ 6) :
    EvT (tB (tCB (rAll K) (tCons (tLc (iRng1 (tCons (tLenS K (tVar 8)) tNil)) (gName 9) tYes (tCall (spStands (K := K)) [] E0 (tCons (tVar 2) (tCons (tVar 8) (tCons (tVar 9) tNil)))) [9]) tNil))) σ H (Gm.valid M (Ed rs) T) := by
  rw [← valid_ix md]
  refine et_B (ev_is (ev_all (bs := (List.range T.length).map fun i => (rdOf rs (T.getD i default)).all fun y => decide (y ∈ T.take i)) (ev_isL (el_rng1 (n := T.length) (fun i => .bl ((rdOf rs (T.getD i default)).all fun y => decide (y ∈ T.take i))) (ev_is (ev_lenU (ev_var s8) hc) (by rw [List.length_map])) (by omega) (fun i H1 e hi H2 e2 Q q => ?_)) ?_)) ?_)
  · have hg : T[i]? = some (T.getD i default) := by
      rw [List.getD_eq_getElem?_getD, List.getElem?_eq_getElem hi]
      rfl
    have ee := e.trans e2
    refine call_raw (cons_raw ⟨_, set9 s2 (by decide), cons_raw ⟨_, set9 s8 (by decide), cons_raw ⟨_, at9 l9, ?_⟩⟩⟩)
    exact ⟨t, xs, rs, c, T, i, T.getD i default, by rw [Int.zero_add]; rfl, ee _ _ ht, R.mono ee, st_of (ee _ _ hc), few, hg, (md.mem _).mp (sub _ (get_mem hi)), fun H3 e3 => q H3 e3⟩
  · rw [List.map_map]
    rfl
  · rw [List.all_map]
    rfl
theorem orders_ok {De : Ends} {a r t m : Addr} {xs : List V} {H0 : Hp} {u7 u8 : Option V} (e0 : Ex H0 G) (nol : H0 ol = none) (ht : H0 t = some (.tup xs)) (R : Rs H0 xs rs) (md : Md rs M) (hm : H0 m = some (.lst (M.map V.str))) (hol : G ol = some (.lst []))
    (k : ∀ u8 ws F, Ex H0 F → F ol = some (.lst ws) → Paired (TupAt F) ws (ordersOf rs M) → De.nx [some (.ref a), some (.ref r), some (.ref t), some (.ref b), some (.ref m), some (.ref rl), some (.ref dl), u7, u8, none, some (.ref ol), none, none, none, none, none, none] F) :
    tFor (iList K (tCall spTups [] E0 (tCons (tVar 4) (tCons (tLenS K (tVar 4)) tNil)))) (gName 8)
      (tIfS (tB (tCB (rAll K) (tCons (tLc (iRng1 (tCons (tLenS K (tVar 8)) tNil)) (gName 9) tYes (tCall (spStands (K := K)) [] E0 (tCons (tVar 2) (tCons (tVar 8) (tCons (tVar 9) tNil)))) [9]) tNil))) (tDrop (tBM K "list" rAppend (tVar 10) (tCons (tVar 8) tNil))) tNext)
      De [some (.ref a), some (.ref r), some (.ref t), some (.ref b), some (.ref m), some (.ref rl), some (.ref dl), u7, u8, none, some (.ref ol), none, none, none, none, none, none] G := by
  have few := md.few R.few
  have nd := md.asc.nodup
  have h1 : G m = some (.lst (M.map V.str)) := e0 _ _ hm
  refine for_lst_raw (call_raw (cons_raw ⟨_, rfl, cons_raw (ev_lenL (ev_var rfl) h1 G (Ex.refl _) _ fun G0 eg => ?_)⟩))
  refine ⟨m, M, M.length, by rw [List.length_map]; rfl, eg _ _ h1, few, few, nd, fun p vs F1 e2' hp hp1 pt => ?_⟩
  have e2 := eg.trans e2'
  have hol1 := e2 _ _ hol
  have pol : p ≠ ol := fun z => by rw [z, eg _ _ hol] at hp; cases hp
  have lp := pr_len pt
  have lt : (Gm.tups M M.length).length ≤ 46656 := Nat.le_trans (tups_len few M.length) (pow_small M.length few)
  have ex : ∀ F, Kp2 ol ol F1 F → Ex H0 F := fun F kp => Kp2.ex nol nol (e0.trans e2) kp
  refine ⟨p, rfl, ⟨vs, sq_of hp1⟩, for_list (K := K) (xs := vs) (fun j τ F2 => ∃ u8, τ = [some (.ref a), some (.ref r), some (.ref t), some (.ref b), some (.ref m), some (.ref rl), some (.ref dl), u7, u8, none, some (.ref ol), none, none, none, none, none, none] ∧ Kp2 ol ol F1 F2 ∧
      ∃ ws, F2 ol = some (.lst ws) ∧ Paired (TupAt F2) ws (((Gm.tups M M.length).take j).filter (Gm.valid M (Ed rs))))
      ⟨u8, rfl, .of_ex (Ex.refl _), [], hol1, by simpa using .nil⟩ (fun j τ F2 _ q => by obtain ⟨_, _, q, _⟩ := q; exact sq_of (q _ _ pol pol hp1)) (fun j x τ F2 hj q => ?_) (fun τ F2 q => ?_)⟩
  · obtain ⟨u8', rfl, kp2, ws, hws, pw⟩ := q
    obtain ⟨T, hT, c, rfl, hc⟩ := pr_get pt hj
    obtain ⟨T1, T2, T3⟩ := (Gm.mem_tups nd).mp (List.mem_of_getElem? hT)
    have e02 : Ex H0 F2 := ex F2 kp2
    have hc2 : F2 c = some (.tup (T.map V.str)) := kp2 _ _ (fun z => by rw [← z, hc] at hol1; cases hol1) (fun z => by rw [← z, hc] at hol1; cases hol1) hc
    have lw := pr_len pw
    have lw2 := List.length_filter_le (Gm.valid M (Ed rs)) ((Gm.tups M M.length).take j)
    have lw3 := List.length_take_le' j (Gm.tups M M.length)
    have step : ((Gm.tups M M.length).take (j + 1)).filter (Gm.valid M (Ed rs)) = ((Gm.tups M M.length).take j).filter (Gm.valid M (Ed rs)) ++ if Gm.valid M (Ed rs) T = true then [T] else [] := by
      rw [List.take_succ, hT, List.filter_append, Option.toList_some, List.filter_cons]
      rfl
    show tIfS _ _ _ _ ([some (.ref a), some (.ref r), some (.ref t), some (.ref b), some (.ref m), some (.ref rl), some (.ref dl), u7, some (.ref c), none, some (.ref ol), none, none, none, none, none, none] : L2.St) F2
    refine ifs_raw (et_valid (t := t) (c := c) rfl rfl (by show 9 < 17; decide) (e02 _ _ ht) (R.mono e02) md hc2 T2 (by omega) F2 (Ex.refl _) _ fun F3 e3 => ?_)
    by_cases hv : Gm.valid M (Ed rs) T = true
    · refine iteP hv (drp_raw ?_)
      refine ⟨_, rfl, Or.inl ⟨rfl, ws, sq_of (e3 _ _ hws)⟩, _, rfl, ol, ws, .ref c, rfl, rfl, e3 _ _ hws, by rw [sizeLine_eq]; omega, ?_⟩
      refine ⟨_, rfl, (kp2.trans (.of_ex e3)).up1, _, upd_same, ?_⟩
      rw [step, if_pos hv]
      exact pr_app (pr_mono pw fun _ _ z => (z.mono e3).updL (e3 _ _ hws)) (.cons (TupAt.updL ⟨c, rfl, e3 _ _ hc2⟩ (e3 _ _ hws)) .nil)
    · refine iteN (by simpa using hv) ⟨_, rfl, kp2.trans (.of_ex e3), ws, e3 _ _ hws, ?_⟩
      rw [step, if_neg hv, List.append_nil]
      exact pr_mono pw fun _ _ z => z.mono e3
  · obtain ⟨u8', rfl, kp2, ws, hws, pw⟩ := q
    rw [lp, List.take_length] at pw
    exact k _ ws F2 (ex F2 kp2) hws pw
end
end Bl
namespace Bl
open PySem PySem.Spec PyProof.Rows L2 Bk Bm Evl Be Cr Bp TL Kr Ks
section
variable {K : PySem.W.Frag} {σ : L2.St} {H G : Hp} {r C : Addr} {rs : List Rt} {M : List Str} {xs : List V}
theorem rs_of {gs : List (Str × PyData)} (h : RsAt H xs gs) : ∃ rs : List Rt, Rs H xs rs ∧ rs.map (·.1) = gs.map (·.1) := by
  have key : ∃ rs : List Rt, Paired (fun v (p : Rt) => Shp H v p.1 p.2) xs rs ∧ rs.map (·.1) = gs.map (·.1) := by
    have hp := h.1
    clear h
    induction hp with
    | nil => exact ⟨[], .nil, rfl⟩
    | cons g _ ih =>
      obtain ⟨rs, h1, h2⟩ := ih
      obtain ⟨told, hs⟩ := g.shp
      exact ⟨(_, told) :: rs, .cons hs h1, by rw [List.map_cons, List.map_cons, h2]⟩
  obtain ⟨rs, h1, h2⟩ := key
  refine ⟨rs, ⟨h1, by rw [h2]; exact h.2.1, ?_⟩, h2⟩
  have e := congrArg List.length h2
  rw [List.length_map, List.length_map] at e
  rw [e]
  exact h.2.2
theorem Rs.dr (h : Rs H xs rs) (row : Row K H r) (d : Dr K r H G) : Rs G xs rs := ⟨pr_mono h.pr fun _ _ z => z.dr row d, h.nd, h.few⟩
theorem tup_dr {t : Addr} {ys : List V} (h : H t = some (.tup ys)) (row : Row K H r) (d : Dr K r H G) : G t = some (.tup ys) := by
  obtain ⟨rl, hr⟩ := row.at
  exact d.kp _ _ (ne_of h hr (by intro z; cases z)) h
theorem BkAt.dr {a : Addr} {v : V} (h : BkAt H C a v) (row : Row K H r) (d : Dr K r H G) : BkAt G C a v := by
  obtain ⟨rl, hr⟩ := row.at
  obtain ⟨dx, h⟩ := h
  exact ⟨dx, d.kp _ _ (ne_of h hr (by intro z; cases z)) h⟩
theorem BkR.dr {a : Addr} (h : BkR H C a rs M) (row : Row K H r) (d : Dr K r H G) : BkR G C a rs M := by
  obtain ⟨t, xs, h1, h2, h3, h4⟩ := h
  exact ⟨t, xs, BkAt.dr h1 row d, tup_dr h2 row d, h3.dr row d, h4⟩
/-- rows of texts, as they are asked about -/
theorem ring_mem (nd : M.Nodup) {T : List Str} (tn : T.Nodup) (sub : ∀ y ∈ T, y ∈ M) : ringV rs M T = decide (T ∈ Gm.rings M (Ed rs) M.length) := by
  unfold ringV keysB
  have h1 : (T.all fun y => decide (y ∈ M)) = true := List.all_eq_true.mpr fun y hy => decide_eq_true (sub y hy)
  rw [h1, decide_eq_true tn, Bool.true_and, Bool.true_and, Bool.eq_iff_iff, Bool.and_eq_true, decide_eq_true_eq, decide_eq_true_eq, Gm.mem_rings nd]
  exact ⟨fun z => ⟨z.1, tn, sub, z.2⟩, fun z => ⟨z.1, z.2.2.2⟩⟩
theorem order_mem (nd : M.Nodup) {T : List Str} (tn : T.Nodup) (sub : ∀ y ∈ T, y ∈ M) : orderV rs M T = decide (T ∈ ordersOf rs M) := by
  unfold orderV keysB ordersOf
  have h1 : (T.all fun y => decide (y ∈ M)) = true := List.all_eq_true.mpr fun y hy => decide_eq_true (sub y hy)
  rw [h1, decide_eq_true tn, Bool.true_and, Bool.true_and, Bool.eq_iff_iff, Bool.and_eq_true, decide_eq_true_eq, decide_eq_true_eq, List.mem_filter, Gm.mem_tups nd]
  exact ⟨fun z => ⟨⟨tn, sub, z.1⟩, z.2⟩, fun z => ⟨z.1.2.2, z.2⟩⟩
/-- a value that is neither a ring nor an order -/
inductive Odd (K : PySem.W.Frag) (H : Hp) (rs : List Rt) (M : List Str) : V → Prop
  | k {v : V} {n : String} (h : Kd K H v n) (hn : n ≠ "tuple") : Odd K H rs M v
  | t {a : Addr} {ts : List Str} (h : H a = some (.tup (ts.map V.str))) (hl : ts.length ≤ 100) (h1 : ringV rs M ts = false) (h2 : orderV rs M ts = false) : Odd K H rs M (.ref a)
  | x {a : Addr} {x : V} {n : String} (h : H a = some (.tup [x])) (h1 : ∀ H, Kd K H x n) (hn : n ≠ "str") : Odd K H rs M (.ref a)
theorem Odd.mono {v : V} (h : Odd K H rs M v) (e : Ex H G) : Odd K G rs M v := by
  cases h with
  | k h hn => exact .k (h.mono e) hn
  | t h hl h1 h2 => exact .t (e _ _ h) hl h1 h2
  | x h h1 hn => exact .x (e _ _ h) h1 hn
theorem Odd.dr {v : V} (h : Odd K H rs M v) (row : Row K H r) (d : Dr K r H G) : Odd K G rs M v := by
  obtain ⟨rl, hr⟩ := row.at
  obtain ⟨rl', hr'⟩ := d.row.at
  cases h with
  | k h hn => exact .k (Kd.kp h hr hr' d.kp) hn
  | t h hl h1 h2 => exact .t (tup_dr h row d) hl h1 h2
  | x h h1 hn => exact .x (tup_dr h row d) h1 hn
theorem Odd.askR {v : V} (h : Odd K H rs M v) : AskV K H v (ringV rs M) false := by
  cases h with
  | k h hn => exact .inl ⟨rfl, _, h, hn⟩
  | t h hl h1 h2 => exact .inr (.inl ⟨_, _, rfl, kd_tup h, st_of h, hl, h1.symm⟩)
  | x h h1 hn => exact .inr (.inr ⟨rfl, _, _, _, rfl, kd_tup h, st_of h, h1 _, hn⟩)
theorem Odd.askO {v : V} (h : Odd K H rs M v) : AskV K H v (orderV rs M) false := by
  cases h with
  | k h hn => exact .inl ⟨rfl, _, h, hn⟩
  | t h hl h1 h2 => exact .inr (.inl ⟨_, _, rfl, kd_tup h, st_of h, hl, h2.symm⟩)
  | x h h1 hn => exact .inr (.inr ⟨rfl, _, _, _, rfl, kd_tup h, st_of h, h1 _, hn⟩)
theorem not_keys {T : List Str} (h : ∃ y ∈ T, y ∉ M) : ringV rs M T = false ∧ orderV rs M T = false := by
  obtain ⟨y, h1, h2⟩ := h
  have e : (T.all fun y => decide (y ∈ M)) = false := by
    rw [← Bool.not_eq_true, List.all_eq_true]
    exact fun z => h2 (of_decide_eq_true (z y h1))
  unfold ringV orderV keysB
  rw [e]
  exact ⟨rfl, rfl⟩
theorem not_nodup {T : List Str} (h : ¬ T.Nodup) : ringV rs M T = false ∧ orderV rs M T = false := by
  unfold ringV orderV keysB
  rw [decide_eq_false h, Bool.and_false]
  exact ⟨rfl, rfl⟩
theorem zs_five : Str.ofString "z" ∉ five := by decide +kernel
theorem catT_go {a b : Addr} {xs ys : List V} {Q : VK} (ha : G a = some (.tup xs)) (hb : G b = some (.tup ys)) (hz : xs.length + ys.length ≤ 100000) (k : ∀ p G', Ex G G' → G' p = some (.tup (xs ++ ys)) → Q (.ref p) G') : rCatA K (.ref a) (.ref b) G Q :=
  ⟨a, b, xs, ys, rfl, rfl, st_of ha, st_of hb, sz_of hz, fun z => k b G (Ex.refl _) (by rw [z]; exact hb), fun _ z => k a G (Ex.refl _) (by rw [z, List.append_nil]; exact ha), fun _ _ p hp => k p _ (Ex.new hp) upd_same⟩
abbrev tListOf (K : PySem.W.Frag) (te : TE) : TE := tCB (fun xs H Q => ∃ p ys, xs = [V.ref p] ∧ (SqL K H p ys ∨ SqT K H p ys) ∧ ∀ (l : Addr), H l = none → Q (V.ref l) (upd H l (HO.lst ys))) (tCons te tNil)
abbrev tTupOf (K : PySem.W.Frag) (te : TE) : TE := tCB (fun xs H Q => ∃ p ys, xs = [V.ref p] ∧ ((SqL K H p ys ∧ ∀ (l : Addr), H l = none → Q (V.ref l) (upd H l (HO.tup ys))) ∨ SqT K H p ys ∧ Q (V.ref p) H)) (tCons te tNil)
/-- an expression that comes to a value of a kind -/
def EvP (te : TE) (σ : L2.St) (H : Hp) (F : Hp → V → Prop) : Prop := ∀ H1, Ex H H1 → ∀ Q : VK, (∀ v H2, Ex H1 H2 → F H2 v → Q v H2) → te σ H1 Q
def EvPs (ta : TA) (σ : L2.St) (H : Hp) (F : Hp → V → Prop) (n : Nat) : Prop := ∀ H1, Ex H H1 → ∀ Q : List V → Hp → Prop, (∀ vs H2, Ex H1 H2 → (∀ v ∈ vs, F H2 v) → vs.length = n → Q vs H2) → ta σ H1 Q
theorem evp_nil {F : Hp → V → Prop} : EvPs tNil σ H F 0 := fun H1 _ _ q => q [] H1 (Ex.refl _) (fun _ h => by cases h) rfl
theorem evp_cons {F : Hp → V → Prop} {te : TE} {ta : TA} {n : Nat} (fm : ∀ {H G v}, F H v → Ex H G → F G v) (h : EvP te σ H F) (hs : EvPs ta σ H F n) : EvPs (tCons te ta) σ H F (n + 1) := fun H1 e Q q =>
  h H1 e _ fun v H2 e2 hv => hs H2 (e.trans e2) _ fun vs H3 e3 hvs hn => q (v :: vs) H3 (e2.trans e3) (fun u hu => by
    rcases List.mem_cons.mp hu with rfl | hu
    · exact fm hv e3
    · exact hvs u hu) (by rw [List.length_cons, hn])
theorem evp_c {F : Hp → V → Prop} {v : V} (h : ∀ H, F H v) : EvP (tC v) σ H F := fun H1 _ _ q => q v H1 (Ex.refl _) (h _)
theorem evp_tup1 {F : Hp → V → Prop} {v : V} (h : ∀ H a, H a = some (.tup [v]) → F H (.ref a)) : EvP (tTup (tCons (tC v) tNil)) σ H F := fun H1 _ _ q => ⟨by show 1 ≤ sizeLine; decide, fun p hp => q _ _ (Ex.new hp) (h _ p upd_same)⟩
theorem evp_tup0 {F : Hp → V → Prop} (h : ∀ H a, H a = some (.tup []) → F H (.ref a)) : EvP (tTup tNil) σ H F := fun H1 _ _ q => ⟨by show 0 ≤ sizeLine; decide, fun p hp => q _ _ (Ex.new hp) (h _ p upd_same)⟩
theorem evp_dict {F : Hp → V → Prop} (h : ∀ H a, H a = some (.dK []) → F H (.ref a)) : EvP tDNewK σ H F := fun H1 _ _ q p hp => q _ _ (Ex.new hp) (h _ p upd_same)
theorem evp_list {F : Hp → V → Prop} {te : TE} {l : Addr} {ws : List V} (he : Ev te σ H (.ref l)) (hl : H l = some (.lst ws)) (h : ∀ H a, H a = some (.lst ws) → F H (.ref a)) : EvP (tListOf K te) σ H F := fun H1 e _ q =>
  he H1 e _ fun H2 e2 => ⟨l, ws, rfl, .inl (sq_of ((e.trans e2) _ _ hl)), fun p hp => q _ _ (e2.trans (Ex.new hp)) (h _ p upd_same)⟩
theorem evp_cat {F : Hp → V → Prop} {te : TE} {l : Addr} {ws : List V} {v : V} (he : Ev te σ H (.ref l)) (hl : H l = some (.lst ws)) (hz : ws.length ≤ 100) (h : ∀ H a, H a = some (.tup (ws ++ [v])) → F H (.ref a)) : EvP (tOp (rCatA K) (tTupOf K te) (tTup (tCons (tC v) tNil))) σ H F := fun H1 e _ q =>
  op_raw (he H1 e _ fun H2 e2 => ⟨l, ws, rfl, .inl ⟨sq_of ((e.trans e2) _ _ hl), fun p hp => ⟨by show 1 ≤ sizeLine; decide, fun u hu => catT_go (Ex.new hu _ _ upd_same) upd_same (by show _ + 1 ≤ _; omega) fun c G' e3 hc => q _ _ (((e2.trans (Ex.new hp)).trans (Ex.new hu)).trans e3) (h _ c hc)⟩⟩⟩)
theorem evp_rep {F : Hp → V → Prop} {te : TE} {l : Addr} {ws : List V} (he : Ev te σ H (.ref l)) (hl : H l = some (.lst ws)) (hz : ws.length ≤ 100) (ne : ws ≠ []) (h : ∀ H a, H a = some (.tup (ws ++ ws)) → F H (.ref a)) : EvP (tOp (rRepT K) (tTupOf K te) (tC (.int 2))) σ H F := fun H1 e _ q =>
  op_raw (he H1 e _ fun H2 e2 => ⟨l, ws, rfl, .inl ⟨sq_of ((e.trans e2) _ _ hl), fun p hp => ⟨p, 2, ws, rfl, rfl, st_of upd_same, ne, by decide, by decide, by omega, fun c hc => q _ _ ((e2.trans (Ex.new hp)).trans (Ex.new hc)) (h _ c (by rw [upd_same]; simp [List.replicate]))⟩⟩⟩)
/-- the list of odd values -/
theorem odd_list {m : Addr} (h5 : ∀ y ∈ M, y ∈ five) (hm : H m = some (.lst (M.map V.str))) (ne : 1 ≤ M.length) (few : M.length ≤ 6) (s4 : σ[4]? = some (some (.ref m))) :
    EvPs (tCons (tC V.non) (tCons (tTup tNil) (tCons (tListOf K (tVar 4)) (tCons (tC (V.int 0)) (tCons (tC (V.str (Str.ofString "m"))) (tCons (tTup (tCons (tC (V.str (Str.ofString "z"))) tNil)) (tCons (tTup (tCons (tC (V.int 0)) tNil))
      (tCons (tOp (rCatA K) (tTupOf K (tVar 4)) (tTup (tCons (tC (V.str (Str.ofString "z"))) tNil))) (tCons (tOp (rRepT K) (tTupOf K (tVar 4)) (tC (V.int 2))) (tCons tDNewK (tCons (tTup (tCons (tC V.non) tNil)) tNil))))))))))) σ H (fun H v => Odd K H rs M v) 11 := by
  have fm : ∀ {H G v}, Odd K H rs M v → Ex H G → Odd K G rs M v := fun h e => h.mono e
  have zM : Str.ofString "z" ∉ M := fun z => zs_five (h5 _ z)
  have lm : (M.map V.str).length = M.length := List.length_map ..
  refine evp_cons fm (evp_c fun H => .k kd_non (by decide)) (evp_cons fm (evp_tup0 fun H a h => .t (ts := []) h (by decide) ?_ ?_) (evp_cons fm (evp_list (ev_var s4) hm fun H a h => .k (kd_lst h) (by decide)) (evp_cons fm (evp_c fun H => .k (kd_int 0) (by decide)) (evp_cons fm (evp_c fun H => .k (kd_str _) (by decide))
    (evp_cons fm (evp_tup1 fun H a h => .t (ts := [Str.ofString "z"]) h (by decide) ?_ ?_) (evp_cons fm (evp_tup1 fun H a h => .x h (fun H => kd_int 0) (by decide)) (evp_cons fm (evp_cat (ev_var s4) hm (by omega) fun H a h => .t (ts := M ++ [Str.ofString "z"]) (by rw [h, List.map_append]; rfl) (by rw [List.length_append]; show _ + 1 ≤ 100; omega) ?_ ?_)
    (evp_cons fm (evp_rep (ev_var s4) hm (by omega) (fun z => by rw [z] at lm; simp at lm; omega) fun H a h => .t (ts := M ++ M) (by rw [h, List.map_append]) (by rw [List.length_append]; omega) ?_ ?_) (evp_cons fm (evp_dict fun H a h => .k (kd_dK h) (by decide)) (evp_cons fm (evp_tup1 fun H a h => .x h (fun H => kd_non) (by decide)) evp_nil))))))))))
  · unfold ringV; simp
  · unfold orderV
    rw [decide_eq_false (show ¬ ([] : List Str).length = M.length by simp; omega)]
    simp
  · exact (not_keys ⟨_, List.mem_cons_self, zM⟩).1
  · exact (not_keys ⟨_, List.mem_cons_self, zM⟩).2
  · exact (not_keys ⟨_, List.mem_append_right _ List.mem_cons_self, zM⟩).1
  · exact (not_keys ⟨_, List.mem_append_right _ List.mem_cons_self, zM⟩).2
  all_goals
    have nn : ¬ (M ++ M).Nodup := fun z => by
      cases M with
      | nil => simp at ne
      | cons x t => exact (List.nodup_append.mp z).2.2 x List.mem_cons_self x List.mem_cons_self rfl
  · exact (not_nodup nn).1
  · exact (not_nodup nn).2
end
end Bl
namespace Bl
open PySem PySem.Spec PyProof.Rows L2 Bk Bm Evl Be Cr Bp TL Kr Ks
section
variable {K : PySem.W.Frag} {σ : L2.St} {H G : Hp} {r C Cx b l : Addr} {rs : List Rt} {M : List Str} {xs : List V}
theorem par_raw {i j : Nat} {ta : TA} {De : Ends} (h : ta σ H fun vs H1 => ∃ v w, vs = [v, w] ∧ De.nx ((σ.set i (some v)).set j (some w)) H1) : tPar i j ta De σ H := h
theorem asgn_raw {te : TE} {g : TG} {De : Ends} (h : te σ H fun x H1 => g x σ H1 De.nx) : tAsg te g De σ H := h
theorem lst_raw2 {ta : TA} {Q : VK} (h : ta σ H fun vs H1 => vs.length ≤ sizeLine ∧ ∀ p, H1 p = none → Q (.ref p) (upd H1 p (.lst vs))) : tLst ta σ H Q := h
/-- a book of drawn rules -/
theorem mkbook_go {t : Addr} {xs : List V} {gs : List (Str × PyData)} {Q : VK} (ht : H t = some (.tup xs)) (rs : RsAt H xs gs) (k : ∀ x G, Ex H G → H x = none → BkAt G C x (.ref t) → Q (.ref x) G) :
    ∀ x dx, H x = none → H dx = none → dx ≠ x → spInit (K := K) C Cx [.ref x, .ref t] (upd (upd H dx (.own x)) x (.ins C dx [])) (fun v H2 => v = .non ∧ Q (.ref x) H2) E0 := by
  intro x dx hx hdx ne
  have e1 : Ex H (upd (upd H dx (.own x)) x (.ins C dx [])) := (Ex.new hdx).trans (Ex.new (by rw [upd_ne ne.symm]; exact hx))
  exact ⟨x, dx, .ref t, none, rfl, upd_same, (rl_good ht rs).mono e1, fun _ G1 e2 => ⟨rfl, k x _ ((e1.trans e2).mut hx) hx ⟨dx, upd_same⟩⟩, fun u z => by cases z⟩
theorem mkbook_ev {te : TE} {t : Addr} {xs : List V} {gs : List (Str × PyData)} {Q : VK} (h : Ev te σ H (.ref t)) (ht : H t = some (.tup xs)) (rs : RsAt H xs gs) (k : ∀ x G, Ex H G → BkAt G C x (.ref t) → Q (.ref x) G) :
    tMake C (spInit (K := K) C Cx) [] E0 (tCons te tNil) σ H Q := h H (Ex.refl _) _ fun H1 e => mkbook_go (e _ _ ht) (rs.mono e) fun x G eG _ hb => k x G (e.trans eG) hb
theorem cut3_len {ws : List V} : (cutV ws none (some 3)).length ≤ 3 := by
  by_cases h : 3 ≤ ws.length
  · have e : cutV ws none (some ((3 : Nat) : Int)) = ws.take 3 := cut_to h
    have e2 : cutV ws none (some 3) = ws.take 3 := e
    rw [e2, List.length_take]
    omega
  · exact Nat.le_trans cut_len (by omega)
theorem el_cut3 {i : Nat} {ws : List V} (h : σ[i]? = some (some (.ref l))) (hl : H l = some (.lst ws)) : EvL (tSl (rSlL K) (tVar i) tNoPart (tPart (tC (.int 3)))) σ H (cutV ws none (some 3)) := fun H1 e Q q =>
  ⟨_, h, 3, rfl, l, ws, rfl, sq_of (e _ _ hl), fun p hp => q p _ hp (Ex.new hp) upd_same⟩
theorem el_cat2 {ta tb : TE} {zs : List V} (ha : EvL ta σ H xs) (hb : EvL tb σ H zs) (hz : xs.length + zs.length ≤ 100000) : EvL (tOp rCat ta tb) σ H (xs ++ zs) := fun H1 e Q q =>
  ha H1 e _ fun l H2 hl e2 h2 => hb H2 (e.trans e2) _ fun b H3 hb3 e3 h3 => ⟨l, b, xs, zs, rfl, rfl, e3 _ _ h2, h3, sz_of hz, fun p hp => q p _ (fresh_back (e2.trans e3) hp) ((e2.trans e3).trans (Ex.new hp)) upd_same⟩
/-- a right answer: what the program tells of v is whether it stands in the told rows -/
theorem et_ask {sp : Sp} {i : Nat} {v : V} {ws : List V} {ts : List (List Str)} {T : List Str} {B : Bool} (s3 : σ[3]? = some (some (.ref b))) (s13 : σ[13]? = some (some v)) (si : σ[i]? = some (some (.ref l))) (hl : H l = some (.lst ws)) (pw : Paired (TupAt H) ws ts) (f : FiveR ts)
    (hv : TupAt H v T) (h5 : ∀ y ∈ T, y ∈ five) (hB : B = decide (T ∈ ts)) (hsp : ∀ H', Ex H H' → ∀ Q E, RetV (.bl B) H' Q → sp [.ref b, v] H' Q E) :
    EvT (tTest (tOp rNe (tCall sp [] E0 (tCons (tVar 3) (tCons (tVar 13) tNil))) (tOp (rInD K) (tVar 13) (tVar i)))) σ H false := fun H1 e Q q =>
  tst_raw (op_raw (call_raw (cons_raw ⟨_, s3, cons_raw ⟨_, s13, hsp H1 e _ _ fun H2 e2 => by
    refine op_raw ⟨_, s13, _, si, ?_⟩
    obtain ⟨c, rfl, hc⟩ := hv
    have ee := e.trans e2
    refine ⟨.tuple (T.map .str), ts.map fun t => .tuple (t.map .str), .tup (st_of (ee _ _ hc)) (dp_txts K _ T), .lst (sq_of (ee _ _ hl)) (dp_rows (pr_mono pw fun _ _ z => z.mono ee)), FiveR.shT h5, f.sh, rfl, ?_⟩
    rw [any_rows, ← hB]
    refine ⟨_, rfl, ?_⟩
    rw [decide_eq_true rfl]
    exact q H2 e2⟩⟩)))
theorem or_raw {t u : TT} {Q : Bool → Hp → Prop} (h : t σ H fun c H1 => if c = true then Q true H1 else u σ H1 Q) : tOr t u σ H Q := h
theorem rings_five (nd : M.Nodup) (h5 : ∀ y ∈ M, y ∈ five) : FiveR (Gm.rings M (Ed rs) M.length) := fun t ht y hy => h5 y (((Gm.mem_rings nd).mp ht).2.2.1 y hy)
theorem orders_five (nd : M.Nodup) (h5 : ∀ y ∈ M, y ∈ five) : FiveR (ordersOf rs M) := fun t ht y hy => h5 y (((Gm.mem_tups nd).mp (List.mem_filter.mp ht).1).2.1 y hy)
theorem four_at {n : Int} (h0 : 0 ≤ n) (h : n < 4) : ∃ mm : Int, (mm = 4 ∨ mm = 6) ∧ atI [V.int 4, V.int 4, V.int 4, V.int 6] n = some (.int mm) := by
  have : n = ((0 : Nat) : Int) ∨ n = ((1 : Nat) : Int) ∨ n = ((2 : Nat) : Int) ∨ n = ((3 : Nat) : Int) := by omega
  rcases this with rfl | rfl | rfl | rfl
  · exact ⟨4, .inl rfl, atI_nat rfl⟩
  · exact ⟨4, .inl rfl, atI_nat rfl⟩
  · exact ⟨4, .inl rfl, atI_nat rfl⟩
  · exact ⟨6, .inr rfl, atI_nat rfl⟩
theorem LI.nil (h1 : G l = some (.lst [])) (h2 : G b = some (.dK [])) (E : Str → Str → Bool) : LI G l b E [] := ⟨⟨[], h1, .nil⟩, [], h2, Nat.le_refl _, fun m => rfl⟩
end
end Bl
namespace Bl
open PySem PySem.Spec PyProof.Rows L2 Bk Bm Evl Be Cr Bp TL Kr Ks
abbrev sLaw : Stmt := top 44
abbrev nLaw : List Str := ["_law_script", "_law_row", "_law_rules_here", "_law_book", "_law_made", "_law_rings", "_law_longest", "_law_size", "_law_some", "_law_at", "_law_orders_told", "_law_path", "_law_tried", "_law_value", "_law_odd", "_law_bad", "_law_rule_here"]
section
variable {P : Program} {w : World} {K : PySem.W.Frag} {mg : Str → Option Value} {base : Heap} {C fI pR fG fL fE : Addr}
theorem scLaw : FnScope nLaw ["_law_script"] (defScope sLaw) := ⟨rfl, rfl, rfl, by decide +kernel, rfl, by decide +kernel, by decide +kernel⟩
def spLaw (K : PySem.W.Frag) : Sp := fun vs H Q _ => ∃ (a : Addr) (ns : List Int), vs = [.ref a] ∧ Sc K H a ns ∧ ∀ H', Q (.bl true) H'
theorem ok_law {f Cx : Addr} {fd fdI : FuncData} (F : Fun K "law" "law" sLaw f fd) (T : Gv mg) (B : Bks K mg C fI pR fG fL fE)
    (FI : FnOk P w K mg base (L2.CX P w) 7 fI fdI ["self", "rules"] (spInit (K := K) C Cx)) (bI : Binds K fdI ["self", "rules"] [])
    (cT : Cal P w K mg base CX0 1 "_law_taken" ["_law_row", "_law_many"] (spTaken (K := K))) (cO : Cal P w K mg base CX0 2 "_law_one" ["_law_row", "_law_things"] (spOne (K := K)))
    (cRs : Cal P w K mg base CX0 4 "_law_rules" ["_law_row", "_law_most"] (spRulesL (K := K))) (cRd : Cal P w K mg base CX0 1 "_law_reads" ["_law_rules_here", "_law_made"] spReads)
    (cTu : Cal P w K mg base CX0 1 "_law_tuples" ["_law_things", "_law_size"] spTups) (cSt : Cal P w K mg base CX0 2 "_law_stands" ["_law_rules_here", "_law_some", "_law_at"] (spStands (K := K)))
    (cR : Cal P w K mg base CX0 5 "told_ring" ["book"] (spRing C)) (cRR : Cal P w K mg base CX0 5 "right_ring" ["book", "value"] (spRR (K := K) C))
    (cD : Cal P w K mg base CX0 5 "told_order" ["book"] (spOrder C)) (cRO : Cal P w K mg base CX0 5 "right_order" ["book", "value"] (spRO (K := K) C)) (cP : Cal P w K mg base CX0 6 "depths" ["book"] (spDepths C)) :
    FnOk P w K mg base CX0 9 f fd ["_law_script"] (spLaw K) := by
  refine F.ok scLaw (fun vs H Q E h => ?_) (fun cdv A outer s H vs Q E hr h => ?_)
  · obtain ⟨a, ns, rfl, _⟩ := h
    rfl
  · obtain ⟨a, ns, rfl, sc, k⟩ := h
    have hr1 : Room 1 _ := hr.mono (by decide)
    have hr2 : Room 2 _ := hr.mono (by decide)
    have hr4 : Room 4 _ := hr.mono (by decide)
    have hr5 : Room 5 _ := hr.mono (by decide)
    have hr6 : Room 6 _ := hr.mono (by decide)
    have hu : (A.deeper (envOfC "law" (defScope sLaw) s.heap.objs.size f cdv)).units + 65 < cLine := by have := hr.un; omega
    have hn : (A.deeper (envOfC "law" (defScope sLaw) s.heap.objs.size f cdv)).units + 64 < cLine := by omega
    have hu1 : (A.deeper (envOfC "law" (defScope sLaw) s.heap.objs.size f cdv)).units + 1 < cLine := by omega
    refine ⟨_, pss_cons (ps_set (i := 1) scLaw.nd rfl (Or.inl rfl) (pe_lst (pa_cons (pv 0) (pa_cons pe_int (pa_cons pe_int (pa_cons pe_int pa_nil))))))
      (pss_cons (ps_set (i := 2) scLaw.nd rfl (Or.inr rfl) (pe_call cRs.F hr4 (by rfl) cRs.g cRs.kp cRs.b .nil pass0 (pa_cons (pv 1) (pa_cons (pe_ix ix_list (pe_lst (pa_cons pe_int (pa_cons pe_int (pa_cons pe_int (pa_cons pe_int pa_nil))))) (pe_call cT.F hr1 (by rfl) cT.g cT.kp cT.b .nil pass0 (pa_cons (pv 1) (pa_cons pe_int pa_nil))) (fun _ _ => rfl)) pa_nil))))
      (pss_cons (ps_par (i := 3) (j := 4) rfl scLaw.nd rfl rfl (by decide) rfl rfl (pa_cons (pe_make B.mkr FI hr (by rfl) B.g bI .nil (lets (E := E0) takes0) (pa_cons (pv 2) pa_nil))
          (pa_cons (pe_callB cr_sortedS (by rfl) T.srt (by decide +kernel) (pa_cons (pe_lc (own := [("_law_rule_here", 16)]) (g := gName 16) (tt := tYes) rfl scLaw.nd (pi_tup (pv 2)) (blkOk_by (N := nLaw) (sc := defScope sLaw) (by decide +kernel))
            (fun _ _ _ _ _ => pg_name (i := 16) scLaw.nd rfl (Or.inl rfl)) (fun _ _ _ _ _ => pts_nil) (fun _ _ _ _ _ => pe_ix (r := rIxT K) ix_tup (pv 16) pe_int (fun _ _ => rfl))) pa_nil)) pa_nil)) (by rfl))
      (pss_cons (ps_asg (pe_tup (pa_cons (pe_lst pa_nil) (pa_cons pe_dnewK pa_nil))) (pg_tup rfl (pgs_cons (pg_name (i := 5) scLaw.nd rfl (Or.inl rfl)) (pgs_cons (pg_name (i := 6) scLaw.nd rfl (Or.inr rfl)) pgs_nil))))
      (pss_cut (ps_for PassesOwn.never rfl (pi_range2 (by rfl) T.rng (pa_cons pe_int (pa_cons (pe_op op_add (pe_callB call_len_seq (by rfl) T.len PySem.boot_len (pa_cons (pv 4) pa_nil)) pe_int) pa_nil))) (pg_name (i := 7) scLaw.nd rfl (Or.inl rfl))
        (pss_one (ps_for PassesOwn.never rfl (pi_list (pe_call cTu.F hr1 (by rfl) cTu.g cTu.kp cTu.b .nil pass0 (pa_cons (pv 4) (pa_cons (pv 7) pa_nil)))) (pg_name (i := 8) scLaw.nd rfl (Or.inr rfl))
          (pss_cut (ps_if (pt_val (pe_callB (cr_all rfl) (by rfl) T.all boot_all (pa_cons (pe_lc (own := [("_law_at", 9)]) (g := gName 9) (tt := tYes) rfl scLaw.nd (pi_range1 (by rfl) T.rng (pa_cons (pv 7) pa_nil)) (blkOk_by (N := nLaw) (sc := defScope sLaw) (by decide +kernel))
              (fun _ _ _ _ _ => pg_name (i := 9) scLaw.nd rfl (Or.inl rfl)) (fun _ _ _ _ _ => pts_nil)
              (fun _ _ _ _ _ => pe_cmpR (r := rIn K false) op_in_seq (pe_ix (r := rIxT K) ix_tup (pv 8) (pv 9) (fun _ _ => rfl)) (pe_call cRd.F hr1 (by rfl) cRd.g cRd.kp cRd.b .nil pass0 (pa_cons (pv 2) (pa_cons (pe_ix (r := rIxT K) ix_tup (pv 8) (pe_op op_sub (pv 9) pe_int) (fun _ _ => rfl)) pa_nil))) rfl)) pa_nil)))
            (pss_one (ps_expr (pe_bm PySem.F.plainAttrs_list PySem.F.slot_list_append PySem.F.type_list_append mt_append (pv 5) (pa_cons (pv 8) pa_nil)))) pss_nil)
          (pss_one (ps_if (pt_val (pe_callB (cr_all rfl) (by rfl) T.all boot_all (pa_cons (pe_lc (own := [("_law_at", 9)]) (g := gName 9) (tt := tYes) rfl scLaw.nd (pi_range2 (by rfl) T.rng (pa_cons pe_int (pa_cons (pv 7) pa_nil))) (blkOk_by (N := nLaw) (sc := defScope sLaw) (by decide +kernel))
              (fun _ _ _ _ _ => pg_name (i := 9) scLaw.nd rfl (Or.inl rfl)) (fun _ _ _ _ _ => pts_nil)
              (fun _ _ _ _ _ => pe_cmpR (r := rIn K false) op_in_seq (pe_ix (r := rIxT K) ix_tup (pv 8) (pv 9) (fun _ _ => rfl)) (pe_call cRd.F hr1 (by rfl) cRd.g cRd.kp cRd.b .nil pass0 (pa_cons (pv 2) (pa_cons (pe_ix (r := rIxT K) ix_tup (pv 8) (pe_op op_sub (pv 9) pe_int) (fun _ _ => rfl)) pa_nil))) rfl)) pa_nil)))
            (pss_one (ps_dput hu1 (pv 6) (pe_ix ix_tup (pv 8) pe_int (fun _ _ => rfl)) (pv 7) (by rfl))) pss_nil))))))
      (pss_cut (ps_if (pt_cmpR (op_neD hn) (pe_call cR.F hr5 (by rfl) cR.g cR.kp cR.b .nil pass0 (pa_cons (pv 3) pa_nil)) (pe_ifExp (pt_cmpR (op_neD hn) (pv 5) (pe_lst pa_nil) (nomark _)) (pe_ix ix_list (pv 5) pe_int (fun _ _ => rfl)) pe_non) (nomark _)) (pss_one (ps_ret pe_bl)) pss_nil)
      (pss_cons (ps_set (i := 10) scLaw.nd rfl (Or.inl rfl) (pe_lst pa_nil))
      (pss_cut (ps_for PassesOwn.never rfl (pi_list (pe_call cTu.F hr1 (by rfl) cTu.g cTu.kp cTu.b .nil pass0 (pa_cons (pv 4) (pa_cons (pe_callB call_len_seq (by rfl) T.len PySem.boot_len (pa_cons (pv 4) pa_nil)) pa_nil)))) (pg_name (i := 8) scLaw.nd rfl (Or.inr rfl))
          (pss_one (ps_if (pt_val (pe_callB (cr_all rfl) (by rfl) T.all boot_all (pa_cons (pe_lc (own := [("_law_at", 9)]) (g := gName 9) (tt := tYes) rfl scLaw.nd (pi_range1 (by rfl) T.rng (pa_cons (pe_callB call_len_seq (by rfl) T.len PySem.boot_len (pa_cons (pv 8) pa_nil)) pa_nil)) (blkOk_by (N := nLaw) (sc := defScope sLaw) (by decide +kernel))
              (fun _ _ _ _ _ => pg_name (i := 9) scLaw.nd rfl (Or.inl rfl)) (fun _ _ _ _ _ => pts_nil)
              (fun _ _ _ _ _ => pe_call cSt.F hr2 (by rfl) cSt.g cSt.kp cSt.b .nil pass0 (pa_cons (pv 2) (pa_cons (pv 8) (pa_cons (pv 9) pa_nil))))) pa_nil)))
            (pss_one (ps_expr (pe_bm PySem.F.plainAttrs_list PySem.F.slot_list_append PySem.F.type_list_append mt_append (pv 10) (pa_cons (pv 8) pa_nil)))) pss_nil)))
      (pss_cut (ps_if (pt_cmpR (op_neD hn) (pe_call cD.F hr5 (by rfl) cD.g cD.kp cD.b .nil pass0 (pa_cons (pv 3) pa_nil)) (pe_ifExp (pt_cmpR (op_neD hn) (pv 10) (pe_lst pa_nil) (nomark _)) (pe_ix ix_list (pv 10) pe_int (fun _ _ => rfl)) pe_non) (nomark _)) (pss_one (ps_ret pe_bl)) pss_nil)
      (pss_cut (ps_if (pt_cmpR (op_neD hn) (pe_call cP.F hr6 (by rfl) cP.g cP.kp cP.b .nil pass0 (pa_cons (pv 3) pa_nil)) (pe_ifExp (pt_cmpR (op_eqD hn) (pv 5) (pe_lst pa_nil) (nomark _))
          (pe_lc (own := [("_law_path", 11)]) (g := gName 11) (tt := tYes) rfl scLaw.nd (pi_list (pv 4)) (blkOk_by (N := nLaw) (sc := defScope sLaw) (by decide +kernel))
            (fun _ _ _ _ _ => pg_name (i := 11) scLaw.nd rfl (Or.inl rfl)) (fun _ _ _ _ _ => pts_nil) (fun _ _ _ _ _ => pe_dget hu1 (pv 6) (pv 11) (fun _ _ => rfl))) pe_non) (nomark _)) (pss_one (ps_ret pe_bl)) pss_nil)
      (pss_cons (ps_set (i := 12) scLaw.nd rfl (Or.inl rfl) (pe_call cTu.F hr1 (by rfl) cTu.g cTu.kp cTu.b .nil pass0 (pa_cons (pv 4) (pa_cons (pe_op op_add pe_int (pe_call cT.F hr1 (by rfl) cT.g cT.kp cT.b .nil pass0 (pa_cons (pv 1) (pa_cons (pe_callB call_len_seq (by rfl) T.len PySem.boot_len (pa_cons (pv 4) pa_nil)) pa_nil)))) pa_nil))))
      (pss_cons (ps_set (i := 13) scLaw.nd rfl (Or.inl rfl) (pe_call cO.F hr2 (by rfl) cO.g cO.kp cO.b .nil pass0 (pa_cons (pv 1) (pa_cons (pe_op op_cat (pe_op op_cat (pv 12) (pe_slice sl_list (pv 5) po_none (po_some pe_int))) (pe_slice sl_list (pv 10) po_none (po_some pe_int))) pa_nil))))
      (pss_cut (ps_if (pw_or (pt_cmpR op_ne (pe_call cRR.F hr5 (by rfl) cRR.g cRR.kp cRR.b .nil pass0 (pa_cons (pv 3) (pa_cons (pv 13) pa_nil))) (pe_cmpR (op_inD hu) (pv 13) (pv 5) (by rfl)) (by rfl))
          (pw_or1 (pt_cmpR op_ne (pe_call cRO.F hr5 (by rfl) cRO.g cRO.kp cRO.b .nil pass0 (pa_cons (pv 3) (pa_cons (pv 13) pa_nil))) (pe_cmpR (op_inD hu) (pv 13) (pv 10) (by rfl)) (by rfl)))).pt (pss_one (ps_ret pe_bl)) pss_nil)
      (pss_cons (ps_set (i := 14) scLaw.nd rfl (Or.inl rfl) (pe_lst (pa_cons pe_non (pa_cons (pe_tup pa_nil) (pa_cons (pe_callTy call_list_of (by rfl) T.lst (by decide +kernel) (pa_cons (pv 4) pa_nil)) (pa_cons pe_int (pa_cons pe_str (pa_cons (pe_tup (pa_cons pe_str pa_nil)) (pa_cons (pe_tup (pa_cons pe_int pa_nil))
          (pa_cons (pe_op op_catA (pe_callTy call_tuple_of (by rfl) T.tup (by decide +kernel) (pa_cons (pv 4) pa_nil)) (pe_tup (pa_cons pe_str pa_nil))) (pa_cons (pe_op op_repT (pe_callTy call_tuple_of (by rfl) T.tup (by decide +kernel) (pa_cons (pv 4) pa_nil)) pe_int) (pa_cons pe_dnewK (pa_cons (pe_tup (pa_cons pe_non pa_nil)) pa_nil)))))))))))))
      (pss_cons (ps_set (i := 15) scLaw.nd rfl (Or.inl rfl) (pe_call cO.F hr2 (by rfl) cO.g cO.kp cO.b .nil pass0 (pa_cons (pv 1) (pa_cons (pv 14) pa_nil))))
      (pss_one (ps_ret (pe_and (pe_not (pe_call cRR.F hr5 (by rfl) cRR.g cRR.kp cRR.b .nil pass0 (pa_cons (pv 3) (pa_cons (pv 15) pa_nil)))) (pe_one (pe_not (pe_call cRO.F hr5 (by rfl) cRO.g cRO.kp cRO.b .nil pass0 (pa_cons (pv 3) (pa_cons (pv 15) pa_nil)))))))))))))))))))))), ?_⟩
    -- the row, the rules
    refine q_asgL (xs := rowL a 0 1003 0) (el_lst (ea_cons (ev_var rfl) (ea_cons ev_c (ea_cons ev_c (ea_cons ev_c ea_nil)))) (by show 4 ≤ 100000; decide)) fun r H1 hr0 e1 h1 => ?_
    have row1 : Row K H1 r := ⟨a, 0, 1003, 0, ns, h1, sc.ex e1, Int.le_refl _⟩
    refine q_raw (call_raw (cons_raw ⟨_, rfl, cons_raw (op_raw (el_lst (vs := [.int 4, .int 4, .int 4, .int 6]) (ea_cons ev_c (ea_cons ev_c (ea_cons ev_c (ea_cons ev_c ea_nil)))) (by show 4 ≤ 100000; decide) H1 (Ex.refl _) _ fun p H2 hp e2 h2 => ?_))⟩))
    refine draw (m := 4) (ev_var rfl) ev_c (row1.ex e2) (by decide) (by decide) fun n H3 hn0 hm d3 => ?_
    obtain ⟨mm, h46, hat⟩ := four_at hn0 hm
    refine ⟨p, _, n, .int mm, rfl, rfl, sq_of (d3.kp _ _ (row1.ne_new hp) h2), hat, ?_⟩
    refine ⟨r, mm, rfl, h46, d3.row, fun t xs gs G d4 ht0 ht rs0 ge => ?_⟩
    have row4 : Row K G r := d4.row
    obtain ⟨rs, R, ers⟩ := rs_of rs0
    have gnd := rs0.2.1
    have g6 := rs0.2.2
    have g5 := rs_five rs0.1
    -- the book, the made paths
    refine seq_raw (par_raw (cons_raw (mkbook_ev (ev_var rfl) ht rs0 fun b G1 eb hb => cons_raw ?_)))
    refine srt_heads (K := K) (j := 16) (t := t) (xs := xs) (ps := gs.map (·.1)) (by show 16 < 17; decide) (ev_var rfl) (st_of (eb _ _ ht)) ((heads_rs rs0.1).mono eb) (by rw [List.length_map]; omega) fun M pm so m G2 hm0 e2' hm => ?_
    have nd : M.Nodup := pm.nodup_iff.mpr gnd
    have h5 : ∀ y ∈ M, y ∈ five := fun y hy => g5 y (pm.mem_iff.mp hy)
    have md : Md rs M := ⟨asc_names so nd, fun y => by rw [ers]; exact pm.mem_iff⟩
    have lM : M.length = gs.length := by rw [pm.length_eq, List.length_map]
    have eG2 := eb.trans e2'
    have R2 : Rs G2 xs rs := R.mono eG2
    have ht2 : G2 t = some (.tup xs) := eG2 _ _ ht
    have bk2 : BkR G2 C b rs M := ⟨t, xs, hb.mono e2', ht2, R2, md⟩
    have row2 : Row K G2 r := row4.ex eG2
    have nemr : m ≠ r := (row4.ex eb).ne_new hm0
    have few : M.length ≤ 6 := by omega
    have one : 1 ≤ M.length := by omega
    refine ⟨_, _, rfl, ?_⟩
    clear row1 d3 d4 R rs0 row4 hb pm ht so eb e2' eG2 hm0 h2 hat g5 gnd
    -- the two books of the turns
    dsimp only
    show tSeq (tAsg _ _) _ _ ([some (.ref a), some (.ref r), some (.ref t), some (.ref b), some (.ref m), none, none, none, none, none, none, none, none, none, none, none, none] : L2.St) G2
    refine seq_raw (asgn_raw (tup_raw (cons_raw ⟨by show 0 ≤ sizeLine; decide, fun rl hrl => cons_raw (fun dl hdl => ⟨by show 2 ≤ sizeLine; decide, fun q hq => ?_⟩)⟩)))
    refine ⟨q, [.ref rl, .ref dl], rfl, st_of upd_same, rfl, ?_⟩
    refine ⟨_, _, rfl, _, _, rfl, rfl, ?_⟩
    have erl := Ex.new (o := .lst []) hrl
    have edl := Ex.new (o := .dK []) hdl
    have eq := Ex.new (o := .tup [V.ref rl, V.ref dl]) hq
    have ndl : G2 dl = none := fresh_back erl hdl
    have e3 := (erl.trans edl).trans eq
    have li0 := LI.nil (eq _ _ (edl _ _ upd_same)) (eq _ _ upd_same) (Ed rs)
    generalize upd (upd (upd G2 rl (.lst [])) dl (.dK [])) q (.tup [V.ref rl, V.ref dl]) = G3 at e3 li0 ⊢
    clear erl edl eq hdl hq
    show tCut _ _ _ (Sb a r t b m rl dl none none) G3
    refine q_cut (M := fun τ F => ∃ u7 u8, τ = Sb a r t b m rl dl u7 u8 ∧ Ex G2 F ∧ LI F rl dl (Ed rs) (Gm.proc M M.length)) ?_ ?_
    · exact turns_ok e3 hrl ndl ht2 R2 md hm li0 fun u7 u8 F eF li => ⟨u7, u8, rfl, eF, li⟩
    rintro τ G4 ⟨u7, u8, rfl, e4, li4⟩
    have nrl : rl ≠ r := fun z => by obtain ⟨z1, z2⟩ := row2.at; rw [z, z2] at hrl; cases hrl
    clear hrl ndl e3 li0
    obtain ⟨⟨ws5, hws5, pw5⟩, _⟩ := id li4
    rw [← Gm.rings_proc] at pw5
    have f5 : FiveR (Gm.rings M (Ed rs) M.length) := rings_five nd h5
    have fO : FiveR (ordersOf rs M) := orders_five nd h5
    -- told rings
    refine q_cut (M := fun τ F => τ = Sb a r t b m rl dl u7 u8 ∧ Ex G4 F) ?_ ?_
    · exact told_ok (sp := spRing C) (i := 5) (l := rl) (b := b) (ts := Gm.rings M (Ed rs) M.length) rfl rfl hws5 pw5 f5 (fun Q E h => ⟨b, rs, M, rfl, bk2.mono e4, h⟩) fun G' e => ⟨rfl, e⟩
    rintro τ G5 ⟨rfl, e5⟩
    have e25 := e4.trans e5
    -- the told orders
    refine q_asgL (xs := []) (el_lst ea_nil (by decide)) fun ol G6 hol0 e6 hol => ?_
    have nol : ol ≠ r := by
      have := (row2.ex e25).ne_new hol0
      exact this
    show tCut _ _ _ ([some (.ref a), some (.ref r), some (.ref t), some (.ref b), some (.ref m), some (.ref rl), some (.ref dl), u7, u8, none, some (.ref ol), none, none, none, none, none, none] : L2.St) G6
    refine q_cut (M := fun τ F => ∃ u8 ws, τ = [some (.ref a), some (.ref r), some (.ref t), some (.ref b), some (.ref m), some (.ref rl), some (.ref dl), u7, u8, none, some (.ref ol), none, none, none, none, none, none] ∧ Ex G5 F ∧ F ol = some (.lst ws) ∧ Paired (TupAt F) ws (ordersOf rs M)) ?_ ?_
    · exact orders_ok e6 hol0 (e25 _ _ ht2) (R2.mono e25) md (e25 _ _ hm) hol fun u8 ws F eF h1 h2 => ⟨u8, ws, rfl, eF, h1, h2⟩
    rintro τ G7 ⟨u8, ws10, rfl, e7, hws10, pw10⟩
    clear hol0 e6 hol
    have e27 := e25.trans e7
    have li7 := li4.mono (e5.trans e7)
    refine q_cut (M := fun τ F => τ = [some (.ref a), some (.ref r), some (.ref t), some (.ref b), some (.ref m), some (.ref rl), some (.ref dl), u7, u8, none, some (.ref ol), none, none, none, none, none, none] ∧ Ex G7 F) ?_ ?_
    · exact told_ok (sp := spOrder C) (i := 10) (l := ol) (b := b) (ts := ordersOf rs M) rfl rfl hws10 pw10 fO (fun Q E h => ⟨b, rs, M, rfl, bk2.mono e27, h⟩) fun G' e => ⟨rfl, e⟩
    rintro τ G8 ⟨rfl, e8⟩
    have e28 := e27.trans e8
    -- depths
    refine q_cut (M := fun τ F => τ = [some (.ref a), some (.ref r), some (.ref t), some (.ref b), some (.ref m), some (.ref rl), some (.ref dl), u7, u8, none, some (.ref ol), none, none, none, none, none, none] ∧ Ex G8 F) ?_ ?_
    · exact depths_ok (sp := spDepths C) (b := b) (m := m) (rs := rs) rfl rfl rfl rfl (by show 11 < 17; decide) (e28 _ _ hm) (li7.mono e8) nd few f5 (fun Q E h1 h2 => ⟨b, rs, M, rfl, bk2.mono e28, h1, h2⟩) fun G' e => ⟨rfl, e⟩
    rintro τ G9 ⟨rfl, e9⟩
    have e29 := e28.trans e9
    have row9 := row2.ex e29
    have bk9 := bk2.mono e29
    have hm9 := e29 _ _ hm
    have hw5 : G9 rl = some (.lst ws5) := ((e5.trans e7).trans (e8.trans e9)) _ _ hws5
    have pw5' := pr_mono pw5 fun _ _ z => TupAt.mono ((e5.trans e7).trans (e8.trans e9)) z
    have hw10 : G9 ol = some (.lst ws10) := (e8.trans e9) _ _ hws10
    have pw10' := pr_mono pw10 fun _ _ z => TupAt.mono (e8.trans e9) z
    clear row2 bk2 ht2 R2 hm li4 hws5 pw5 hws10 pw10 li7 e4 e5 e25 e7 e27 e8 e28 e9 e29
    -- what is tried
    refine q_raw (call_raw (cons_raw ⟨_, rfl, cons_raw (op_raw ?_)⟩))
    refine draw (m := (M.length : Int)) (ev_var rfl) (ev_is (ev_lenL (ev_var rfl) hm9) (by rw [List.length_map])) row9 (by omega) (by omega) fun n G10 hn0 hmn d10 => ?_
    have hm10 := d10.kp _ _ nemr hm9
    have en : (1 : Int) + n = (((1 + n).toNat : Nat) : Int) := by omega
    refine ⟨1, n, rfl, rfl, m, M, (1 + n).toNat, by rw [← en]; rfl, hm10, few, by omega, nd, fun tr vt G11 e11 htr htr1 pt => ?_⟩
    have row10 := d10.row
    have row11 := row10.ex e11
    have pw5a : Paired (TupAt G11) ws5 _ := pr_mono pw5' fun _ _ z => (z.dr row9 d10).mono e11
    have pw10a : Paired (TupAt G11) ws10 _ := pr_mono pw10' fun _ _ z => (z.dr row9 d10).mono e11
    have hw5a : G11 rl = some (.lst ws5) := e11 _ _ (d10.kp _ _ nrl hw5)
    have hw10a : G11 ol = some (.lst ws10) := e11 _ _ (d10.kp _ _ nol hw10)
    have bk11 : BkR G11 C b rs M := (bk9.dr row9 d10).mono e11
    have hm11 := e11 _ _ hm10
    have lt := pr_len pt
    have lt2 : (Gm.tups M (1 + n).toNat).length ≤ 46656 := Nat.le_trans (tups_len few _) (pow_small _ (by omega))
    have lt3 : 0 < (Gm.tups M (1 + n).toNat).length := List.length_pos_of_mem (Gm.take_tups nd (by omega))
    clear row9 d10 hm9 hm10 bk9 hw5 hw10 pw5' pw10' row10 htr
    -- the value
    have c5 := cut3_len (ws := ws5)
    have c10 := cut3_len (ws := ws10)
    refine q_raw (call_raw (cons_raw ⟨_, rfl, cons_raw ?_⟩))
    refine el_cat2 (H := G11) (el_cat (ev_var rfl) htr1 (el_cut3 rfl hw5a) (by omega)) (el_cut3 rfl hw10a) (by rw [List.length_append]; omega) G11 (Ex.refl _) _ fun lv G12 hlv e12 hv => ?_
    refine ⟨r, lv, _, rfl, row11.ex e12, row11.ne_new hlv, hv, by rw [List.length_append, List.length_append]; omega, by rw [List.length_append, List.length_append]; omega, fun v G13 hvm d13 => ?_⟩
    have hT : ∃ T, TupAt G11 v T ∧ T.Nodup ∧ (∀ y ∈ T, y ∈ M) ∧ T.length ≤ 6 := by
      rcases List.mem_append.mp hvm with hvm | hvm
      · rcases List.mem_append.mp hvm with hvm | hvm
        · obtain ⟨T, hT, ha⟩ := pr_mem pt hvm
          obtain ⟨z1, z2, z3⟩ := (Gm.mem_tups nd).mp hT
          exact ⟨T, ha, z1, z2, by omega⟩
        · obtain ⟨T, hT, ha⟩ := pr_mem pw5a (cut_mem hvm)
          obtain ⟨_, z1, z2, _⟩ := (Gm.mem_rings nd).mp hT
          exact ⟨T, ha, z1, z2, Nat.le_trans (Gm.len_le z1 z2) few⟩
      · obtain ⟨T, hT, ha⟩ := pr_mem pw10a (cut_mem hvm)
        obtain ⟨z1, z2, z3⟩ := (Gm.mem_tups nd).mp (List.mem_filter.mp hT).1
        exact ⟨T, ha, z1, z2, by omega⟩
    obtain ⟨T, hvT, tn, sub, t6⟩ := hT
    have row12 := row11.ex e12
    have row13 := d13.row
    have hvT2 : TupAt G13 v T := (hvT.mono e12).dr row12 d13
    have bk13 : BkR G13 C b rs M := (bk11.mono e12).dr row12 d13
    have hw5b : G13 rl = some (.lst ws5) := d13.kp _ _ nrl (e12 _ _ hw5a)
    have hw10b : G13 ol = some (.lst ws10) := d13.kp _ _ nol (e12 _ _ hw10a)
    have pw5b : Paired (TupAt G13) ws5 _ := pr_mono pw5a fun _ _ z => (z.mono e12).dr row12 d13
    have pw10b : Paired (TupAt G13) ws10 _ := pr_mono pw10a fun _ _ z => (z.mono e12).dr row12 d13
    have hm13 : G13 m = some (.lst (M.map V.str)) := d13.kp _ _ nemr (e12 _ _ hm11)
    have h5T : ∀ y ∈ T, y ∈ five := fun y hy => h5 y (sub y hy)
    clear row11 row12 hvT bk11 hw5a hw10a pw5a pw10a hm11 d13 e12 hv hvm hlv pt
    refine q_cut (M := fun τ F => τ = [some (.ref a), some (.ref r), some (.ref t), some (.ref b), some (.ref m), some (.ref rl), some (.ref dl), u7, u8, none, some (.ref ol), none, some (.ref tr), some v, none, none, none] ∧ Ex G13 F) ?_ ?_
    · have ask : ∀ (ans : List Str → Bool) H', Ex G13 H' → AskV K H' v ans (ans T) := fun ans H' e => by
        obtain ⟨c, rfl, hc⟩ := hvT2.mono e
        exact .inr (.inl ⟨c, T, rfl, kd_tup hc, st_of hc, by omega, rfl⟩)
      refine ifs_raw (or_raw (et_ask (sp := spRR (K := K) C) (i := 5) (l := rl) (b := b) (v := v) rfl rfl rfl hw5b pw5b f5 hvT2 h5T (ring_mem nd tn sub) (fun H' e Q E h => ⟨b, rs, M, v, _, rfl, bk13.mono e, h5, ask _ _ e, h⟩) G13 (Ex.refl _) _ fun F1 e1 => ?_))
      refine iteF (et_ask (sp := spRO (K := K) C) (i := 10) (l := ol) (b := b) (v := v) rfl rfl rfl hw10b pw10b fO hvT2 h5T (order_mem nd tn sub) (fun H' e Q E h => ⟨b, rs, M, v, _, rfl, bk13.mono e, ask _ _ e, h⟩) F1 e1 _ fun F2 e2 => ?_)
      exact iteF ⟨rfl, e1.trans e2⟩
    rintro τ G14 ⟨rfl, e14⟩
    have row14 := row13.ex e14
    have bk14 := bk13.mono e14
    have hm14 := e14 _ _ hm13
    -- the odd values
    refine q_raw (lst_raw2 (odd_list (K := K) (rs := rs) h5 hm14 one few rfl G14 (Ex.refl _) _ fun vs G15 e15 hvs hn => ⟨by rw [hn]; decide, fun lo hlo => ?_⟩))
    have row15 := row14.ex e15
    have elo := Ex.new (o := .lst vs) hlo
    refine q_raw (call_raw (cons_raw ⟨_, rfl, cons_raw ⟨_, rfl, r, lo, vs, rfl, row15.ex elo, row15.ne_new hlo, upd_same, by omega, by omega, fun bad G16 hbad d16 => ?_⟩⟩))
    have odd : Odd K G16 rs M bad := ((hvs bad hbad).mono elo).dr (row15.ex elo) d16
    have bk16 : BkR G16 C b rs M := (bk14.mono (e15.trans elo)).dr (row15.ex elo) d16
    refine s_ret (ev_and (a := true) (b := true) (ev_notV (a := false) fun F e Q' q' => call_raw (cons_raw ⟨_, rfl, cons_raw ⟨_, rfl, b, rs, M, bad, false, rfl, bk16.mono e, h5, (odd.mono e).askR, fun F2 e2 => q' F2 e2⟩⟩))
      (fun _ => ev_notV (a := false) fun F e Q' q' => call_raw (cons_raw ⟨_, rfl, cons_raw ⟨_, rfl, b, rs, M, bad, false, rfl, bk16.mono e, (odd.mono e).askO, fun F2 e2 => q' F2 e2⟩⟩))) fun F _ => k F
end
end Bl
namespace Bl
open PySem PySem.Spec PyProof.Rows L2 Bk Bm Evl Be Cr Bp TL Kr Ks
theorem kt_at {K : PySem.W.Frag} {T : Addr} (h2 : PySem.W.isClsIn K T = true) (h3 : PySem.W.typeIn K (.ref T) = some (.type "type")) (h4 : PySem.W.subIn K (.type "tuple") (.ref T) = some false) : PySem.W.kitOne K (.type "tuple") (.ref T) = some false := by
  have e2 : ((PySem.W.clsIn K T).isSome && PySem.W.typeIn K (.ref T) == some (.type "type")) = true := by
    have h2' : (PySem.W.clsIn K T).isSome = true := h2
    rw [h2', h3]
    rfl
  show (if (Value.type "tuple" == Value.ref T) = true then some true else (if ((PySem.W.clsIn K T).isSome && PySem.W.typeIn K (.ref T) == some (.type "type")) = true then PySem.W.subIn K (.type "tuple") (.ref T) else none)) = some false
  rw [if_neg (by simp), if_pos e2]
  exact h4
theorem nf_at {K : PySem.W.Frag} {T : Addr} (h4 : PySem.W.subIn K (.type "tuple") (.ref T) = some false) : PySem.W.notFirst K T (.type "tuple") = true := by
  unfold PySem.W.notFirst
  rw [h4]
  simp
/-- a written tuple of texts -/
theorem sqK {K : PySem.W.Frag} {t : Addr} {od : Option Addr} {its : Array Value} {n : Nat} {sl : Array (Option Value)} {fs : List Str} (h : K.lookup t = some ⟨.type "tuple", od, .seq its n, sl⟩) (hv : Vals (fs.map V.str) its.toList) (hl : fs.length ≤ 100) : ∀ H, SqT K H t (fs.map V.str) := fun H => by
  refine .inr ⟨_, its, n, h, rfl, rfl, sz_of ?_, hv⟩
  have := hv.length
  rw [List.length_map] at this
  have e : its.size = its.toList.length := by simp
  omega
section
variable {l : PySem.W.OpenLaw} {w : World} {K : PySem.W.Frag} {h : Heap} {mg : Str → Option Value}
theorem all_mk {fa C Cx pR fI fG fL fE fX D fHS fRT fLO f0 f1 f2 f3 f4 f5 f6 f7 f8 f9 f10 f11 f12 f13 f14 f15 f16 f17 f18 f19 f20 f21 f22 f23 f24 f25 f26 t0 t1 t2 t3 t4 t5 t6 t7 : Addr} {odI anI odG anG odX anX odHS anHS odRT anRT odLO anLO od0 an0 od1 an1 od2 an2 od3 an3 od4 an4 od5 an5 od6 an6 od7 an7 od8 an8 od9 an9 od10 an10 od11 an11 od12 an12 od13 an13 od14 an14 od15 an15 od16 an16 od17 an17 od18 an18 od19 an19 od20 an20 od21 an21 od22 an22 od23 an23 od24 an24 od25 an25 od26 an26 td0 td1 td2 td3 td4 td5 td6 td7 : Option Addr} {slI slG slX slHS slRT slLO sl0 sl1 sl2 sl3 sl4 sl5 sl6 sl7 sl8 sl9 sl10 sl11 sl12 sl13 sl14 sl15 sl16 sl17 sl18 sl19 sl20 sl21 sl22 sl23 sl24 sl25 sl26 ts0 ts1 ts2 ts3 ts4 ts5 ts6 ts7 : Array (Option Value)} {ocI kVI dcI pmI cdI ctI ocG kVG dcG pmG cdG ctG ocX kVX dcX pmX cdX ctX ocHS kVHS dcHS pmHS cdHS ctHS ocRT kVRT dcRT pmRT cdRT ctRT ocLO kVLO dcLO pmLO cdLO ctLO oc0 kV0 dc0 pm0 cd0 ct0 oc1 kV1 dc1 pm1 cd1 ct1 oc2 kV2 dc2 pm2 cd2 ct2 oc3 kV3 dc3 pm3 cd3 ct3 oc4 kV4 dc4 pm4 cd4 ct4 oc5 kV5 dc5 pm5 cd5 ct5 oc6 kV6 dc6 pm6 cd6 ct6 oc7 kV7 dc7 pm7 cd7 ct7 oc8 kV8 dc8 pm8 cd8 ct8 oc9 kV9 dc9 pm9 cd9 ct9 oc10 kV10 dc10 pm10 cd10 ct10 oc11 kV11 dc11 pm11 cd11 ct11 oc12 kV12 dc12 pm12 cd12 ct12 oc13 kV13 dc13 pm13 cd13 ct13 oc14 kV14 dc14 pm14 cd14 ct14 oc15 kV15 dc15 pm15 cd15 ct15 oc16 kV16 dc16 pm16 cd16 ct16 oc17 kV17 dc17 pm17 cd17 ct17 oc18 kV18 dc18 pm18 cd18 ct18 oc19 kV19 dc19 pm19 cd19 ct19 oc20 kV20 dc20 pm20 cd20 ct20 oc21 kV21 dc21 pm21 cd21 ct21 oc22 kV22 dc22 pm22 cd22 ct22 oc23 kV23 dc23 pm23 cd23 ct23 oc24 kV24 dc24 pm24 cd24 ct24 oc25 kV25 dc25 pm25 cd25 ct25 oc26 kV26 dc26 pm26 cd26 ct26 : Value} {nmT qT : Str} {NT : Addr} {bsT bmT restR : List Value} {snT : List Str} {subT : List Value} {abT : Bool} {colT : Option Bool} {ddT : Option Addr} {m0 m1 m2 m3 m5 : Option Value} {tk0 tk1 tk2 tk3 tk4 tk5 : Tok} {esD : Array DictEntry} {nD tn0 tn1 tn2 tn3 tn4 tn5 tn6 tn7 : Nat} {ti0 ti1 ti2 ti3 ti4 ti5 ti6 ti7 : Array Value} (X : K.In h) (G : h.Ns mainGlobals mg) (hfa : mg "law" = some (.ref fa))
    (aHS : PySem.W.nsIn K mainGlobals "has_signs" = some (some (.ref fHS)))
    (lHS : K.lookup fHS = some ⟨ocHS, odHS, .func (PySem.W.fnOf "has_signs" "has_signs" (defArgs sHas) (defBody sHas) (defScope sHas) .none kVHS dcHS pmHS anHS cdHS ctHS), slHS⟩)
    (cHS : PySem.W.codeIn K cdHS "has_signs" = true)
    (kHS : PySem.W.keepIn K (.ref fHS) = true)
    (aRT : PySem.W.nsIn K mainGlobals "rule_table" = some (some (.ref fRT)))
    (lRT : K.lookup fRT = some ⟨ocRT, odRT, .func (PySem.W.fnOf "rule_table" "rule_table" (defArgs sTable) (defBody sTable) (defScope sTable) .none kVRT dcRT pmRT anRT cdRT ctRT), slRT⟩)
    (cRT : PySem.W.codeIn K cdRT "rule_table" = true)
    (kRT : PySem.W.keepIn K (.ref fRT) = true)
    (aLO : PySem.W.nsIn K mainGlobals "least_order" = some (some (.ref fLO)))
    (lLO : K.lookup fLO = some ⟨ocLO, odLO, .func (PySem.W.fnOf "least_order" "least_order" (defArgs sLeast) (defBody sLeast) (defScope sLeast) .none kVLO dcLO pmLO anLO cdLO ctLO), slLO⟩)
    (cLO : PySem.W.codeIn K cdLO "least_order" = true)
    (kLO : PySem.W.keepIn K (.ref fLO) = true)
    (a0 : PySem.W.nsIn K mainGlobals "is_name" = some (some (.ref f0)))
    (l0 : K.lookup f0 = some ⟨oc0, od0, .func (PySem.W.fnOf "is_name" "is_name" (defArgs sIsName) (defBody sIsName) (defScope sIsName) .none kV0 dc0 pm0 an0 cd0 ct0), sl0⟩)
    (c0 : PySem.W.codeIn K cd0 "is_name" = true)
    (k0 : PySem.W.keepIn K (.ref f0) = true)
    (a1 : PySem.W.nsIn K mainGlobals "is_path" = some (some (.ref f1)))
    (l1 : K.lookup f1 = some ⟨oc1, od1, .func (PySem.W.fnOf "is_path" "is_path" (defArgs sIsPath) (defBody sIsPath) (defScope sIsPath) .none kV1 dc1 pm1 an1 cd1 ct1), sl1⟩)
    (c1 : PySem.W.codeIn K cd1 "is_path" = true)
    (k1 : PySem.W.keepIn K (.ref f1) = true)
    (a2 : PySem.W.nsIn K mainGlobals "is_folder" = some (some (.ref f2)))
    (l2 : K.lookup f2 = some ⟨oc2, od2, .func (PySem.W.fnOf "is_folder" "is_folder" (defArgs sIsFolder) (defBody sIsFolder) (defScope sIsFolder) .none kV2 dc2 pm2 an2 cd2 ct2), sl2⟩)
    (c2 : PySem.W.codeIn K cd2 "is_folder" = true)
    (k2 : PySem.W.keepIn K (.ref f2) = true)
    (a3 : PySem.W.nsIn K mainGlobals "is_text" = some (some (.ref f3)))
    (l3 : K.lookup f3 = some ⟨oc3, od3, .func (PySem.W.fnOf "is_text" "is_text" (defArgs sIsText) (defBody sIsText) (defScope sIsText) .none kV3 dc3 pm3 an3 cd3 ct3), sl3⟩)
    (c3 : PySem.W.codeIn K cd3 "is_text" = true)
    (k3 : PySem.W.keepIn K (.ref f3) = true)
    (a4 : PySem.W.nsIn K mainGlobals "lies_within" = some (some (.ref f4)))
    (l4 : K.lookup f4 = some ⟨oc4, od4, .func (PySem.W.fnOf "lies_within" "lies_within" (defArgs sLies) (defBody sLies) (defScope sLies) .none kV4 dc4 pm4 an4 cd4 ct4), sl4⟩)
    (c4 : PySem.W.codeIn K cd4 "lies_within" = true)
    (k4 : PySem.W.keepIn K (.ref f4) = true)
    (a5 : PySem.W.nsIn K mainGlobals "in_the_way" = some (some (.ref f5)))
    (l5 : K.lookup f5 = some ⟨oc5, od5, .func (PySem.W.fnOf "in_the_way" "in_the_way" (defArgs sWay) (defBody sWay) (defScope sWay) .none kV5 dc5 pm5 an5 cd5 ct5), sl5⟩)
    (c5 : PySem.W.codeIn K cd5 "in_the_way" = true)
    (k5 : PySem.W.keepIn K (.ref f5) = true)
    (a6 : PySem.W.nsIn K mainGlobals "is_word" = some (some (.ref f6)))
    (l6 : K.lookup f6 = some ⟨oc6, od6, .func (PySem.W.fnOf "is_word" "is_word" (defArgs sIsWord) (defBody sIsWord) (defScope sIsWord) .none kV6 dc6 pm6 an6 cd6 ct6), sl6⟩)
    (c6 : PySem.W.codeIn K cd6 "is_word" = true)
    (k6 : PySem.W.keepIn K (.ref f6) = true)
    (a7 : PySem.W.nsIn K mainGlobals "fits" = some (some (.ref f7)))
    (l7 : K.lookup f7 = some ⟨oc7, od7, .func (PySem.W.fnOf "fits" "fits" (defArgs sFits) (defBody sFits) (defScope sFits) .none kV7 dc7 pm7 an7 cd7 ct7), sl7⟩)
    (c7 : PySem.W.codeIn K cd7 "fits" = true)
    (k7 : PySem.W.keepIn K (.ref f7) = true)
    (a8 : PySem.W.nsIn K mainGlobals "is_rule" = some (some (.ref f8)))
    (l8 : K.lookup f8 = some ⟨oc8, od8, .func (PySem.W.fnOf "is_rule" "is_rule" (defArgs sIsRule) (defBody sIsRule) (defScope sIsRule) .none kV8 dc8 pm8 an8 cd8 ct8), sl8⟩)
    (c8 : PySem.W.codeIn K cd8 "is_rule" = true)
    (k8 : PySem.W.keepIn K (.ref f8) = true)
    (a9 : PySem.W.nsIn K mainGlobals "check_rules" = some (some (.ref f9)))
    (l9 : K.lookup f9 = some ⟨oc9, od9, .func (PySem.W.fnOf "check_rules" "check_rules" (defArgs sCkRules) (defBody sCkRules) (defScope sCkRules) .none kV9 dc9 pm9 an9 cd9 ct9), sl9⟩)
    (c9 : PySem.W.codeIn K cd9 "check_rules" = true)
    (k9 : PySem.W.keepIn K (.ref f9) = true)
    (a10 : PySem.W.nsIn K mainGlobals "check_book" = some (some (.ref f10)))
    (l10 : K.lookup f10 = some ⟨oc10, od10, .func (PySem.W.fnOf "check_book" "check_book" (defArgs sCkBook) (defBody sCkBook) (defScope sCkBook) .none kV10 dc10 pm10 an10 cd10 ct10), sl10⟩)
    (c10 : PySem.W.codeIn K cd10 "check_book" = true)
    (k10 : PySem.W.keepIn K (.ref f10) = true)
    (a11 : PySem.W.nsIn K mainGlobals "told_paths" = some (some (.ref f11)))
    (l11 : K.lookup f11 = some ⟨oc11, od11, .func (PySem.W.fnOf "told_paths" "told_paths" (defArgs sTold) (defBody sTold) (defScope sTold) .none kV11 dc11 pm11 an11 cd11 ct11), sl11⟩)
    (c11 : PySem.W.codeIn K cd11 "told_paths" = true)
    (k11 : PySem.W.keepIn K (.ref f11) = true)
    (a12 : PySem.W.nsIn K mainGlobals "told_made" = some (some (.ref f12)))
    (l12 : K.lookup f12 = some ⟨oc12, od12, .func (PySem.W.fnOf "told_made" "told_made" (defArgs sToldMade) (defBody sToldMade) (defScope sToldMade) .none kV12 dc12 pm12 an12 cd12 ct12), sl12⟩)
    (c12 : PySem.W.codeIn K cd12 "told_made" = true)
    (k12 : PySem.W.keepIn K (.ref f12) = true)
    (a13 : PySem.W.nsIn K mainGlobals "are_unlike_keys" = some (some (.ref f13)))
    (l13 : K.lookup f13 = some ⟨oc13, od13, .func (PySem.W.fnOf "are_unlike_keys" "are_unlike_keys" (defArgs sKeys) (defBody sKeys) (defScope sKeys) .none kV13 dc13 pm13 an13 cd13 ct13), sl13⟩)
    (c13 : PySem.W.codeIn K cd13 "are_unlike_keys" = true)
    (k13 : PySem.W.keepIn K (.ref f13) = true)
    (a14 : PySem.W.nsIn K mainGlobals "told_ring" = some (some (.ref f14)))
    (l14 : K.lookup f14 = some ⟨oc14, od14, .func (PySem.W.fnOf "told_ring" "told_ring" (defArgs sRing) (defBody sRing) (defScope sRing) .none kV14 dc14 pm14 an14 cd14 ct14), sl14⟩)
    (c14 : PySem.W.codeIn K cd14 "told_ring" = true)
    (k14 : PySem.W.keepIn K (.ref f14) = true)
    (a15 : PySem.W.nsIn K mainGlobals "right_ring" = some (some (.ref f15)))
    (l15 : K.lookup f15 = some ⟨oc15, od15, .func (PySem.W.fnOf "right_ring" "right_ring" (defArgs sRR) (defBody sRR) (defScope sRR) .none kV15 dc15 pm15 an15 cd15 ct15), sl15⟩)
    (c15 : PySem.W.codeIn K cd15 "right_ring" = true)
    (k15 : PySem.W.keepIn K (.ref f15) = true)
    (a16 : PySem.W.nsIn K mainGlobals "told_order" = some (some (.ref f16)))
    (l16 : K.lookup f16 = some ⟨oc16, od16, .func (PySem.W.fnOf "told_order" "told_order" (defArgs sOrder) (defBody sOrder) (defScope sOrder) .none kV16 dc16 pm16 an16 cd16 ct16), sl16⟩)
    (c16 : PySem.W.codeIn K cd16 "told_order" = true)
    (k16 : PySem.W.keepIn K (.ref f16) = true)
    (a17 : PySem.W.nsIn K mainGlobals "right_order" = some (some (.ref f17)))
    (l17 : K.lookup f17 = some ⟨oc17, od17, .func (PySem.W.fnOf "right_order" "right_order" (defArgs sRO) (defBody sRO) (defScope sRO) .none kV17 dc17 pm17 an17 cd17 ct17), sl17⟩)
    (c17 : PySem.W.codeIn K cd17 "right_order" = true)
    (k17 : PySem.W.keepIn K (.ref f17) = true)
    (a18 : PySem.W.nsIn K mainGlobals "depths" = some (some (.ref f18)))
    (l18 : K.lookup f18 = some ⟨oc18, od18, .func (PySem.W.fnOf "depths" "depths" (defArgs sDepths) (defBody sDepths) (defScope sDepths) .none kV18 dc18 pm18 an18 cd18 ct18), sl18⟩)
    (c18 : PySem.W.codeIn K cd18 "depths" = true)
    (k18 : PySem.W.keepIn K (.ref f18) = true)
    (a19 : PySem.W.nsIn K mainGlobals "_law_taken" = some (some (.ref f19)))
    (l19 : K.lookup f19 = some ⟨oc19, od19, .func (PySem.W.fnOf "_law_taken" "_law_taken" (defArgs sTaken) (defBody sTaken) (defScope sTaken) .none kV19 dc19 pm19 an19 cd19 ct19), sl19⟩)
    (c19 : PySem.W.codeIn K cd19 "_law_taken" = true)
    (k19 : PySem.W.keepIn K (.ref f19) = true)
    (a20 : PySem.W.nsIn K mainGlobals "_law_one" = some (some (.ref f20)))
    (l20 : K.lookup f20 = some ⟨oc20, od20, .func (PySem.W.fnOf "_law_one" "_law_one" (defArgs sOne) (defBody sOne) (defScope sOne) .none kV20 dc20 pm20 an20 cd20 ct20), sl20⟩)
    (c20 : PySem.W.codeIn K cd20 "_law_one" = true)
    (k20 : PySem.W.keepIn K (.ref f20) = true)
    (a21 : PySem.W.nsIn K mainGlobals "_law_rule" = some (some (.ref f21)))
    (l21 : K.lookup f21 = some ⟨oc21, od21, .func (PySem.W.fnOf "_law_rule" "_law_rule" (defArgs sRuleL) (defBody sRuleL) (defScope sRuleL) .none kV21 dc21 pm21 an21 cd21 ct21), sl21⟩)
    (c21 : PySem.W.codeIn K cd21 "_law_rule" = true)
    (k21 : PySem.W.keepIn K (.ref f21) = true)
    (a22 : PySem.W.nsIn K mainGlobals "_law_rules" = some (some (.ref f22)))
    (l22 : K.lookup f22 = some ⟨oc22, od22, .func (PySem.W.fnOf "_law_rules" "_law_rules" (defArgs sRulesL) (defBody sRulesL) (defScope sRulesL) .none kV22 dc22 pm22 an22 cd22 ct22), sl22⟩)
    (c22 : PySem.W.codeIn K cd22 "_law_rules" = true)
    (k22 : PySem.W.keepIn K (.ref f22) = true)
    (a23 : PySem.W.nsIn K mainGlobals "_law_reads" = some (some (.ref f23)))
    (l23 : K.lookup f23 = some ⟨oc23, od23, .func (PySem.W.fnOf "_law_reads" "_law_reads" (defArgs sReads) (defBody sReads) (defScope sReads) .none kV23 dc23 pm23 an23 cd23 ct23), sl23⟩)
    (c23 : PySem.W.codeIn K cd23 "_law_reads" = true)
    (k23 : PySem.W.keepIn K (.ref f23) = true)
    (a24 : PySem.W.nsIn K mainGlobals "_law_tuples" = some (some (.ref f24)))
    (l24 : K.lookup f24 = some ⟨oc24, od24, .func (PySem.W.fnOf "_law_tuples" "_law_tuples" (defArgs sTups) (defBody sTups) (defScope sTups) .none kV24 dc24 pm24 an24 cd24 ct24), sl24⟩)
    (c24 : PySem.W.codeIn K cd24 "_law_tuples" = true)
    (k24 : PySem.W.keepIn K (.ref f24) = true)
    (a25 : PySem.W.nsIn K mainGlobals "_law_stands" = some (some (.ref f25)))
    (l25 : K.lookup f25 = some ⟨oc25, od25, .func (PySem.W.fnOf "_law_stands" "_law_stands" (defArgs sStands) (defBody sStands) (defScope sStands) .none kV25 dc25 pm25 an25 cd25 ct25), sl25⟩)
    (c25 : PySem.W.codeIn K cd25 "_law_stands" = true)
    (k25 : PySem.W.keepIn K (.ref f25) = true)
    (a26 : PySem.W.nsIn K mainGlobals "law" = some (some (.ref f26)))
    (l26 : K.lookup f26 = some ⟨oc26, od26, .func (PySem.W.fnOf "law" "law" (defArgs sLaw) (defBody sLaw) (defScope sLaw) .none kV26 dc26 pm26 an26 cd26 ct26), sl26⟩)
    (c26 : PySem.W.codeIn K cd26 "law" = true)
    (k26 : PySem.W.keepIn K (.ref f26) = true)
    (aT : PySem.W.nsIn K mainGlobals "BadRules" = some (some (.ref Cx)))
    (xT : K.lookup Cx = some (excClassObj nmT qT Cx NT bsT bmT true snT subT abT colT ddT m0 m1 m2 m3 m5 "ValueError.__new__"))
    (rT : PySem.HandSPX.refsVE bmT = true)
    (saT : PySem.W.findIn K (.ref Cx) "__setattr__" = some (some (.builtin "object.__setattr__")))
    (gaT : PySem.W.findIn K (.ref Cx) "__getattribute__" = some (some (.builtin "BaseException.__getattribute__")))
    (ggT : PySem.W.findIn K (.ref Cx) "__getattr__" = some none)
    (nbT : PySem.W.findIn K (.ref Cx) "index" = some none)
    (iT : PySem.W.findIn K (.ref Cx) "__init__" = some (some (.ref fX)))
    (tI : PySem.W.typeIn K (.ref fX) = some (.type "function"))
    (hdT : PySem.W.hasDictIn K Cx = true)
    (kkT : PySem.W.keepIn K (.ref Cx) = true)
    (bbT : PySem.W.subIn K (.ref Cx) (.type "BaseException") = some true)
    (tyT : PySem.W.typeIn K (.ref Cx) = some (.type "type"))
    (aB : PySem.W.nsIn K mainGlobals "Book" = some (some (.ref C)))
    (pgB : PySem.W.plainGet K C Str.empty = true)
    (hdB : PySem.W.hasDictIn K C = true)
    (poB : PySem.W.plainOver K C = true)
    (saB : PySem.W.findIn K (.ref C) "__setattr__" = some (some (.builtin "object.__setattr__")))
    (mkB : PySem.W.makesIn K C = true)
    (inB : PySem.W.findIn K (.ref C) "__init__" = some (some (.ref fI)))
    (fnB : PySem.W.isFn K (.ref fI) = true)
    (kpB : PySem.W.keepIn K (.ref C) = true)
    (naB : PySem.W.findIn K (.ref C) "_rules" = some none)
    (prB : PySem.W.findIn K (.ref C) "rules" = some (some (.ref pR)))
    (pgetB : PySem.W.specialIn K (.ref pR) "__get__" = some (some (.builtin "property.__get__")))
    (ptkB : PySem.W.takesIn K (.ref pR) = some true)
    (precB : PySem.W.recIn K pR "property" = some (.ref fG :: restR))
    (lnB : PySem.W.findIn K (.ref C) "__len__" = some (some (.ref fL)))
    (lfB : PySem.W.isFn K (.ref fL) = true)
    (eqB : PySem.W.findIn K (.ref C) "__eq__" = some (some (.ref fE)))
    (efB : PySem.W.isFn K (.ref fE) = true)
    (haB : PySem.W.findIn K (.ref C) "__class__" = some (some (.builtin "object.__class__")))
    (hnB : PySem.W.specialIn K (.builtin "object.__class__") "__get__" = some (some (.builtin "getset_descriptor.__get__")))
    (htB : PySem.W.takesIn K (.builtin "object.__class__") = some true)
    (hmB : PySem.W.mroIn K C (.type "object") = some true)
    (tyB : PySem.W.typeIn K (.ref C) = some (.type "type"))
    (icB : PySem.W.isClsIn K C = true)
    (stB : PySem.W.subIn K (.type "tuple") (.ref C) = some false)
    (lI : K.lookup fI = some ⟨ocI, odI, .func (PySem.W.fnOf "__init__" "Book.__init__" (defArgs sInit) (defBody sInit) (defScope sInit) .none kVI dcI pmI anI cdI ctI), slI⟩)
    (cI : PySem.W.codeIn K cdI "Book.__init__" = true)
    (kI : PySem.W.keepIn K (.ref fI) = true)
    (lG : K.lookup fG = some ⟨ocG, odG, .func (PySem.W.fnOf "rules" "Book.rules" (defArgs sGet) (defBody sGet) (defScope sGet) .none kVG dcG pmG anG cdG ctG), slG⟩)
    (cG : PySem.W.codeIn K cdG "Book.rules" = true)
    (kG : PySem.W.keepIn K (.ref fG) = true)
    (lX : K.lookup fX = some ⟨ocX, odX, .func (PySem.W.fnOf "__init__" "BadRules.__init__" (defArgs sBtI) (defBody sBtI) (defScope sBtI) .none kVX dcX pmX anX cdX ctX), slX⟩)
    (cX : PySem.W.codeIn K cdX "BadRules.__init__" = true)
    (kX : PySem.W.keepIn K (.ref fX) = true)
    (aD : PySem.W.nsIn K mainGlobals "FORMS" = some (some (.ref D)))
    (lD : K.lookup D = some ⟨.type "dict", none, .dict esD nD, #[]⟩)
    (litD : PySem.W.KeysLit w.params esD.toList)
    (lowD : (D == sysModules) = false)
    (nD0 : PySem.W.nsIn K D "Size" = some none)
    (nz0 : PySem.W.nsIn K D "join" = some (some (.ref t0)))
    (lz0 : K.lookup t0 = some ⟨.type "tuple", td0, .seq ti0 tn0, ts0⟩)
    (vz0 : Vals (([Str.ofString "paths"] : List Str).map V.str) ti0.toList)
    (nz1 : PySem.W.nsIn K D "size" = some (some (.ref t1)))
    (lz1 : K.lookup t1 = some ⟨.type "tuple", td1, .seq ti1 tn1, ts1⟩)
    (vz1 : Vals (([Str.ofString "path"] : List Str).map V.str) ti1.toList)
    (nz2 : PySem.W.nsIn K D "sort" = some (some (.ref t2)))
    (lz2 : K.lookup t2 = some ⟨.type "tuple", td2, .seq ti2 tn2, ts2⟩)
    (vz2 : Vals (([Str.ofString "path"] : List Str).map V.str) ti2.toList)
    (nz3 : PySem.W.nsIn K D "pick" = some (some (.ref t3)))
    (lz3 : K.lookup t3 = some ⟨.type "tuple", td3, .seq ti3 tn3, ts3⟩)
    (vz3 : Vals (([Str.ofString "path", Str.ofString "word"] : List Str).map V.str) ti3.toList)
    (nz4 : PySem.W.nsIn K D "names" = some (some (.ref t4)))
    (lz4 : K.lookup t4 = some ⟨.type "tuple", td4, .seq ti4 tn4, ts4⟩)
    (vz4 : Vals (([Str.ofString "folder"] : List Str).map V.str) ti4.toList)
    (nz5 : PySem.W.nsIn K D "use" = some (some (.ref t5)))
    (lz5 : K.lookup t5 = some ⟨.type "tuple", td5, .seq ti5 tn5, ts5⟩)
    (vz5 : Vals (([Str.ofString "path"] : List Str).map V.str) ti5.toList)
    (nz6 : PySem.W.nsIn K D "choose" = some (some (.ref t6)))
    (lz6 : K.lookup t6 = some ⟨.type "tuple", td6, .seq ti6 tn6, ts6⟩)
    (vz6 : Vals (([Str.ofString "path", Str.ofString "path", Str.ofString "path"] : List Str).map V.str) ti6.toList)
    (nz7 : PySem.W.nsIn K D "need" = some (some (.ref t7)))
    (lz7 : K.lookup t7 = some ⟨.type "tuple", td7, .seq ti7 tn7, ts7⟩)
    (vz7 : Vals (([Str.ofString "path", Str.ofString "word"] : List Str).map V.str) ti7.toList)
    (z0 : PySem.W.nsIn K mainGlobals "len" = some none)
    (z1 : PySem.W.nsIn K mainGlobals "all" = some none)
    (z2 : PySem.W.nsIn K mainGlobals "any" = some none)
    (z3 : PySem.W.nsIn K mainGlobals "isinstance" = some none)
    (z4 : PySem.W.nsIn K mainGlobals "str" = some none)
    (z5 : PySem.W.nsIn K mainGlobals "tuple" = some none)
    (z6 : PySem.W.nsIn K mainGlobals "list" = some none)
    (z7 : PySem.W.nsIn K mainGlobals "int" = some none)
    (z8 : PySem.W.nsIn K mainGlobals "range" = some none)
    (z9 : PySem.W.nsIn K mainGlobals "enumerate" = some none)
    (z10 : PySem.W.nsIn K mainGlobals "zip" = some none)
    (z11 : PySem.W.nsIn K mainGlobals "sorted" = some none)
    (z12 : PySem.W.nsIn K mainGlobals "set" = some none)
    (z13 : PySem.W.nsIn K mainGlobals "max" = some none)
    (v0 : PySem.W.nsIn K mainGlobals "MOST_NAMES" = some (some (.int 3 tk0)))
    (v1 : PySem.W.nsIn K mainGlobals "LONGEST_NAME" = some (some (.int 6 tk1)))
    (v2 : PySem.W.nsIn K mainGlobals "LONGEST_TEXT" = some (some (.int 200 tk2)))
    (v3 : PySem.W.nsIn K mainGlobals "MOST_RULES" = some (some (.int 8 tk3)))
    (v4 : PySem.W.nsIn K mainGlobals "MOST_JOINED" = some (some (.int 4 tk4)))
    (v5 : PySem.W.nsIn K mainGlobals "LONGEST_WORD" = some (some (.int 8 tk5)))
    : ∃ fd : FuncData, (∀ (s : Shared) (v : Value), BindsTo s fd ⟨[v], []⟩ [("_law_script", v)]) ∧ ∀ base : Heap, K.In base → base.Ns mainGlobals mg → FnOk l.prog w K mg base CX0 9 fa fd ["_law_script"] (spLaw K) := by
  have e := hfa.symm.trans (PySem.W.mg_of X G a26)
  cases e
  have T : Gv mg := ⟨PySem.W.mg_none_of X G z0, PySem.W.mg_none_of X G z1, PySem.W.mg_none_of X G z2, PySem.W.mg_none_of X G z3, PySem.W.mg_none_of X G z4, PySem.W.mg_none_of X G z5, PySem.W.mg_none_of X G z6, PySem.W.mg_none_of X G z7, PySem.W.mg_none_of X G z8, PySem.W.mg_none_of X G z9, ⟨_, PySem.W.mg_of X G v0⟩, ⟨_, PySem.W.mg_of X G v1⟩, ⟨_, PySem.W.mg_of X G v2⟩, PySem.W.mg_none_of X G z10, PySem.W.mg_none_of X G z11, PySem.W.mg_none_of X G z12, PySem.W.mg_none_of X G z13, ⟨_, PySem.W.mg_of X G v3⟩, ⟨_, PySem.W.mg_of X G v4⟩, ⟨_, PySem.W.mg_of X G v5⟩⟩
  have FHS := fun_mk (st := sHas) lHS cHS kHS
  have bHS := FHS.binds (ps := ["value", "most"]) fun _ _ _ _ _ _ us hl => match us, hl with | [_, _], _ => rfl
  have FRT := fun_mk (st := sTable) lRT cRT kRT
  have bRT := FRT.binds (ps := ["book"]) fun _ _ _ _ _ _ us hl => match us, hl with | [_], _ => rfl
  have FLO := fun_mk (st := sLeast) lLO cLO kLO
  have bLO := FLO.binds (ps := ["needed"]) fun _ _ _ _ _ _ us hl => match us, hl with | [_], _ => rfl
  have F0 := fun_mk (st := sIsName) l0 c0 k0
  have b0 := F0.binds (ps := ["word"]) fun _ _ _ _ _ _ us hl => match us, hl with | [_], _ => rfl
  have F1 := fun_mk (st := sIsPath) l1 c1 k1
  have b1 := F1.binds (ps := ["value"]) fun _ _ _ _ _ _ us hl => match us, hl with | [_], _ => rfl
  have F2 := fun_mk (st := sIsFolder) l2 c2 k2
  have b2 := F2.binds (ps := ["value"]) fun _ _ _ _ _ _ us hl => match us, hl with | [_], _ => rfl
  have F3 := fun_mk (st := sIsText) l3 c3 k3
  have b3 := F3.binds (ps := ["value"]) fun _ _ _ _ _ _ us hl => match us, hl with | [_], _ => rfl
  have F4 := fun_mk (st := sLies) l4 c4 k4
  have b4 := F4.binds (ps := ["path", "folder"]) fun _ _ _ _ _ _ us hl => match us, hl with | [_, _], _ => rfl
  have F5 := fun_mk (st := sWay) l5 c5 k5
  have b5 := F5.binds (ps := ["one", "other"]) fun _ _ _ _ _ _ us hl => match us, hl with | [_, _], _ => rfl
  have F6 := fun_mk (st := sIsWord) l6 c6 k6
  have b6 := F6.binds (ps := ["value"]) fun _ _ _ _ _ _ us hl => match us, hl with | [_], _ => rfl
  have F7 := fun_mk (st := sFits) l7 c7 k7
  have b7 := F7.binds (ps := ["form", "value"]) fun _ _ _ _ _ _ us hl => match us, hl with | [_, _], _ => rfl
  have F8 := fun_mk (st := sIsRule) l8 c8 k8
  have b8 := F8.binds (ps := ["value"]) fun _ _ _ _ _ _ us hl => match us, hl with | [_], _ => rfl
  have F9 := fun_mk (st := sCkRules) l9 c9 k9
  have b9 := F9.binds (ps := ["value"]) fun _ _ _ _ _ _ us hl => match us, hl with | [_], _ => rfl
  have F10 := fun_mk (st := sCkBook) l10 c10 k10
  have b10 := F10.binds (ps := ["value"]) fun _ _ _ _ _ _ us hl => match us, hl with | [_], _ => rfl
  have F11 := fun_mk (st := sTold) l11 c11 k11
  have b11 := F11.binds (ps := ["rule"]) fun _ _ _ _ _ _ us hl => match us, hl with | [_], _ => rfl
  have F12 := fun_mk (st := sToldMade) l12 c12 k12
  have b12 := F12.binds (ps := ["book"]) fun _ _ _ _ _ _ us hl => match us, hl with | [_], _ => rfl
  have F13 := fun_mk (st := sKeys) l13 c13 k13
  have b13 := F13.binds (ps := ["value", "table"]) fun _ _ _ _ _ _ us hl => match us, hl with | [_, _], _ => rfl
  have F14 := fun_mk (st := sRing) l14 c14 k14
  have b14 := F14.binds (ps := ["book"]) fun _ _ _ _ _ _ us hl => match us, hl with | [_], _ => rfl
  have F15 := fun_mk (st := sRR) l15 c15 k15
  have b15 := F15.binds (ps := ["book", "value"]) fun _ _ _ _ _ _ us hl => match us, hl with | [_, _], _ => rfl
  have F16 := fun_mk (st := sOrder) l16 c16 k16
  have b16 := F16.binds (ps := ["book"]) fun _ _ _ _ _ _ us hl => match us, hl with | [_], _ => rfl
  have F17 := fun_mk (st := sRO) l17 c17 k17
  have b17 := F17.binds (ps := ["book", "value"]) fun _ _ _ _ _ _ us hl => match us, hl with | [_, _], _ => rfl
  have F18 := fun_mk (st := sDepths) l18 c18 k18
  have b18 := F18.binds (ps := ["book"]) fun _ _ _ _ _ _ us hl => match us, hl with | [_], _ => rfl
  have F19 := fun_mk (st := sTaken) l19 c19 k19
  have b19 := F19.binds (ps := ["_law_row", "_law_many"]) fun _ _ _ _ _ _ us hl => match us, hl with | [_, _], _ => rfl
  have F20 := fun_mk (st := sOne) l20 c20 k20
  have b20 := F20.binds (ps := ["_law_row", "_law_things"]) fun _ _ _ _ _ _ us hl => match us, hl with | [_, _], _ => rfl
  have F21 := fun_mk (st := sRuleL) l21 c21 k21
  have b21 := F21.binds (ps := ["_law_row", "_law_made", "_law_all_made"]) fun _ _ _ _ _ _ us hl => match us, hl with | [_, _, _], _ => rfl
  have F22 := fun_mk (st := sRulesL) l22 c22 k22
  have b22 := F22.binds (ps := ["_law_row", "_law_most"]) fun _ _ _ _ _ _ us hl => match us, hl with | [_, _], _ => rfl
  have F23 := fun_mk (st := sReads) l23 c23 k23
  have b23 := F23.binds (ps := ["_law_rules_here", "_law_made"]) fun _ _ _ _ _ _ us hl => match us, hl with | [_, _], _ => rfl
  have F24 := fun_mk (st := sTups) l24 c24 k24
  have b24 := F24.binds (ps := ["_law_things", "_law_size"]) fun _ _ _ _ _ _ us hl => match us, hl with | [_, _], _ => rfl
  have F25 := fun_mk (st := sStands) l25 c25 k25
  have b25 := F25.binds (ps := ["_law_rules_here", "_law_some", "_law_at"]) fun _ _ _ _ _ _ us hl => match us, hl with | [_, _, _], _ => rfl
  have F26 := fun_mk (st := sLaw) l26 c26 k26
  have b26 := F26.binds (ps := ["_law_script"]) fun _ _ _ _ _ _ us hl => match us, hl with | [_], _ => rfl
  have FI := fun_mk (st := sInit) lI cI kI
  have bI := FI.binds (ps := ["self", "rules"]) fun _ _ _ _ _ _ us hl => match us, hl with | [_, _], _ => rfl
  have FG := fun_mk (st := sGet) lG cG kG
  have bG := FG.binds (ps := ["self"]) fun _ _ _ _ _ _ us hl => match us, hl with | [_], _ => rfl
  have FX := fun_mk (st := sBtI) lX cX kX
  have bX := FX.binds (ps := ["self", "index"]) fun _ _ _ _ _ _ us hl => match us, hl with | [_, _], _ => rfl
  have oT : OexC K Cx := ⟨⟨_, _, _, _, _, _, _, _, _, _, _, _, _, _, _, xT, rT⟩, saT, bbT, tyT, kkT⟩
  have xi : Xi K mg "BadRules" Cx fX := ⟨PySem.W.mg_of X G aT, oT, ⟨gaT, ggT, bbT, hdT⟩, nbT, iT, tI⟩
  have B : Bks K mg C fI pR fG fL fE := ⟨PySem.W.mg_of X G aB, ⟨pgB, hdB, poB, saB⟩, ⟨mkB, inB, fnB, kpB⟩, naB, ⟨prB, pgetB, ptkB, ⟨_, precB⟩⟩, lnB, lfB, eqB, efB, nf_at stB, haB, hnB, htB, hmB, kt_at icB tyB stB⟩
  have Fm : Fms K w mg D esD nD := ⟨PySem.W.mg_of X G aD, ⟨lD, litD, lowD⟩, fun z hz => by
    have hz' : z = Str.ofString "Size" ∨ z = Str.ofString "join" ∨ z = Str.ofString "size" ∨ z = Str.ofString "sort" ∨ z = Str.ofString "pick" ∨ z = Str.ofString "names" ∨ z = Str.ofString "use" ∨ z = Str.ofString "choose" ∨ z = Str.ofString "need" := by
      revert z
      decide +kernel
    rcases hz' with rfl | rfl | rfl | rfl | rfl | rfl | rfl | rfl | rfl
    · show PySem.W.nsIn K D _ = some none
      exact nD0
    · have e : formOf (Str.ofString "join") = some [Str.ofString "paths"] := by decide +kernel
      rw [e]
      exact ⟨t0, nz0, sqK lz0 vz0 (by show 1 ≤ 100; decide)⟩
    · have e : formOf (Str.ofString "size") = some [Str.ofString "path"] := by decide +kernel
      rw [e]
      exact ⟨t1, nz1, sqK lz1 vz1 (by show 1 ≤ 100; decide)⟩
    · have e : formOf (Str.ofString "sort") = some [Str.ofString "path"] := by decide +kernel
      rw [e]
      exact ⟨t2, nz2, sqK lz2 vz2 (by show 1 ≤ 100; decide)⟩
    · have e : formOf (Str.ofString "pick") = some [Str.ofString "path", Str.ofString "word"] := by decide +kernel
      rw [e]
      exact ⟨t3, nz3, sqK lz3 vz3 (by show 2 ≤ 100; decide)⟩
    · have e : formOf (Str.ofString "names") = some [Str.ofString "folder"] := by decide +kernel
      rw [e]
      exact ⟨t4, nz4, sqK lz4 vz4 (by show 1 ≤ 100; decide)⟩
    · have e : formOf (Str.ofString "use") = some [Str.ofString "path"] := by decide +kernel
      rw [e]
      exact ⟨t5, nz5, sqK lz5 vz5 (by show 1 ≤ 100; decide)⟩
    · have e : formOf (Str.ofString "choose") = some [Str.ofString "path", Str.ofString "path", Str.ofString "path"] := by decide +kernel
      rw [e]
      exact ⟨t6, nz6, sqK lz6 vz6 (by show 3 ≤ 100; decide)⟩
    · have e : formOf (Str.ofString "need") = some [Str.ofString "path", Str.ofString "word"] := by decide +kernel
      rw [e]
      exact ⟨t7, nz7, sqK lz7 vz7 (by show 2 ≤ 100; decide)⟩
    ⟩
  refine ⟨PySem.W.fnOf "law" "law" (defArgs sLaw) (defBody sLaw) (defScope sLaw) .none kV26 dc26 pm26 an26 cd26 ct26, fun s v => .of_eq rfl, fun base _ _ => ?_⟩
  have cName : Cal l.prog w K mg base CX0 1 "is_name" ["word"] spName := ⟨f0, _, ok_name F0 T, PySem.W.mg_of X G a0, k0, b0⟩
  have cPath : Cal l.prog w K mg base CX0 2 "is_path" ["value"] (spPath (K := K)) := ⟨f1, _, ok_path F1 T cName, PySem.W.mg_of X G a1, k1, b1⟩
  have cFolder : Cal l.prog w K mg base CX0 3 "is_folder" ["value"] spFolder := ⟨f2, _, ok_folder F2 cPath, PySem.W.mg_of X G a2, k2, b2⟩
  have cHas : Cal l.prog w K mg base CX0 1 "has_signs" ["value", "most"] (spHas (K := K)) := ⟨fHS, _, ok_has FHS T, PySem.W.mg_of X G aHS, kHS, bHS⟩
  have cText : Cal l.prog w K mg base CX0 2 "is_text" ["value"] (spText (K := K)) := ⟨f3, _, ok_text F3 T cHas, PySem.W.mg_of X G a3, k3, b3⟩
  have cLies : Cal l.prog w K mg base CX0 1 "lies_within" ["path", "folder"] spLies := ⟨f4, _, ok_lies F4, PySem.W.mg_of X G a4, k4, b4⟩
  have cWay : Cal l.prog w K mg base CX0 2 "in_the_way" ["one", "other"] spWay := ⟨f5, _, ok_way F5 cLies, PySem.W.mg_of X G a5, k5, b5⟩
  have cWord : Cal l.prog w K mg base CX0 3 "is_word" ["value"] (spWord (K := K)) := ⟨f6, _, ok_word F6 T cText, PySem.W.mg_of X G a6, k6, b6⟩
  have cFits : Cal l.prog w K mg base CX0 4 "fits" ["form", "value"] (spFits (K := K)) := ⟨f7, _, ok_fits F7 T cPath cWord cFolder, PySem.W.mg_of X G a7, k7, b7⟩
  have cRule : Cal l.prog w K mg base CX0 5 "is_rule" ["value"] (spRule (K := K)) := ⟨f8, _, ok_rule F8 T Fm cPath cFits, PySem.W.mg_of X G a8, k8, b8⟩
  have cCkR : Cal l.prog w K mg base (L2.CX l.prog w) 6 "check_rules" ["value"] (spCkRules (K := K) Cx) := ⟨f9, _, ok_ckRules F9 T xi (ok_btI FX) bX cRule cWay, PySem.W.mg_of X G a9, k9, b9⟩
  have gI := ok_init FI B cCkR
  have gG : FnOk l.prog w K mg base CX0 1 fG _ _ _ := ok_get FG B
  have cCkB : Cal l.prog w K mg base CX0 1 "check_book" ["value"] (spCkB C) := ⟨f10, _, ok_ckBook F10 T B, PySem.W.mg_of X G a10, k10, b10⟩
  have cTP : Cal l.prog w K mg base CX0 1 "told_paths" ["rule"] spTold := ⟨f11, _, ok_told F11 T Fm, PySem.W.mg_of X G a11, k11, b11⟩
  have cRT : Cal l.prog w K mg base CX0 3 "rule_table" ["book"] (spTable C) := ⟨fRT, _, ok_table FRT T B gG bG, PySem.W.mg_of X G aRT, kRT, bRT⟩
  have cTM : Cal l.prog w K mg base CX0 4 "told_made" ["book"] (spTM C) := ⟨f12, _, ok_toldMade F12 T cRT cTP, PySem.W.mg_of X G a12, k12, b12⟩
  have cKy : Cal l.prog w K mg base CX0 1 "are_unlike_keys" ["value", "table"] (spKeys (K := K)) := ⟨f13, _, ok_keys F13 T, PySem.W.mg_of X G a13, k13, b13⟩
  have cRi : Cal l.prog w K mg base CX0 5 "told_ring" ["book"] (spRing C) := ⟨f14, _, ok_ring F14 T cCkB cTM, PySem.W.mg_of X G a14, k14, b14⟩
  have cRR : Cal l.prog w K mg base CX0 5 "right_ring" ["book", "value"] (spRR (K := K) C) := ⟨f15, _, ok_rr F15 T cCkB cTM cKy, PySem.W.mg_of X G a15, k15, b15⟩
  have cLO : Cal l.prog w K mg base CX0 1 "least_order" ["needed"] spLeast := ⟨fLO, _, ok_least FLO T, PySem.W.mg_of X G aLO, kLO, bLO⟩
  have cOr : Cal l.prog w K mg base CX0 5 "told_order" ["book"] (spOrder C) := ⟨f16, _, ok_order F16 T cCkB cTM cLO, PySem.W.mg_of X G a16, k16, b16⟩
  have cRO : Cal l.prog w K mg base CX0 5 "right_order" ["book", "value"] (spRO (K := K) C) := ⟨f17, _, ok_ro F17 T cCkB cTM cKy, PySem.W.mg_of X G a17, k17, b17⟩
  have cDe : Cal l.prog w K mg base CX0 6 "depths" ["book"] (spDepths C) := ⟨f18, _, ok_depths F18 T cOr cTM, PySem.W.mg_of X G a18, k18, b18⟩
  have dT : Cal l.prog w K mg base CX0 1 "_law_taken" ["_law_row", "_law_many"] (spTaken (K := K)) := ⟨f19, _, Bl.ok_taken F19 T, PySem.W.mg_of X G a19, k19, b19⟩
  have dO : Cal l.prog w K mg base CX0 2 "_law_one" ["_law_row", "_law_things"] (spOne (K := K)) := ⟨f20, _, ok_one F20 T dT, PySem.W.mg_of X G a20, k20, b20⟩
  have dRu : Cal l.prog w K mg base CX0 3 "_law_rule" ["_law_row", "_law_made", "_law_all_made"] (spRuleL (K := K)) := ⟨f21, _, ok_ruleL F21 T dT dO, PySem.W.mg_of X G a21, k21, b21⟩
  have dRs : Cal l.prog w K mg base CX0 4 "_law_rules" ["_law_row", "_law_most"] (spRulesL (K := K)) := ⟨f22, _, ok_rulesL F22 T dT dRu, PySem.W.mg_of X G a22, k22, b22⟩
  have dRd : Cal l.prog w K mg base CX0 1 "_law_reads" ["_law_rules_here", "_law_made"] spReads := ⟨f23, _, ok_reads F23 T, PySem.W.mg_of X G a23, k23, b23⟩
  have dTu : Cal l.prog w K mg base CX0 1 "_law_tuples" ["_law_things", "_law_size"] spTups := ⟨f24, _, ok_tups F24 T, PySem.W.mg_of X G a24, k24, b24⟩
  have dSt : Cal l.prog w K mg base CX0 2 "_law_stands" ["_law_rules_here", "_law_some", "_law_at"] (spStands (K := K)) := ⟨f25, _, ok_stands F25 T dRd, PySem.W.mg_of X G a25, k25, b25⟩
  exact ok_law F26 T B gI bI dT dO dRs dRd dTu dSt cRi cRR cOr cRO cDe
end
theorem walk {l : PySem.W.OpenLaw} {q : Program} {loose : List Str} {XP : (Str → Option Value) → Heap → Prop} {YP : World → Heap → Prop} {d : DefRec} {K : Params → PySem.W.Frag} (hn : l.most = some 63) (hdf : d.params.defaults = [])
    (hY : ∀ (w : World) (h : Heap), YP w h → (K w.params).In h)
    (F : ∀ (w : World) (mg : Str → Option Value) (fa : Addr) (h : Heap), (K w.params).In h → h.Ns mainGlobals mg → mg d.name = some (.ref fa) →
      ∃ fd : FuncData, (∀ (s : Shared) (u : Value), BindsTo s fd ⟨[u], []⟩ [("_law_script", u)]) ∧ ∀ base : Heap, (K w.params).In base → base.Ns mainGlobals mg → FnOk l.prog w (K w.params) mg base CX0 9 fa fd ["_law_script"] (spLaw (K w.params))) :
    PySem.W.WalkO q loose XP YP l.row.toRowW d [] (fun f vs => PySem.call f vs) :=
  L2.walk_of (n := 63) (k := 9) (x := "_law_script") (CX := fun _ => CX0) (sp := fun w => spLaw (K w.params)) hn (by decide) hdf ⟨rfl, by decide, by decide⟩ hY F (fun _ H a ns hl hO hS => by
    refine ⟨a, ns, rfl, ?_, fun _ => rfl⟩
    rcases hS with (h | ⟨o, h⟩) | h
    · rcases hO a with z | ⟨o, xs, z⟩
      · rw [h] at z; cases z
      · rw [h] at z; cases z
    · exact .inl ⟨o, h⟩
    · exact .inr h) fun _ _ _ _ _ z => z
end Bl
open PySem PySem.W PyProof.Rows
set_option maxRecDepth 100000 in
set_option maxHeartbeats 0 in
theorem PySem.Challenge.cw_buildroom_k03_whole_told_holds : PySem.Challenge.rw_buildroom_k03_whole_told.Holds := by
  w_on; o_law; k_head; (case hw => w_witness2)
  k_fill
  refine Bl.walk (l := PySem.Challenge.rw_buildroom_k03_whole_told) rfl rfl (fun w h Y => PySem.W.kIn_of Y) ?F
  case F =>
    intro w mg fa h KX G hmg
    refine' Bl.all_mk KX G hmg ?aHS ?lHS ?cHS ?kHS ?aRT ?lRT ?cRT ?kRT ?aLO ?lLO ?cLO ?kLO ?a0 ?l0 ?c0 ?k0 ?a1 ?l1 ?c1 ?k1 ?a2 ?l2 ?c2 ?k2 ?a3 ?l3 ?c3 ?k3 ?a4 ?l4 ?c4 ?k4 ?a5 ?l5 ?c5 ?k5 ?a6 ?l6 ?c6 ?k6 ?a7 ?l7 ?c7 ?k7 ?a8 ?l8 ?c8 ?k8 ?a9 ?l9 ?c9 ?k9 ?a10 ?l10 ?c10 ?k10 ?a11 ?l11 ?c11 ?k11 ?a12 ?l12 ?c12 ?k12 ?a13 ?l13 ?c13 ?k13 ?a14 ?l14 ?c14 ?k14 ?a15 ?l15 ?c15 ?k15 ?a16 ?l16 ?c16 ?k16 ?a17 ?l17 ?c17 ?k17 ?a18 ?l18 ?c18 ?k18 ?a19 ?l19 ?c19 ?k19 ?a20 ?l20 ?c20 ?k20 ?a21 ?l21 ?c21 ?k21 ?a22 ?l22 ?c22 ?k22 ?a23 ?l23 ?c23 ?k23 ?a24 ?l24 ?c24 ?k24 ?a25 ?l25 ?c25 ?k25 ?a26 ?l26 ?c26 ?k26 ?aT ?xT ?rT ?saT ?gaT ?ggT ?nbT ?iT ?tI ?hdT ?kkT ?bbT ?tyT ?aB ?pgB ?hdB ?poB ?saB ?mkB ?inB ?fnB ?kpB ?naB ?prB ?pgetB ?ptkB ?precB ?lnB ?lfB ?eqB ?efB ?haB ?hnB ?htB ?hmB ?tyB ?icB ?stB ?lI ?cI ?kI ?lG ?cG ?kG ?lX ?cX ?kX ?aD ?lD ?litD ?lowD ?nD0 ?nz0 ?lz0 ?vz0 ?nz1 ?lz1 ?vz1 ?nz2 ?lz2 ?vz2 ?nz3 ?lz3 ?vz3 ?nz4 ?lz4 ?vz4 ?nz5 ?lz5 ?vz5 ?nz6 ?lz6 ?vz6 ?nz7 ?lz7 ?vz7 ?z0 ?z1 ?z2 ?z3 ?z4 ?z5 ?z6 ?z7 ?z8 ?z9 ?z10 ?z11 ?z12 ?z13 ?v0 ?v1 ?v2 ?v3 ?v4 ?v5
    (case aHS => k_is)
    (case lHS => k_is)
    (case cHS => k_is)
    (case kHS => k_is)
    (case aRT => k_is)
    (case lRT => k_is)
    (case cRT => k_is)
    (case kRT => k_is)
    (case aLO => k_is)
    (case lLO => k_is)
    (case cLO => k_is)
    (case kLO => k_is)
    (case a0 => k_is)
    (case l0 => k_is)
    (case c0 => k_is)
    (case k0 => k_is)
    (case a1 => k_is)
    (case l1 => k_is)
    (case c1 => k_is)
    (case k1 => k_is)
    (case a2 => k_is)
    (case l2 => k_is)
    (case c2 => k_is)
    (case k2 => k_is)
    (case a3 => k_is)
    (case l3 => k_is)
    (case c3 => k_is)
    (case k3 => k_is)
    (case a4 => k_is)
    (case l4 => k_is)
    (case c4 => k_is)
    (case k4 => k_is)
    (case a5 => k_is)
    (case l5 => k_is)
    (case c5 => k_is)
    (case k5 => k_is)
    (case a6 => k_is)
    (case l6 => k_is)
    (case c6 => k_is)
    (case k6 => k_is)
    (case a7 => k_is)
    (case l7 => k_is)
    (case c7 => k_is)
    (case k7 => k_is)
    (case a8 => k_is)
    (case l8 => k_is)
    (case c8 => k_is)
    (case k8 => k_is)
    (case a9 => k_is)
    (case l9 => k_is)
    (case c9 => k_is)
    (case k9 => k_is)
    (case a10 => k_is)
    (case l10 => k_is)
    (case c10 => k_is)
    (case k10 => k_is)
    (case a11 => k_is)
    (case l11 => k_is)
    (case c11 => k_is)
    (case k11 => k_is)
    (case a12 => k_is)
    (case l12 => k_is)
    (case c12 => k_is)
    (case k12 => k_is)
    (case a13 => k_is)
    (case l13 => k_is)
    (case c13 => k_is)
    (case k13 => k_is)
    (case a14 => k_is)
    (case l14 => k_is)
    (case c14 => k_is)
    (case k14 => k_is)
    (case a15 => k_is)
    (case l15 => k_is)
    (case c15 => k_is)
    (case k15 => k_is)
    (case a16 => k_is)
    (case l16 => k_is)
    (case c16 => k_is)
    (case k16 => k_is)
    (case a17 => k_is)
    (case l17 => k_is)
    (case c17 => k_is)
    (case k17 => k_is)
    (case a18 => k_is)
    (case l18 => k_is)
    (case c18 => k_is)
    (case k18 => k_is)
    (case a19 => k_is)
    (case l19 => k_is)
    (case c19 => k_is)
    (case k19 => k_is)
    (case a20 => k_is)
    (case l20 => k_is)
    (case c20 => k_is)
    (case k20 => k_is)
    (case a21 => k_is)
    (case l21 => k_is)
    (case c21 => k_is)
    (case k21 => k_is)
    (case a22 => k_is)
    (case l22 => k_is)
    (case c22 => k_is)
    (case k22 => k_is)
    (case a23 => k_is)
    (case l23 => k_is)
    (case c23 => k_is)
    (case k23 => k_is)
    (case a24 => k_is)
    (case l24 => k_is)
    (case c24 => k_is)
    (case k24 => k_is)
    (case a25 => k_is)
    (case l25 => k_is)
    (case c25 => k_is)
    (case k25 => k_is)
    (case a26 => k_is)
    (case l26 => k_is)
    (case c26 => k_is)
    (case k26 => k_is)
    (case aT => k_is)
    (case xT => k_is)
    (case rT => rfl)
    (case saT => k_is)
    (case gaT => k_is)
    (case ggT => k_is)
    (case nbT => k_is)
    (case iT => k_is)
    (case tI => k_is)
    (case hdT => k_is)
    (case kkT => k_is)
    (case bbT => k_is)
    (case tyT => k_is)
    (case aB => k_is)
    (case pgB => k_is)
    (case hdB => k_is)
    (case poB => k_is)
    (case saB => k_is)
    (case mkB => k_is)
    (case inB => k_is)
    (case fnB => k_is)
    (case kpB => k_is)
    (case naB => k_is)
    (case prB => k_is)
    (case pgetB => k_is)
    (case ptkB => k_is)
    (case precB => k_is)
    (case lnB => k_is)
    (case lfB => k_is)
    (case eqB => k_is)
    (case efB => k_is)
    (case haB => k_is)
    (case hnB => k_is)
    (case htB => k_is)
    (case hmB => k_is)
    (case tyB => k_is)
    (case icB => k_is)
    (case stB => first | rfl | k_is)
    (case lI => k_is)
    (case cI => k_is)
    (case kI => k_is)
    (case lG => k_is)
    (case cG => k_is)
    (case kG => k_is)
    (case lX => k_is)
    (case cX => k_is)
    (case kX => k_is)
    (case aD => k_is)
    (case lD => k_is)
    (case litD => exact ⟨⟨_, _, rfl, rfl⟩, ⟨_, _, rfl, rfl⟩, ⟨_, _, rfl, rfl⟩, ⟨_, _, rfl, rfl⟩, ⟨_, _, rfl, rfl⟩, ⟨_, _, rfl, rfl⟩, ⟨_, _, rfl, rfl⟩, ⟨_, _, rfl, rfl⟩, trivial⟩)
    (case lowD => rfl)
    (case nD0 => k_is)
    (case nz0 => k_is)
    (case lz0 => k_is)
    (case vz0 => exact (.cons ⟨_, rfl⟩ .nil))
    (case nz1 => k_is)
    (case lz1 => k_is)
    (case vz1 => exact (.cons ⟨_, rfl⟩ .nil))
    (case nz2 => k_is)
    (case lz2 => k_is)
    (case vz2 => exact (.cons ⟨_, rfl⟩ .nil))
    (case nz3 => k_is)
    (case lz3 => k_is)
    (case vz3 => exact (.cons ⟨_, rfl⟩ (.cons ⟨_, rfl⟩ .nil)))
    (case nz4 => k_is)
    (case lz4 => k_is)
    (case vz4 => exact (.cons ⟨_, rfl⟩ .nil))
    (case nz5 => k_is)
    (case lz5 => k_is)
    (case vz5 => exact (.cons ⟨_, rfl⟩ .nil))
    (case nz6 => k_is)
    (case lz6 => k_is)
    (case vz6 => exact (.cons ⟨_, rfl⟩ (.cons ⟨_, rfl⟩ (.cons ⟨_, rfl⟩ .nil))))
    (case nz7 => k_is)
    (case lz7 => k_is)
    (case vz7 => exact (.cons ⟨_, rfl⟩ (.cons ⟨_, rfl⟩ .nil)))
    (case z0 => k_is)
    (case z1 => k_is)
    (case z2 => k_is)
    (case z3 => k_is)
    (case z4 => k_is)
    (case z5 => k_is)
    (case z6 => k_is)
    (case z7 => k_is)
    (case z8 => k_is)
    (case z9 => k_is)
    (case z10 => k_is)
    (case z11 => k_is)
    (case z12 => k_is)
    (case z13 => k_is)
    (case v0 => k_is)
    (case v1 => k_is)
    (case v2 => k_is)
    (case v3 => k_is)
    (case v4 => k_is)
    (case v5 => k_is)
