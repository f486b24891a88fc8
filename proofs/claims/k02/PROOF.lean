import PyProof.Rows.All
import Wide.All
import OpenK.AllK
import Wide.FinOn
import PyProof.EqAt
import PyProof.EqKinds
import PyProof.TupleCall
import HandS.Base
import HandS.Call
import HandS.Exc
import HandS.TryMany
import HandS.ExcOwn
import PyProof.Draws
import KE.GoesMore
import KE.GoesEnum
import HandS.List
import HandS.Dict
import HandS.Iter
import PyProof.NeKinds
import HandS.Text
import HandS.ForMost
import HandS.TryOnly
import HandS.WordsExc
import HandS.IsInst
import HandS.Walk
import HandS.TupAny
import HandS.ExcInit
import HandS.ExcField
import HandS.Evl
import HandS.Property
import HandS.OwnEq
import HandS.TupMul
import HandS.RepeatKit
import HandS.More
import HandS.Zip
import PyProof.InstSpecial
import PySem.Challenge.RW_buildroom_k02_books_refused
import PyProof.StrBlock2
import KE.DataEq
import HandS.Style
set_option Elab.async false
set_option linter.all false
set_option maxRecDepth 100000
set_option maxHeartbeats 8000000
namespace Bk
open PySem PySem.Spec PyProof.Rows L2

/-! ## try with several clauses, some of them «as n» -/
abbrev Cl := Value × Option Nat × (Addr → Value → Option Addr → TS)
def clEnds (n : Option Nat) (D : Ends) : Ends := match n with
  | none => D
  | some i => { nx := fun τ G => D.nx (τ.set i none) G, rt := D.rt, bk := fun τ G => D.bk (τ.set i none) G, ct := fun τ G => D.ct (τ.set i none) G }
def clSlots (n : Option Nat) (τ : L2.St) (a : Addr) : L2.St := match n with
  | none => τ
  | some i => τ.set i (some (.ref a))
def wMix (K : PySem.W.Frag) (Wo : WX) (D : Ends) : List Cl → WX
  | [] => Wo
  | (c, n, ts) :: r => fun cls d τ G => ∃ b, PySem.W.exmOne K cls c = some b ∧
      (b = true → ∀ a, G a = none → ts a cls d (clEnds n D) (clSlots n τ a) G) ∧ (b = false → wMix K Wo D r cls d τ G)
inductive HMix (X : Cx) : List ExceptHandler → List Cl → Prop
  | nil : HMix X [] []
  | bare {x : Str} {c : Value} {ts : Addr → Value → Option Addr → TS} {b0 : Stmt} {bs : List Stmt} {q1 q2 : Pos} {hs : List ExceptHandler} {l : List Cl} (hc : Names X x c)
      (su : ∀ (a : Addr) (oe : Obj) (cls : Value) (d : Option Addr) (pn : List (Addr × Obj)), Zc cls d oe → (∃ vs, oe.data = .fields vs) → PSs (X.suite a ((a, oe) :: pn)) (b0 :: bs) (ts a cls d)) (r : HMix X hs l) :
      HMix X (.ExceptHandler (some (.Name x q1)) none (b0 :: bs) q2 :: hs) ((c, none, ts) :: l)
  | named {x n : Str} {i : Nat} {c : Value} {ts : Addr → Value → Option Addr → TS} {b0 : Stmt} {bs : List Stmt} {q1 q2 : Pos} {hs : List ExceptHandler} {l : List Cl} (hc : Names X x c)
      (hi : X.N[i]? = some n) (hl : X.env.kindOf n = some .local)
      (su : ∀ (a : Addr) (oe : Obj) (cls : Value) (d : Option Addr) (pn : List (Addr × Obj)), Zc cls d oe → (∃ vs, oe.data = .fields vs) → PSs (X.suite a ((a, oe) :: pn)) (b0 :: bs) (ts a cls d)) (r : HMix X hs l) :
      HMix X (.ExceptHandler (some (.Name x q1)) (some n) (b0 :: bs) q2 :: hs) ((c, some i, ts) :: l)
section
variable {X : Cx} {body : List Stmt} {h0 : ExceptHandler} {hs : List ExceptHandler} {l : List Cl} {pos : Pos} {tb : WX → TS} {Wo : WX}
theorem ps_try_mix (st : X.stack = X.env :: X.outer) (fr : X.env.frame = some X.env.locals) (nd : X.N.Nodup) (tk : Takes X Wo)
    (hb : ∀ (W : WX) (pn : List (Addr × Obj)) (xe : Value → Shared → Prop), Takes (X.tr pn xe) W → PassesOwn (model X.prog X.w) X.A X.env xe → PSs (X.tr pn xe) body (tb W))
    (hh : HMix X (h0 :: hs) l) : PS X (.Try body (h0 :: hs) [] [] pos) (fun D τ G => tb (wMix X.K Wo D l) D τ G) := by
  refine ⟨fun pins s τ G D I h => ?_⟩
  have ok := I.ok
  have fram : X.A.frames = some (X.env :: X.outer) := by rw [ok.frames, st]
  refine wpAny_Try_except ?_
  refine wpAny_mono ((hb (wMix X.K Wo D l) (X.pn ++ pins) (fun e s1 => wpAny (model X.prog X.w) X.A (noteFrame e X.env) (fun _ s2 =>
    wpAny (model X.prog X.w) X.A (setFlight e none) (fun _ s3 => wpAny (model X.prog X.w) X.A (handleBy e X.env (h0 :: hs)) (SP X pins D) X.xe s3) X.xe s2) X.xe s1)
    (fun u s' xx => ?caught) PassesOwn.looking).run [] s τ G D (I.toTry _) h) (fun f s1 sp => ?through) (fun e s1 z => z)
  case through =>
    cases f with
    | next =>
      obtain ⟨τ', G', J, q⟩ := sp
      exact wpAny_execs_nil ⟨τ', G', J.ofTry ok, q⟩
    | brk => obtain ⟨τ', G', J, q⟩ := sp; exact ⟨τ', G', J.ofTry ok, q⟩
    | cont => obtain ⟨τ', G', J, q⟩ := sp; exact ⟨τ', G', J.ofTry ok, q⟩
    | ret u => obtain ⟨v, τ', G', J, r, q⟩ := sp; exact ⟨v, τ', G', J.ofTry ok, r, q⟩
  case caught =>
    obtain ⟨a, B, sI, pins1, τ1, G1, cls, d, rfl, J0, nb, up, sky, na, os, ag, w⟩ := xx
    have J : Inv X pins τ1 G1 sI := J0.ofTry ok
    have sky1 : Sky B (X.env :: X.outer) a (Zc cls d) X.env.locals s'.heap := by rw [← st]; exact sky
    show wpAny (model X.prog X.w) X.A (noteFrame (.ref a) X.env) _ _ _
    refine Sky.land Zc.steady fram fr sky1 fun g3 fl3 up3 => ?_
    have J3 : Inv X pins τ1 G1 { s' with heap := g3 } := J.landed nb fl3.1 (up.trans up3) os ag
    obtain ⟨o3, v3, e3, z3, d3⟩ := fl3.there
    have nofr : a ∉ frs (X.env :: X.outer) := fun hm => by
      obtain ⟨_, o', e', hn⟩ := fl3.2.2.1.mem hm
      rw [e3] at e'
      cases e'
      exact hn _ d3
    have nL : a ≠ X.env.locals := fun z => nofr (List.mem_filterMap.mpr ⟨X.env, List.mem_cons_self, by rw [fr, z]⟩)
    have nF : a ∉ X.fs := fun hm => by
      obtain ⟨e, he, q⟩ := List.mem_filterMap.mp hm
      exact nofr (List.mem_filterMap.mpr ⟨e, List.mem_cons_of_mem _ he, q⟩)
    have S3 := J3.suite e3 d3 na nL nF
    have typ : PySem.W.Looks (model X.prog X.w) g3 (typeOf (.ref a)) cls := fun A Q E s k q => wpAny_typeOf_ref (k _ _ e3) (by rw [z3.1]; exact q)
    have named : ∀ {x : Str} {c : Value} {np : Pos} {Q E : Value → Shared → Prop}, Names X x c → Q c { s' with heap := g3 } →
        wpAny (model X.prog X.w) (X.A.mark (some (.ref a))) (eval (.Name x np) X.env) Q E { s' with heap := g3 } := fun {x c np Q E} hc q => by
      obtain ⟨hg, hdbg, hm | ⟨hm, hv, hnn⟩⟩ := hc
      · exact ld_glob (X := X.suite a ((a, o3) :: (X.pn ++ pins))) S3 hg hm q hdbg
      · exact ld_blt (X := X.suite a ((a, o3) :: (X.pn ++ pins))) S3 hg hm hv q hnn hdbg
    have go : ∀ {hs1 : List ExceptHandler} {l1 : List Cl}, HMix X hs1 l1 → wMix X.K Wo D l1 cls d τ1 G1 →
        wpAny (model X.prog X.w) X.A (handleBy (.ref a) X.env hs1) (SP X pins D) X.xe { s' with heap := g3 } := by
      intro hs1 l1 hk
      induction hk with
      | nil =>
        intro w
        refine wpAny_handleBy_nil ?_
        obtain ⟨k1, k2, k3, oe, vs, T, oT, ts', he, hz, hd, h1, hr⟩ := id fl3
        unfold PySem.passOn
        refine wpAny_bind (wpAny_field he hd h1 ?_)
        rw [if_neg (show ¬ ((Value.ref T == Value.none) = true) from by simp)]
        have fin : wpAny (model X.prog X.w) X.A (setFlight (.ref a) X.env.frame) (fun _ s4 => wpAny (model X.prog X.w) X.A (throw (.ref a) : Sem Flow) (SP X pins D) X.xe s4) X.xe { s' with heap := g3 } := by
          rw [fr]
          refine HandSPX.setFlight_upZ fl3 fun g4 hh4 up4 => wpAny_throw (tk _ _ ?_)
          exact ⟨a, B, sI, pins, τ1, G1, cls, d, rfl, J, nb, (up.trans up3).trans up4, .inr (.inr (by rw [st]; exact hh4)), na, os, ag, w⟩
        first
          | exact wpAny_bind (wpAny_pure (wpAny_bind fin))
          | exact wpAny_bind fin
      | @bare x c ts b0 bs q1 q2 hs2 l2 hc su r ih =>
        rintro ⟨b, hb1, yes, no⟩
        have LM := PySem.W.exm_one (M := model X.prog X.w) (J3.kIn) typ hb1
        refine wpAny_handleBy_cons (codeAny_handlers_test ?_) (by intro q; cases q)
        refine named hc (LM.here ?_)
        cases b with
        | false =>
          show wpAny _ X.A (handleBy (.ref a) X.env hs2) _ _ _
          exact ih (no rfl)
        | true =>
          refine codeAny_handlers_suite ?_
          refine HandSPX.lands_againZ fl3 fun g4 fl4 up4 => ?_
          have J4 : Inv X pins τ1 G1 { s' with heap := g4 } := J.landed nb fl4.1 ((up.trans up3).trans up4) os ag
          obtain ⟨o4, v4, e4, z4, d4⟩ := fl4.there
          have S4 := J4.suite e4 d4 na nL nF
          refine wpAny_mono ((su a o4 cls d (X.pn ++ pins) z4 ⟨_, d4⟩).run [] _ _ G1 _ S4 (yes rfl a na)) (fun f s6 sp => ?_) (fun _ _ z => False.elim z)
          cases f with
          | next => obtain ⟨t6, G6, S6, q6⟩ := sp; exact ⟨_, _, S6.unsuite ok, q6⟩
          | brk => obtain ⟨t6, G6, S6, q6⟩ := sp; exact ⟨_, _, S6.unsuite ok, q6⟩
          | cont => obtain ⟨t6, G6, S6, q6⟩ := sp; exact ⟨_, _, S6.unsuite ok, q6⟩
          | ret u => obtain ⟨v6, t6, G6, S6, r6, q6⟩ := sp; exact ⟨_, _, _, S6.unsuite ok, r6, q6⟩
      | @named x n i c ts b0 bs q1 q2 hs2 l2 hc hi hl su r ih =>
        rintro ⟨b, hb1, yes, no⟩
        have LM := PySem.W.exm_one (M := model X.prog X.w) (J3.kIn) typ hb1
        refine wpAny_handleBy_cons (codeAny_handlers_test ?_) (by intro q; cases q)
        refine named hc (LM.here ?_)
        cases b with
        | false =>
          show wpAny _ X.A (handleBy (.ref a) X.env hs2) _ _ _
          exact ih (no rfl)
        | true =>
          refine codeAny_handlers_suite_as ?_
          refine HandSPX.lands_againZ fl3 fun g4 fl4 up4 => ?_
          have J4 : Inv X pins τ1 G1 { s' with heap := g4 } := J.landed nb fl4.1 ((up.trans up3).trans up4) os ag
          obtain ⟨o4, v4, e4, z4, d4⟩ := fl4.there
          have S4 := J4.suite e4 d4 na nL nF
          refine store_ok (X := X.suite a ((a, o4) :: (X.pn ++ pins))) (v := .ref a) S4 nd hi (.inl hl) rfl (fun s5 S5 => ?_) (.inr hl)
          refine wpAny_mono ((su a o4 cls d (X.pn ++ pins) z4 ⟨_, d4⟩).run [] s5 _ G1 _ S5 (yes rfl a na)) (fun f s6 sp => ?_) (fun _ _ z => False.elim z)
          have fin : ∀ {t6 : L2.St} {G6 : Hp} {Q : Shared → Prop}, Inv (X.suite a ((a, o4) :: (X.pn ++ pins))) [] t6 G6 s6 → (∀ s7, Inv X pins (t6.set i none) G6 s7 → Q s7) →
              wpAny (model X.prog X.w) X.A (do bindName X.env n .none; unbindBehindTheSuite X.env n q2) (fun _ s7 => Q s7) X.xe s6 := fun {t6 G6 Q} S6 hq => gone_ok (S6.unsuite ok) nd hi hl hq
          cases f with
          | next => obtain ⟨t6, G6, S6, q6⟩ := sp; exact fin S6 fun s7 J7 => ⟨_, _, J7, q6⟩
          | brk => obtain ⟨t6, G6, S6, q6⟩ := sp; exact fin S6 fun s7 J7 => ⟨_, _, J7, q6⟩
          | cont => obtain ⟨t6, G6, S6, q6⟩ := sp; exact fin S6 fun s7 J7 => ⟨_, _, J7, q6⟩
          | ret u => obtain ⟨v6, t6, G6, S6, r6, q6⟩ := sp; exact fin S6 fun s7 J7 => ⟨_, _, _, J7, r6, q6⟩
    exact go hh w
end

/-! ## f(e, ..) where f is any expression that gives a def -/
structure CanCall (X : Cx) (CX : CXT) (k : Nat) (f : Addr) (sp : Sp) : Prop where
  ex : ∃ (fd : FuncData) (ps : List Str), FnOk X.prog X.w X.K X.mg X.base CX k f fd ps sp ∧ PySem.W.keepIn X.K (.ref f) = true ∧ Binds X.K fd ps []
/-- the promise goes with the address: S f sp -/
def tCallE (S : Addr → Sp → Prop) (E : L2.St → XK) (tf : TE) (t : TA) : TE := fun σ H Q => tf σ H fun y H1 => ∃ f sp, y = .ref f ∧ S f sp ∧ t σ H1 fun vs H2 => sp vs H2 Q (E σ)
section
variable {X : Cx} {CX : CXT} {k : Nat} {S : Addr → Sp → Prop} {E : L2.St → XK} {fe e : Expr} {es : List Expr} {tf : TE} {t : TA} {pos : Pos}
theorem pe_callE (hf : PE X fe tf) (A : ∀ f sp, S f sp → CanCall X CX k f sp) (hr : Room k X.A) (hx : ∀ σ, PassesAt CX X σ (E σ)) (ha : PA X (e :: es) t)
    (ht : eval (.Call fe (e :: es) [] pos) X.env = (do callWith pos (← eval fe X.env) [] (backTo pos (starEach (e :: es) X.env)) (backToKw pos (keywordEach [] X.env))) := by rfl)
    (he : starEach (e :: es) X.env = (false, eval e X.env) :: starEach es X.env := by rfl) (hpl : (backTo pos (starEach es X.env)).any (·.1) = false := by rfl) :
    PE X (.Call fe (e :: es) [] pos) (tCallE S E tf t) := by
  refine ⟨fun pins s σ H Q I h => ?_⟩
  rw [ht]
  refine wpAny_bind (thn (hf.run pins s σ H _ I h) fun u s1 q1 => ?_)
  obtain ⟨y, H1, I1, ry, f, sp, ey, hs, q⟩ := q1
  subst ey
  cases ry
  obtain ⟨fd, ps, F, hk, hb⟩ := (A f sp hs).ex
  refine PySem.W.callWith_K (h₀ := X.base) I.ok.mod.kin hk (thn (ha.run pos pins s1 σ H1 _ I1 q) fun us s2 q2 => ?_) he hpl
  obtain ⟨vs, H2, I2, r, q3⟩ := q2
  exact ⟨I2.kIn, run_fnS F hr hb (hx σ) I2 r q3⟩
end
end Bk
namespace Bk
open PySem PySem.Spec PyProof.Rows L2

/-! ## for i, x in enumerate(a tuple) -/
set_option maxHeartbeats 4000000 in
theorem enum_new1 {v : Value} {o : Obj} {G : Heap → Prop} (B : Begins v o G) :
    Meets (Builtin.«enumerate.__new__» ⟨[.type "enumerate", v], []⟩) (fun _ R s => G s.heap ∧
      R (.ok (.ret (.ref (s.heap.push o).objs.size))) { s with heap := (s.heap.push o).push { cls := .type "enumerate", data := .fields #[.none, .bool false, .ref s.heap.objs.size, rawInt 0, .none, .none] } }) :=
  .of_wp fun prog w A R s h => by
    obtain ⟨hp, g, d, tk, os⟩ := s
    obtain ⟨h1, h⟩ := h
    have hsub := sub_enumerate
    have it0 : ∀ {A' : Around} {E : Value → Shared → Prop} {Q : Value → Shared → Prop}, Q (.ref hp.objs.size) ⟨hp.push o, g, d, tk, os⟩ → wpAny (model prog w) A' (pyIter v) Q E ⟨hp, g, d, tk, os⟩ :=
      fun q => B.iter prog w _ _ ⟨hp, g, d, tk, os⟩ _ h1 q
    wp_walk using it0
    refine wpAny_stack_any fun st => wpAny_pure ?_
    split
    · rename_i c _ _ _ _ _
      cases (c == Value.type "enumerate") <;> (wp_walk using it0; exact ⟨_, rfl, h⟩)
    · wp_walk using it0
      exact ⟨_, rfl, h⟩
section
variable {prog : Program} {w : World} {A : Around} {E : Value → Shared → Prop} {s : Shared}
theorem enum_call1 {v : Value} {o : Obj} {G : Heap → Prop} {Q : Value → Shared → Prop} (B : Begins v o G) (h1 : G s.heap)
    (h : ∀ g, IsEnum g (s.heap.objs.size + 1) s.heap.objs.size 0 .none → g.get? s.heap.objs.size = some o → g.objs.size = s.heap.objs.size + 2 →
      (∀ b o, s.heap.get? b = some o → g.get? b = some o) → Q (.ref (s.heap.objs.size + 1)) { s with heap := g }) :
    wpAny (model prog w) A (call (.type "enumerate") [v]) Q E s := by
  refine callType_new F.called_enumerate (by decide) (F.typeCall_enumerate_1 _) (F.newCall_enumerate_1 _) (fun obj => F.args_object_init_2 obj _) F.entry_enumerate_new (enum_new1 B) ⟨h1, ?_⟩
  have z : (s.heap.push o).objs.size = s.heap.objs.size + 1 := Heap.size_push ..
  show _ ∧ _
  rw [z]
  have e0 := Heap.get?_push_size (s.heap.push o) (o := { cls := .type "enumerate", data := .fields #[.none, .bool false, .ref s.heap.objs.size, rawInt 0, .none, .none] }) rfl
  rw [z] at e0
  exact ⟨⟨_, e0, rfl⟩, h _ e0 (Heap.get?_push_of_some _ (Heap.get?_push_size _ B.free)) (by rw [Heap.size_push, z]) fun b o x => Heap.get?_push_of_some _ (Heap.get?_push_of_some _ x)⟩
end
/-- the tuple at a, each item in a new pair -/
def ItEt (K : PySem.W.Frag) (a : Addr) : It :=
  ⟨fun i G => ∃ (xs : List V) (x : V), SqT K G a xs ∧ xs[i]? = some x,
   fun i G v G' => ∃ T x, v = .ref T ∧ G T = none ∧ G' = upd G T (.tup [.int (i : Nat), x]) ∧ ∀ xs, SqT K G a xs → xs[i]? = some x,
   fun i G => ∃ xs : List V, SqT K G a xs ∧ xs.length ≤ i⟩
theorem turn_enumT {P : Program} {w : World} {K : PySem.W.Frag} {elts : List Expr} {kk : Nat} {tpos : Pos} (a e it : Addr) (hai : a ≠ it) (hea : e ≠ a) :
    Turn P w K (.Tuple elts kk tpos) (ItEt K a) [e, it] e (fun i g => (∃ old, IsEnum g e it ((i : Nat) : Int) old) ∧ g.IsTupleIter it a i ∧ e ≠ it) where
  mem := by simp
  obj := fun i g st b hb => by
    obtain ⟨⟨old, he⟩, ⟨o, ho, hc, hd⟩, _⟩ := st
    have two : b = e ∨ b = it := by simpa using hb
    rcases two with z | z
    · rw [z]; exact ⟨_, he, fun v q => nomatch q⟩
    · rw [z]; exact ⟨o, ho, fun v q => by rw [hd] at q; cases q⟩
  keep := fun i g g' st k => let ⟨⟨old, he⟩, hi, hne⟩ := st; ⟨⟨old, k e (by simp) _ he⟩, hi.at fun o q => k it (by simp) o q, hne⟩
  item := by
    intro X eP ew eK hc i pins s τ G E I hf st hg
    subst eP ew eK
    obtain ⟨⟨old, he⟩, hit, hne⟩ := st
    obtain ⟨xs, x, hq, hx⟩ := hg
    obtain ⟨its, rv, p, hz⟩ := I.tuple hq
    obtain ⟨u, hu, ru⟩ := rv.get hx
    have hel : e < s.heap.objs.size := Heap.lt_size he
    have hil : it < s.heap.objs.size := by obtain ⟨_, q, _⟩ := hit; exact Heap.lt_size q
    have lt : i < its.toArray.size := by
      have l1 := (List.getElem?_eq_some_iff.mp hu).1
      simpa using l1
    have tup : s.heap.IsTuple a its.toArray := p
    refine wpAny_pyNext_enum_itemD (Draws.tuple (show X.A.in1.handled = none from I.ok.hd hc) it a hai its.toArray) he ⟨hit, tup⟩ lt hne (by simp [hne, hea]) fun y g' tk hy ho hst hT hsz hk => ?_
    obtain rfl : u = y := by
      have h1 : its.toArray[i]? = some u := by simpa using hu
      exact Option.some.inj (h1.symm.trans hy)
    refine ⟨_, rfl, wpAny_letOwnedTupleGo_enum (s := { s with heap := g', toks := tk + 1 }) ho fun g2 he2 sb => ?_⟩
    have hT2 : g2.get? s.heap.objs.size = some { cls := .type "tuple", data := .seq #[.int i tk, u] } := (sb.2 _ (Nat.ne_of_gt hel)).trans hT
    have new : ObjOk X.prog X.w (upd G s.heap.objs.size (.tup [.int (i : Nat), x])) g2 s.heap.objs.size (.tup [.int (i : Nat), x]) :=
      ⟨by show 2 ≤ sizeLine; decide, [.int i tk, u], .cons ⟨_, rfl⟩ (.cons ru .nil), ⟨_, hT2, rfl, _, rfl⟩⟩
    have I1 : Inv X pins τ (upd G s.heap.objs.size (.tup [.int (i : Nat), x])) { s with heap := g2, toks := tk + 1 } :=
      I.turnedNew (ch := [e, it]) (fun b ob hb q => (sb.2 b (fun z => hb (by simp [z]))).trans (hk b ob (fun z => hb (by simp [z])) (fun z => hb (by simp [z])) q)) hf (Nat.le_refl _) new
    refine ⟨.ref s.heap.objs.size, _, I1, rfl, ⟨_, x, rfl, I.hok.fresh (Nat.le_refl _), rfl, fun ys hy => by rw [I.tuple_inj hy hq]; exact hx⟩, ⟨⟨u, ?_⟩, hst.1.at fun o q => (sb.2 it (Ne.symm hne)).trans q, hne⟩, fun b hb => ?_⟩
    · have e1 : ((i + 1 : Nat) : Int) = (i : Int) + 1 := by omega
      rw [e1]
      exact he2
    · have two : b = e ∨ b = it := by simpa using hb
      have lt2 : b < s.heap.objs.size := by
        rcases two with z | z
        · rw [z]; exact hel
        · rw [z]; exact hil
      rw [upd_ne (Nat.ne_of_lt lt2)]
      exact (hf b hb).1
  done := by
    intro X eP ew eK hc i pins s τ G E I hf st hg
    subst eP ew eK
    obtain ⟨⟨old, he⟩, hit, hne⟩ := st
    obtain ⟨xs, hq, hx⟩ := hg
    obtain ⟨its, rv, p, hz⟩ := I.tuple hq
    obtain ⟨f0, f1, f2, f3, f4, f5⟩ := hf it (by simp)
    have tup : s.heap.IsTuple a its.toArray := p
    have hl := rv.length
    have hT : s.TypeIs (.ref e) "enumerate" := ⟨_, he, rfl⟩
    unfold pyNext
    refine wpAny_bind (wpAny_attempt (wpAny_callSpecial?_slot (name := Str.ofString "__next__") hT F.slot_enumerate_next (wpAny_call_entry F.slot_enumerate_next hT F.entry_enumerate_next ?_ (F.args_enumerate_next_1 _))))
    show wpAny _ _ (field (.ref e) 2 >>= _) _ _ _
    refine wpAny_bind (wpAny_field he rfl (x := .ref it) rfl ?_)
    refine wpAny_bind (wpAny_nextOf_tuple_end (show X.A.in1.handled = none from I.ok.hd hc) hit tup (by simp; omega) fun g' x' eb hx' => ?_)
    obtain ⟨o, ho, hc'⟩ := hx'
    refine wpAny_bind (wpAny_isInstance (T := "StopIteration") (b := true) ⟨o, ho, hc'⟩ isSubtype_stop ?_)
    exact wpAny_pure ⟨rfl, I.turned (t' := s.toks) (fun b o hb q => eb b o hb q) f0 f1 f3 f4 f5⟩
  self := fun A i s Q E st h => let ⟨⟨_, he⟩, _⟩ := st; wpAny_pyIter_enum he h
def iEnumT (K : PySem.W.Frag) (ta : TA) : TI := fun τ G R => ta τ G fun vs G1 => ∃ a xs, vs = [.ref a] ∧ SqT K G1 a xs ∧ R (ItEt K a) G1
theorem pi_enumT {X : Cx} {e : Expr} {ta : TA} {p pos tpos : Pos} {elts : List Expr} {kk : Nat} (hg : Gl X "enumerate") (hm : X.mg "enumerate" = none) (ha : PA X [e] ta) (hs : starEach [e] X.env = [(false, eval e X.env)] := by rfl) :
    PI X (.Tuple elts kk tpos) (.Call (.Name "enumerate" p) [e] [] pos) (iEnumT X.K ta) := by
  refine ⟨fun pins s τ G R I h => ?_⟩
  refine Call_ (ld_blt I hg hm boot_enumerate (PyProof.Rows.callWith_type1 (thn (ha.run pos pins s τ G _ I h) fun us s1 q0 => ?_) hs rfl))
  obtain ⟨vs, G1, I1, r1, a, xs, ex, hq, q⟩ := q0
  subst ex
  cases r1 with
  | cons r rr =>
    cases rr
    cases r
    obtain ⟨its, rv, p', hz⟩ := I1.tuple hq
    have tup : s1.heap.IsTuple a its.toArray := p'
    have hlt : a < s1.heap.objs.size := by obtain ⟨o, eo, _⟩ := tup; exact Heap.lt_size eo
    refine enum_call1 (begins_tuple a its.toArray) tup fun g he hit hsz hk => wpAny_pyIter_enum he ?_
    have I2 : Inv X pins τ G1 { s1 with heap := g } := I1.kept (t' := s1.toks) hk
    refine ⟨s1.heap.objs.size + 1, [s1.heap.objs.size + 1, s1.heap.objs.size], _, _, G1, rfl, I2, turn_enumT a (s1.heap.objs.size + 1) s1.heap.objs.size (Nat.ne_of_lt hlt) (Nat.ne_of_gt (Nat.lt_succ_of_lt hlt)),
      ⟨⟨.none, he⟩, ⟨_, hit, rfl, rfl⟩, Nat.succ_ne_self _⟩, fun b hb => ?_, q⟩
    have two : b = s1.heap.objs.size + 1 ∨ b = s1.heap.objs.size := by simpa using hb
    have hle : s1.heap.objs.size ≤ b := by
      rcases two with z | z
      · rw [z]; exact Nat.le_add_right _ _
      · rw [z]; exact Nat.le_refl _
    exact I1.fpOk hle (I1.hok.fresh hle)
/-- over a tuple that the body leaves as it is -/
theorem for_enumT {K : PySem.W.Frag} {a : Addr} {xs : List V} {g : TG} {tb : TS} {D : Ends} {τ : L2.St} {G : Hp} (Pv : Nat → L2.St → Hp → Prop) (h0 : Pv 0 τ G) (hl : ∀ i τ G, i ≤ xs.length → Pv i τ G → SqT K G a xs)
    (step : ∀ i x τ G T, xs[i]? = some x → Pv i τ G → G T = none → g (.ref T) τ (upd G T (.tup [.int (i : Nat), x])) fun τ2 G2 => tb { D with nx := Pv (i + 1), ct := Pv (i + 1), bk := D.nx } τ2 G2)
    (last : ∀ τ G, Pv xs.length τ G → D.nx τ G) :
    ∃ W : Nat → Nat → L2.St → Hp → Prop, (∃ m, W 0 m τ G) ∧ ∀ i m τ G, W i m τ G → ((ItEt K a).stop i G ∧ D.nx τ G) ∨ ((ItEt K a).go i G ∧ ∃ N : L2.St → Hp → Prop,
      (∀ τ' G', N τ' G' → ∃ m', m' < m ∧ W (i + 1) m' τ' G') ∧ ∀ x G', (ItEt K a).yld i G x G' → g x τ G' fun τ2 G2 => tb { D with nx := N, ct := N, bk := D.nx } τ2 G2) := by
  refine ⟨fun i m τ G => m = xs.length - i ∧ i ≤ xs.length ∧ Pv i τ G, ⟨xs.length, by simp, Nat.zero_le _, h0⟩, ?_⟩
  rintro i m τ G ⟨rfl, hi, p⟩
  have q := hl i τ G hi p
  by_cases c : i < xs.length
  · refine .inr ⟨⟨xs, xs[i], q, by simp [c]⟩, Pv (i + 1), fun τ' G' p' => ⟨xs.length - (i + 1), by omega, rfl, c, p'⟩, fun x G' y => ?_⟩
    obtain ⟨T, z, rfl, hT, rfl, hz⟩ := y
    exact step i z τ G T (hz xs q) p hT
  · have e : i = xs.length := by omega
    subst e
    exact .inl ⟨⟨xs, q, Nat.le_refl _⟩, last τ G p⟩

/-! ## a dict against a text -/
theorem deq_str (l : Addr) (o : Obj) (b : Str) (u : Tok) (es : Array DictEntry) (n : Nat) (hd : o.data = .dict es n) (hc : o.cls = .type "dict") :
    Meets (Builtin.«dict.__eq__» ⟨[.ref l, .str b u], []⟩) (fun _ R s => s.heap.get? l = some o ∧ R (.ok (.ret .notImplemented)) s) :=
  .of_wp fun prog w A R s h => by
    obtain ⟨hp, g, d, tk, os⟩ := s
    obtain ⟨hl, h⟩ := h
    obtain ⟨c, dd, dt, sl⟩ := o
    dsimp only at hd hc
    subst hd hc
    have f1 := F.sub_str_dict
    wp_walk using PySem.AutoSeq1.wpAny_loadPart' hl
    exact ⟨_, rfl, h⟩
end Bk
namespace Bk
open PySem PySem.Spec PyProof.Rows L2
theorem dne_str (l : Addr) (o : Obj) (b : Str) (u : Tok) (es : Array DictEntry) (n : Nat) (hd : o.data = .dict es n) (hc : o.cls = .type "dict") :
    Meets (Builtin.«dict.__ne__» ⟨[.ref l, .str b u], []⟩) (fun _ R s => s.heap.get? l = some o ∧ R (.ok (.ret .notImplemented)) s) :=
  .of_wp fun prog w A R s h => by
    obtain ⟨hp, g, d, tk, os⟩ := s
    obtain ⟨hl, h⟩ := h
    obtain ⟨c, dd, dt, sl⟩ := o
    dsimp only at hd hc
    subst hd hc
    have f1 := F.sub_str_dict
    wp_walk using PySem.AutoSeq1.wpAny_loadPart' hl
    exact ⟨_, rfl, h⟩
theorem sne_dict (b : Str) (u : Tok) (l : Addr) (o : Obj) (es : Array DictEntry) (n : Nat) (hd : o.data = .dict es n) :
    Meets (Builtin.«str.__ne__» ⟨[.str b u, .ref l], []⟩) (fun _ R s => s.heap.get? l = some o ∧ R (.ok (.ret .notImplemented)) s) :=
  .of_wp fun prog w A R s h => by
    obtain ⟨hp, g, d, tk, os⟩ := s
    obtain ⟨hl, h⟩ := h
    obtain ⟨c, dd, dt, sl⟩ := o
    dsimp only at hd
    subst hd
    wp_walk using PySem.AutoSeq1.wpAny_loadPart' hl, wpAny_load hl
    exact ⟨_, rfl, h⟩
theorem seq_dict (b : Str) (u : Tok) (l : Addr) (o : Obj) (es : Array DictEntry) (n : Nat) (hd : o.data = .dict es n) :
    Meets (Builtin.«str.__eq__» ⟨[.str b u, .ref l], []⟩) (fun _ R s => s.heap.get? l = some o ∧ R (.ok (.ret .notImplemented)) s) :=
  .of_wp fun prog w A R s h => by
    obtain ⟨hp, g, d, tk, os⟩ := s
    obtain ⟨hl, h⟩ := h
    obtain ⟨c, dd, dt, sl⟩ := o
    dsimp only at hd
    subst hd
    wp_walk using PySem.AutoSeq1.wpAny_loadPart' hl, wpAny_load hl
    exact ⟨_, rfl, h⟩
section
variable {X : Cx}
/-- a tracked dict against a text -/
def rDS (c : Bool) : R2 := fun x y G Q => ∃ a kvs z, x = .ref a ∧ y = .str z ∧ G a = some (.dK kvs) ∧ Q (.bl c) G
theorem dict_obj {pins : List (Addr × Obj)} {τ : L2.St} {G : Hp} {s : Shared} {a : Addr} {kvs : List (Key × V)} (I : Inv X pins τ G s) (h : G a = some (.dK kvs)) :
    ∃ o es n, s.heap.get? a = some o ∧ o.data = .dict es n ∧ o.cls = .type "dict" := by
  obtain ⟨_, _, vs, _, o, es, ep, h1, h2, r⟩ := (show ObjOk X.prog X.w G s.heap a (.dK kvs) from I.hok a _ h)
  exact ⟨o, es, ep, h1, r.1, h2.1⟩
theorem op_ne_ds (hu : X.A.units < cLine) : OpR X (compareOp .NotEq) (rDS true) := by
  intro pins s τ G x y v u Q I rx ry h
  obtain ⟨a, kvs, z, rfl, rfl, ha, q⟩ := h
  cases rx
  obtain ⟨t, rfl⟩ := ry
  obtain ⟨o, es, n, ho, hd, hc⟩ := dict_obj I ha
  show wpAny _ _ (richCompare .NotEq _ _) _ _ s
  exact SeqAt.rc_ne_decline_or (k := false) ⟨o, ho, hc⟩ (typeIs_str s z t) (by decide) F.sub_str_dict F.slot_dict_ne F.slot_str_ne_refl
    (fun _ hq => call_meets F.slot_dict_ne ⟨o, ho, hc⟩ F.entry_dict_ne (F.args_dict_ne_2 _ _) (dne_str a o z t es n hd hc) ⟨ho, hq⟩)
    (fun _ hq => call_meets F.slot_str_ne_refl (typeIs_str s z t) F.entry_str_ne (F.args_str_ne_2 _ _) (sne_dict z t a o es n hd) ⟨ho, hq⟩)
    (fun _ hq => wpAny_of_eq (rfl : isSame (.ref a) (.str z t) = pure false) hq) (.inr hu) ⟨.bl true, G, I, rfl, q⟩
theorem op_eq_ds (hu : X.A.units < cLine) : OpR X (compareOp .Eq) (rDS false) := by
  intro pins s τ G x y v u Q I rx ry h
  obtain ⟨a, kvs, z, rfl, rfl, ha, q⟩ := h
  cases rx
  obtain ⟨t, rfl⟩ := ry
  obtain ⟨o, es, n, ho, hd, hc⟩ := dict_obj I ha
  show wpAny _ _ (richCompare .Eq _ _) _ _ s
  exact SeqAt.rc_eq_decline_or (k := false) ⟨o, ho, hc⟩ (typeIs_str s z t) (by decide) F.sub_str_dict F.slot_dict_eq F.slot_str_eq_refl
    (fun _ hq => call_meets F.slot_dict_eq ⟨o, ho, hc⟩ F.entry_dict_eq (F.args_dict_eq_2 _ _) (deq_str a o z t es n hd hc) ⟨ho, hq⟩)
    (fun _ hq => call_meets F.slot_str_eq_refl (typeIs_str s z t) F.entry_str_eq (F.args_str_eq_2 _ _) (seq_dict z t a o es n hd) ⟨ho, hq⟩)
    (fun _ hq => wpAny_of_eq (rfl : isSame (.ref a) (.str z t) = pure false) hq) (.inr hu) ⟨.bl false, G, I, rfl, q⟩
/-- of two rules for one operator either -/
theorem op_or {f : Value → Value → Sem Value} {r r' : R2} (h : OpR X f r) (h' : OpR X f r') : OpR X f (fun x y G Q => r x y G Q ∨ r' x y G Q) := by
  intro pins s τ G x y v u Q I rx ry q
  rcases q with q | q
  · exact h pins s τ G x y v u Q I rx ry q
  · exact h' pins s τ G x y v u Q I rx ry q
end
end Bk
/-! the mirror of buildroom.paths: what its checks say, over texts -/
namespace Bm
open PySem L2 TL
/-- [a, b, ..] below [c, ..] for single signs -/
theorem lt_one (a b : Nat) : decide (([a] : List Nat) < [b]) = decide (a < b) := by
  rw [Bool.eq_iff_iff, decide_eq_true_eq, decide_eq_true_eq]
  constructor
  · intro h
    cases h with
    | rel h => exact h
    | cons h => cases h
  · intro h
    exact List.Lex.rel h
def sgnN (c : Nat) : Bool := (decide (97 ≤ c) && decide (c ≤ 122)) || (decide (48 ≤ c) && decide (c ≤ 57))
def sgnT (c : Nat) : Bool := (decide (32 ≤ c) && decide (c ≤ 126)) || decide (c = 10)
def nameB (x : Str) : Bool := decide (1 ≤ x.length) && decide (x.length ≤ 6) && x.cps.toList.all sgnN
def partsOf (x : Str) : List Str := Txt.split x (Str.ofString "/")
def pathB (x : Str) : Bool := decide ((partsOf x).length ≤ 3) && (partsOf x).all nameB
def textB (x : Str) : Bool := decide (x.length ≤ 200) && x.cps.toList.all sgnT
def within (p f : Str) : Bool := decide (f = Str.ofString "") || Txt.startswith p (f ++ Str.ofString "/")
def isPathV : V → Bool
  | .str x => pathB x
  | _ => false
def isTextV : V → Bool
  | .str x => textB x
  | _ => false
def isFolderV : V → Bool
  | .str x => pathB x || decide (x = Str.ofString "")
  | _ => false
theorem spl_len {S : List Nat} : ∀ (l : List Nat) (k : Nat) (acc p : List Nat), p ∈ spl S k acc l → p.length ≤ acc.length + l.length
  | [], k, acc, p, h => by
    rw [spl_nil] at h
    have e : p = acc := by simpa using h
    subst e
    simp
  | c :: r, 0, acc, p, h => by
    by_cases q : pre S (c :: r) = true
    · rw [spl_hit q] at h
      rcases List.mem_cons.mp h with rfl | h
      · simp
      · have ih := spl_len r _ _ p h
        simp at ih ⊢
        omega
    · rw [spl_miss (by simpa using q)] at h
      have ih := spl_len r _ _ p h
      simp at ih ⊢
      omega
  | c :: r, k + 1, acc, p, h => by
    have h' : p ∈ spl S k acc r := h
    have ih := spl_len r _ _ p h'
    simp at ih ⊢
    omega
theorem str_len (x : Str) : (tl x).length = x.length := by simp [tl, Str.length]
theorem part_len {x p : Str} (h : p ∈ partsOf x) : p.length ≤ x.length := by
  have e := split_spl x (Str.ofString "/") (by decide) (kind_ok (by decide +kernel))
  have h1 : tl p ∈ (Txt.split x (Str.ofString "/")).map tl := List.mem_map.mpr ⟨p, h, rfl⟩
  rw [e] at h1
  have h2 := spl_len _ _ _ _ h1
  rw [str_len, str_len] at h2
  simpa using h2
example : pathB (Str.ofString "e/f/g") = true := by decide +kernel
example : pathB (Str.ofString "a/b/c/d") = false := by decide +kernel
end Bm
/-! more of what readings evaluate to -/
namespace Be
open PySem PySem.Spec PyProof.Rows L2 Bk Bm Evl
section
variable {K : PySem.W.Frag} {σ : L2.St} {H H' : Hp} {ta tb tc te tx : TE} {t u : TT} {x y z v : V} {r r' : R2}
theorem ev_chain {b1 b2 : Bool} (ha : Ev ta σ H x) (hb : Ev tb σ H y) (hr : RV r x y H (.bl b1)) (hc : b1 = true → Ev tc σ H z) (hr' : b1 = true → RV r' y z H (.bl b2)) : Ev (tChain r r' ta tb tc) σ H (.bl (b1 && b2)) := fun H1 e Q q =>
  ha H1 e _ fun H2 e2 => hb H2 (e.trans e2) _ fun H3 e3 => hr H3 ((e.trans e2).trans e3) _ fun H4 e4 => ⟨b1, rfl, by
    have e14 := (e2.trans e3).trans e4
    cases b1 with
    | false =>
      rw [if_neg (by decide)]
      exact q H4 e14
    | true =>
      rw [if_pos rfl]
      exact hc rfl H4 (e.trans e14) _ fun H5 e5 => hr' rfl H5 ((e.trans e14).trans e5) Q fun H6 e6 => q H6 ((e14.trans e5).trans e6)⟩
theorem ev_isL {xs ys : List V} (h : EvL te σ H xs) (e : xs = ys) : EvL te σ H ys := by
  rw [← e]
  exact h
theorem ev_and {a b : Bool} (h1 : Ev ta σ H (.bl a)) (h2 : a = true → Ev tb σ H (.bl b)) : Ev (tAndV ta tb) σ H (.bl (a && b)) := ev_andV h1 h2
/-- a comprehension over a text, no test -/
theorem el_lcS {j : Nat} {w : Str} {tl : TE} (f : Nat → V) (h : Ev tl σ H (.str w)) (hz : w.length ≤ 40000)
    (he : ∀ (c : Nat) H1, Ex H H1 → c ∈ w.cps.toList → Ev te (σ.set j (some (.str ⟨#[c]⟩))) H1 (f c)) : EvL (tLc (iStr tl) (gName j) tYes te [j]) σ H (w.cps.toList.map f) := fun H0 e Q q => h H0 e _ fun H1 e1 => ⟨w, rfl, fun D hD =>
  lc_it (walk_str (z := w)) (fun i G => Ex H1 G ∧ G D = some (.lst ((w.cps.toList.take i).map f))) ⟨Ex.new hD, upd_same⟩ (fun _ _ _ _ => trivial) (by
    rintro i v G G' hi ⟨s1, hd⟩ ⟨rfl, c, hc, rfl⟩
    have hl : w.cps.toList[i]? = some c := by simpa using hc
    have ee : (wipe σ [j]).set j (some (V.str ⟨#[c]⟩)) = σ.set j (some (V.str ⟨#[c]⟩)) := by
      show (σ.set j none).set j (some (V.str ⟨#[c]⟩)) = _
      rw [List.set_set]
    show wipe ((wipe σ [j]).set j (some (V.str ⟨#[c]⟩))) [j] = wipe σ [j] ∧ _
    rw [ee]
    refine ⟨by show (σ.set j _).set j none = σ.set j none; rw [List.set_set], ?_⟩
    unfold tYes
    dsimp only
    rw [if_pos rfl]
    refine he c G' ((e.trans e1).trans s1) (List.mem_of_getElem? hl) G' (Ex.refl _) _ fun G2 e2 => ⟨_, e2 D _ hd, sz_lt ?_, (s1.trans e2).mut hD, ?_⟩
    · rw [List.length_map]
      have h1 := List.length_take_le i w.cps.toList
      have h2 : w.cps.toList.length = w.length := by simp [Str.length]
      have h3 := List.length_take_le' i w.cps.toList
      omega
    · rw [upd_same, List.take_succ, hl]
      simp) (by
    rintro G ⟨s1, hd⟩
    refine q D G (fresh_back e1 hD) (e1.trans s1) ?_
    rw [hd]
    have h2 : w.cps.toList.length = w.cps.size := by simp
    rw [List.take_of_length_le (Nat.le_of_eq h2)])⟩
/-- over a list, no test -/
theorem el_lcN {j : Nat} {xs : List V} {tl : TE} (f : V → V) (h : EvL tl σ H xs) (hz : xs.length ≤ 40000)
    (he : ∀ (x : V) H1, Ex H H1 → x ∈ xs → Ev te (σ.set j (some x)) H1 (f x)) : EvL (tLc (iList K tl) (gName j) tYes te [j]) σ H (xs.map f) := fun H0 e Q q => h H0 e _ fun a H1 ha e1 hx => ⟨a, rfl, ⟨xs, sq_of hx⟩, fun D hD =>
  lc_it (walk_list (K := K) (a := a) (xs := xs)) (fun i G => Ex H1 G ∧ G D = some (.lst ((xs.take i).map f))) ⟨Ex.new hD, upd_same⟩ (fun i G _ p => sq_of (p.1 a _ hx)) (by
    rintro i v G G' hi ⟨s1, hd⟩ ⟨rfl, hl⟩
    have ee : (wipe σ [j]).set j (some v) = σ.set j (some v) := by
      show (σ.set j none).set j (some v) = _
      rw [List.set_set]
    show wipe ((wipe σ [j]).set j (some v)) [j] = wipe σ [j] ∧ _
    rw [ee]
    refine ⟨by show (σ.set j _).set j none = σ.set j none; rw [List.set_set], ?_⟩
    unfold tYes
    dsimp only
    rw [if_pos rfl]
    refine he v G' ((e.trans e1).trans s1) (List.mem_of_getElem? hl) G' (Ex.refl _) _ fun G2 e2 => ⟨_, e2 D _ hd, sz_lt ?_, (s1.trans e2).mut hD, ?_⟩
    · rw [List.length_map]
      have h3 := List.length_take_le' i xs
      omega
    · rw [upd_same, List.take_succ, hl]
      simp) (by
    rintro G ⟨s1, hd⟩
    refine q D G (fresh_back e1 hD) (e1.trans s1) ?_
    rw [hd, List.take_of_length_le (Nat.le_refl _)])⟩
/-- over a tuple, no test -/
theorem el_lcT {j : Nat} {a : Addr} {xs : List V} {tl : TE} (f : V → V) (h : Ev tl σ H (.ref a)) (hx : SqT K H a xs) (hz : xs.length ≤ 40000)
    (he : ∀ (x : V) H1, Ex H H1 → x ∈ xs → Ev te (σ.set j (some x)) H1 (f x)) : EvL (tLc (iTup K tl) (gName j) tYes te [j]) σ H (xs.map f) := fun H0 e Q q => h H0 e _ fun H1 e1 => ⟨a, rfl, ⟨xs, ex_t (e.trans e1) hx⟩, fun D hD =>
  lc_it (walk_tup (K := K) (a := a) (xs := xs)) (fun i G => Ex H1 G ∧ G D = some (.lst ((xs.take i).map f))) ⟨Ex.new hD, upd_same⟩ (fun i G _ p => ex_t ((e.trans e1).trans p.1) hx) (by
    rintro i v G G' hi ⟨s1, hd⟩ ⟨rfl, hl⟩
    have ee : (wipe σ [j]).set j (some v) = σ.set j (some v) := by
      show (σ.set j none).set j (some v) = _
      rw [List.set_set]
    show wipe ((wipe σ [j]).set j (some v)) [j] = wipe σ [j] ∧ _
    rw [ee]
    refine ⟨by show (σ.set j _).set j none = σ.set j none; rw [List.set_set], ?_⟩
    unfold tYes
    dsimp only
    rw [if_pos rfl]
    refine he v G' ((e.trans e1).trans s1) (List.mem_of_getElem? hl) G' (Ex.refl _) _ fun G2 e2 => ⟨_, e2 D _ hd, sz_lt ?_, (s1.trans e2).mut hD, ?_⟩
    · rw [List.length_map]
      have h3 := List.length_take_le' i xs
      omega
    · rw [upd_same, List.take_succ, hl]
      simp) (by
    rintro G ⟨s1, hd⟩
    refine q D G (fresh_back e1 hD) (e1.trans s1) ?_
    rw [hd, List.take_of_length_le (Nat.le_refl _)])⟩
theorem ev_all {bs : List Bool} (h : EvL te σ H (bs.map V.bl)) : Ev (tCB (rAll K) (tCons te tNil)) σ H (.bl (bs.all id)) := fun H1 e Q q =>
  h H1 e _ fun p H2 _ e2 h2 => ⟨p, bs, rfl, sq_of h2, q H2 e2⟩
theorem ev_any {bs : List Bool} (h : EvL te σ H (bs.map V.bl)) : Ev (tCB (rAny K) (tCons te tNil)) σ H (.bl (bs.any id)) := fun H1 e Q q =>
  h H1 e _ fun p H2 _ e2 h2 => ⟨p, bs, rfl, sq_of h2, q H2 e2⟩
theorem ev_lenS {w : Str} (h : Ev te σ H (.str w)) (hl : w.length ≤ 100000) : Ev (tCB (fun xs H Q => ∃ z, xs = [V.str z] ∧ z.length ≤ sizeLine ∧ Q (.int z.length) H) (tCons te tNil)) σ H (.int (w.length : Int)) := fun H1 e Q q =>
  h H1 e _ fun H2 e2 => ⟨w, rfl, sz_of hl, q H2 e2⟩
/-- what isinstance asks of any value of these programs -/
inductive Kd (K : PySem.W.Frag) (H : Hp) : V → String → Prop
  | mk {v : V} {n : String} (h : TyX K H v (.type n)) (k : n ∈ (["NoneType", "bool", "int", "str", "list", "tuple", "dict"] : List String)) : Kd K H v n
theorem kd_str (x : Str) : Kd K H (.str x) "str" := ⟨.base (.str x), by decide⟩
theorem kd_non : Kd K H .non "NoneType" := ⟨.base .non, by decide⟩
theorem kd_int (i : Int) : Kd K H (.int i) "int" := ⟨.base (.int i), by decide⟩
theorem kd_bl (b : Bool) : Kd K H (.bl b) "bool" := ⟨.base (.bl b), by decide⟩
theorem kd_lst {a : Addr} {xs : List V} (h : H a = some (.lst xs)) : Kd K H (.ref a) "list" := ⟨.base (.lst h), by decide⟩
theorem kd_tup {a : Addr} {xs : List V} (h : H a = some (.tup xs)) : Kd K H (.ref a) "tuple" := ⟨.base (.tup h), by decide⟩
theorem kd_dK {a : Addr} {kvs : List (Key × V)} (h : H a = some (.dK kvs)) : Kd K H (.ref a) "dict" := ⟨.base (.dK h), by decide⟩
theorem tyOf_mono {v : V} {T : Value} (e : Ex H H') (h : TyOf K H v T) : TyOf K H' v T := by
  cases h with
  | non => exact .non
  | bl b => exact .bl b
  | int i => exact .int i
  | str x => exact .str x
  | flt x => exact .flt x
  | lst h => exact .lst (e _ _ h)
  | frz h => exact .frz (e _ _ h)
  | tup h => exact .tup (e _ _ h)
  | dK h => exact .dK (e _ _ h)
  | dT h => exact .dT (e _ _ h)
  | ins h a b c d f => exact .ins (e _ _ h) a b c d f
theorem tyX_mono {v : V} {T : Value} (e : Ex H H') (h : TyX K H v T) : TyX K H' v T := by
  cases h with
  | base h => exact .base (tyOf_mono e h)
  | byt b => exact .byt b
  | set h => exact .set (e _ _ h)
  | kList h c => exact .kList h c
  | kTuple h c => exact .kTuple h c
  | kDict h c => exact .kDict h c
  | fTuple h => exact .fTuple (e _ _ h)
  | fDict h => exact .fDict (e _ _ h)
theorem Kd.mono {n : String} (e : Ex H H') (h : Kd K H v n) : Kd K H' v n := by
  obtain ⟨h, k⟩ := h
  exact ⟨tyX_mono e h, k⟩
theorem kd_kit {n m : String} (h : Kd K H v n) (hm : m = "str" ∨ m = "tuple") : PySem.W.kitOne K (.type n) (.type m) = some (decide (n = m)) := by
  obtain ⟨_, k⟩ := h
  simp only [List.mem_cons, List.not_mem_nil, or_false] at k
  rcases hm with rfl | rfl <;> rcases k with rfl | rfl | rfl | rfl | rfl | rfl | rfl <;> exact kit_ty (by decide +kernel)
theorem ev_isi {n m : String} (h : Ev te σ H v) (hc : Ev tx σ H (.ty m)) (k : Kd K H v n) (hm : m = "str" ∨ m = "tuple") : Ev (tCB (rIsi K) (tCons te (tCons tx tNil))) σ H (.bl (decide (n = m))) := fun H1 e Q q =>
  h H1 e _ fun H2 e2 => hc H2 (e.trans e2) _ fun H3 e3 => by
    obtain ⟨ty, kk⟩ := id (k.mono ((e.trans e2).trans e3))
    exact ⟨v, .ty m, .type n, .type m, _, rfl, .ty m, ty, kd_kit k hm, q H3 (e2.trans e3)⟩
/-- s.split(sep) -/
theorem el_split {w s : Str} (h : Ev te σ H (.str w)) (hs : Ev tx σ H (.str s)) (h0 : (s.length == 0) = false) (hl : w.length ≤ 100000) :
    EvL (tM1 (fun x xs H Q => ∃ a b, x = .str a ∧ xs = [.str b] ∧ (b.length == 0) = false ∧ a.length + 2 ≤ sizeLine ∧ rNewStrs (Txt.split a b) H Q) te tx) σ H ((Txt.split w s).map V.str) := fun H1 e Q q =>
  h H1 e _ fun H2 e2 => ⟨⟨w, rfl⟩, hs H2 (e.trans e2) _ fun H3 e3 => ⟨w, s, rfl, rfl, h0, Nat.le_trans (Nat.add_le_add_right hl 2) (by rw [sizeLine_eq]; decide), fun p hp => q p _ (fresh_back (e2.trans e3) hp) ((e2.trans e3).trans (Ex.new hp)) upd_same⟩⟩
/-- over a list that stands, no test -/
theorem el_lcA {j : Nat} {a : Addr} {xs : List V} {tl : TE} (f : V → V) (h : Ev tl σ H (.ref a)) (hx : SqL K H a xs) (hz : xs.length ≤ 40000)
    (he : ∀ (x : V) H1, Ex H H1 → x ∈ xs → Ev te (σ.set j (some x)) H1 (f x)) : EvL (tLc (iList K tl) (gName j) tYes te [j]) σ H (xs.map f) := fun H0 e Q q => h H0 e _ fun H1 e1 => ⟨a, rfl, ⟨xs, ex_l (e.trans e1) hx⟩, fun D hD =>
  lc_it (walk_list (K := K) (a := a) (xs := xs)) (fun i G => Ex H1 G ∧ G D = some (.lst ((xs.take i).map f))) ⟨Ex.new hD, upd_same⟩ (fun i G _ p => ex_l ((e.trans e1).trans p.1) hx) (by
    rintro i v G G' hi ⟨s1, hd⟩ ⟨rfl, hl⟩
    have ee : (wipe σ [j]).set j (some v) = σ.set j (some v) := by
      show (σ.set j none).set j (some v) = _
      rw [List.set_set]
    show wipe ((wipe σ [j]).set j (some v)) [j] = wipe σ [j] ∧ _
    rw [ee]
    refine ⟨by show (σ.set j _).set j none = σ.set j none; rw [List.set_set], ?_⟩
    unfold tYes
    dsimp only
    rw [if_pos rfl]
    refine he v G' ((e.trans e1).trans s1) (List.mem_of_getElem? hl) G' (Ex.refl _) _ fun G2 e2 => ⟨_, e2 D _ hd, sz_lt ?_, (s1.trans e2).mut hD, ?_⟩
    · rw [List.length_map]
      have h3 := List.length_take_le' i xs
      omega
    · rw [upd_same, List.take_succ, hl]
      simp) (by
    rintro G ⟨s1, hd⟩
    refine q D G (fresh_back e1 hD) (e1.trans s1) ?_
    rw [hd, List.take_of_length_le (Nat.le_refl _)])⟩
theorem kd_strV {x : Str} {n : String} (h : Kd K H (.str x) n) : n = "str" := by
  obtain ⟨h, _⟩ := h
  cases h with
  | base h => cases h; rfl
theorem kd_isStr {v : V} (h : Kd K H v "str") : ∃ x, v = .str x := by
  obtain ⟨h, _⟩ := h
  generalize e : Value.type "str" = T at h
  cases h with
  | base h =>
    cases h with
    | str x => exact ⟨x, rfl⟩
    | ins => cases e
    | _ => simp at e
  | _ => simp at e
theorem kd_isTup {v : V} (h : Kd K H v "tuple") : ∃ a, v = .ref a := by
  obtain ⟨h, _⟩ := h
  generalize e : Value.type "tuple" = T at h
  cases h with
  | base h =>
    cases h with
    | tup h => exact ⟨_, rfl⟩
    | ins => cases e
    | _ => simp at e
  | kTuple h c => exact ⟨_, rfl⟩
  | fTuple h => exact ⟨_, rfl⟩
  | _ => simp at e
/-- a def as its callers see it -/
structure Cal (P : Program) (w : World) (K : PySem.W.Frag) (mg : Str → Option Value) (base : Heap) (CX : CXT) (k : Nat) (x : Str) (ps : List Str) (sp : Sp) where
  f : Addr
  fd : FuncData
  F : FnOk P w K mg base CX k f fd ps sp
  g : mg x = some (.ref f)
  kp : PySem.W.keepIn K (.ref f) = true
  b : Binds K fd ps []
end
end Be
/-! own classes: len, ==; zip of tuples in a comprehension -/
namespace Cr
open PySem PySem.Spec PyProof.Rows L2 Bk Bm Evl Be
section
variable {X : Cx} {n : Nat} {C f : Addr} {fd : FuncData} {ps : List Str} {sp : Sp}
/-- len(x), x of an own class with a __len__ -/
theorem call_lenI (F : FnOk X.prog X.w X.K X.mg X.base CX0 n f fd ps sp) (hs : PySem.W.findIn X.K (.ref C) "__len__" = some (some (.ref f))) (hf : PySem.W.isFn X.K (.ref f) = true) (hb : Binds X.K fd ps []) (hr : Room (n + 1) X.A) :
    CallR X (.builtin "len") (fun xs H Q => ∃ a dx fs, xs = [.ref a] ∧ H a = some (.ins C dx fs) ∧ sp [.ref a] H (fun v H' => ∃ i, v = .int i ∧ 0 ≤ i ∧ i < 2 ^ 63 ∧ Q (.int i) H') E0) := by
  intro pins s σ H xs us Q I r h
  obtain ⟨a, dx, fs, rfl, ha, hsp⟩ := h
  obtain ⟨u, rfl, ru⟩ := vals1 r
  cases ru
  obtain ⟨mA, J, _⟩ := ins_get I.hok ha
  obtain ⟨od, J, _⟩ := J.look
  obtain ⟨m, hF⟩ := I.fr
  refine PySem.W.len_K hF I.ok.mod.kin J hs hf ?_
  have hl := F.len _ _ _ _ hsp
  have r2 : Vals [V.ref a] [Value.ref a] := .cons rfl .nil
  refine wpAny_call (codeAny_mono (F.run X.A.in1 X.stack s H ⟨[.ref a], []⟩ [.ref a] [.ref a] _ E0 hr.in1 I.env0.in1 (by
    have := hb s [.ref a] I.kIn (by simpa using hl)
    simpa using this) r2 hsp) fun r s' hq => ?_)
  cases r with
  | error e => exact pass0 pins σ H s e s' I hq
  | ok fl =>
    cases fl with
    | ret w =>
      obtain ⟨z, H', I', rz, i, rfl, h0, h1, q⟩ := I.after hq
      obtain ⟨t, rfl⟩ := rz
      exact ⟨⟨h0, h1⟩, .int i, H', I'.tok _, ⟨_, rfl⟩, q⟩
    | next => exact False.elim hq
    | brk => exact False.elim hq
    | cont => exact False.elim hq
/-- the other side of an own == -/
inductive Oth (K : PySem.W.Frag) (C : Addr) (H : Hp) : V → Prop
  | ins {b dx : Addr} {fs : List (Str × V)} (h : H b = some (.ins C dx fs)) : Oth K C H (.ref b)
  | tup {b : Addr} {xs : List V} (h : H b = some (.tup xs)) (hn : PySem.W.notFirst K C (.type "tuple") = true) : Oth K C H (.ref b)
/-- x == y, x of an own class with an __eq__ -/
theorem op_eqI (F : FnOk X.prog X.w X.K X.mg X.base CX0 n f fd ps sp) (hs : PySem.W.findIn X.K (.ref C) "__eq__" = some (some (.ref f))) (hf : PySem.W.isFn X.K (.ref f) = true) (hb : Binds X.K fd ps []) (hr : Room n X.A) :
    OpR X (compareOp .Eq) (fun x y H Q => ∃ a dx fs b, x = .ref a ∧ H a = some (.ins C dx fs) ∧ y = .ref b ∧ Oth X.K C H y ∧ sp [.ref a, .ref b] H (fun v H' => ∃ i, v = .bl i ∧ Q (.bl i) H') E0) := by
  intro pins s σ H x y v u Q I rx ry h
  obtain ⟨a, dx, fs, b, rfl, ha, rfl, oth, hsp⟩ := h
  cases rx
  cases ry
  obtain ⟨mA, J, _⟩ := ins_get I.hok ha
  obtain ⟨od, J, _⟩ := J.look
  obtain ⟨m, hF⟩ := I.fr
  have ty : ∃ tb, PySem.W.Looks (model X.prog X.w) s.heap (typeOf (.ref b)) tb ∧ PySem.W.notFirst X.K C tb = true := by
    cases oth with
    | ins hb' =>
      obtain ⟨mB, J', _⟩ := ins_get I.hok hb'
      obtain ⟨od', J', _⟩ := J'.look
      exact ⟨_, J'.type, by simp [PySem.W.notFirst]⟩
    | tup hb' hn =>
      obtain ⟨_, its, _, o, ho, hc, _⟩ := I.hok b _ hb'
      exact ⟨_, hc ▸ (PySem.W.Looks.ld ho).andThen .now, hn⟩
  obtain ⟨tb, hL, hn⟩ := ty
  show wpAny (model X.prog X.w) X.A (richCompare .Eq (.ref a) (.ref b)) (EP X pins σ Q) X.xe s
  refine PySem.W.cmp_K (op := .Eq) hr.units0 hF I.ok.mod.kin J hL hn hs hf ?_
  have hl := F.len _ _ _ _ hsp
  have r2 : Vals [V.ref a, V.ref b] [Value.ref a, Value.ref b] := .cons rfl (.cons rfl .nil)
  refine wpAny_call (codeAny_mono (F.run X.A X.stack s H ⟨[.ref a, .ref b], []⟩ [.ref a, .ref b] [.ref a, .ref b] _ E0 hr I.env0 (by
    have := hb s [.ref a, .ref b] I.kIn (by simpa using hl)
    simpa using this) r2 hsp) fun r s' hq => ?_)
  cases r with
  | error e => exact pass0 pins σ H s e s' I hq
  | ok fl =>
    cases fl with
    | ret w =>
      obtain ⟨z, H', I', rz, i, rfl, q⟩ := I.after hq
      cases rz
      exact ⟨.bl i, H', I', rfl, q⟩
    | next => exact False.elim hq
    | brk => exact False.elim hq
    | cont => exact False.elim hq
end
section
variable {K : PySem.W.Frag} {σ : L2.St} {H H' : Hp} {ta tb tc te tx : TE} {x y z v : V}
/-- pairs of two tuples -/
theorem walk_zipT {a b : Addr} {xs ys : List V} {n : Nat} (hn : n = min xs.length ys.length) : Walk (RZ.ItzT K a b) n (fun H => SqT K H a xs ∧ SqT K H b ys) (YPair (fun i => xs[i]?) (fun i => ys[i]?)) := by
  subst hn
  refine ⟨fun i _ hi q => ?_, fun _ q => ⟨xs, ys, q.1, q.2, by omega⟩, fun i H v H' _ q y => ?_⟩
  · have h1 : i < xs.length := by omega
    have h2 : i < ys.length := by omega
    exact ⟨xs, ys, xs[i], ys[i], q.1, q.2, by simp [h1], by simp [h2]⟩
  · obtain ⟨T, x, z, h1, h2, h3, h4, h5⟩ := y
    exact ⟨T, x, z, h1, h2, h3, h4 xs q.1, h5 ys q.2⟩
end
end Cr
namespace Bp
open PySem PySem.Spec PyProof.Rows L2 Bk Bm Evl Be Cr
def top (i : Nat) : Stmt := PySem.Challenge.pw_buildroom_k02_books_refused.main.body.getD i (.Pass ⟨0, 0, 0, 0⟩)
abbrev sLies : Stmt := top 8
abbrev sWay : Stmt := top 9
abbrev sIsName : Stmt := top 10
abbrev sIsPath : Stmt := top 11
abbrev sIsFolder : Stmt := top 12
abbrev sIsText : Stmt := top 13
abbrev sHas : Stmt := top 14
/-- the built-ins and the module's constants -/
structure Gv (mg : Str → Option Value) : Prop where
  len : mg "len" = none
  all : mg "all" = none
  any : mg "any" = none
  isi : mg "isinstance" = none
  str : mg "str" = none
  tup : mg "tuple" = none
  lst : mg "list" = none
  int : mg "int" = none
  rng : mg "range" = none
  enu : mg "enumerate" = none
  mn : ∃ t, mg "MOST_NAMES" = some (.int 3 t)
  ln : ∃ t, mg "LONGEST_NAME" = some (.int 6 t)
  lt : ∃ t, mg "LONGEST_TEXT" = some (.int 200 t)
  zip : mg "zip" = none
  srt : mg "sorted" = none
  max : mg "max" = none
  mr : ∃ t, mg "MOST_RULES" = some (.int 8 t)
  mj : ∃ t, mg "MOST_JOINED" = some (.int 4 t)
  lw : ∃ t, mg "LONGEST_WORD" = some (.int 8 t)
section
variable {σ : L2.St} {H : Hp}
theorem rv_leS {a b : Str} {k : Bool} (e : (!decide (b.cps.toList < a.cps.toList)) = k) : RV (fun x y H Q => ∃ i j, x = V.str i ∧ y = V.str j ∧ Q (.bl (!decide (j.cps.toList < i.cps.toList))) H) (.str a) (.str b) H (.bl k) := fun H1 _ Q q =>
  ⟨a, b, rfl, rfl, by rw [e]; exact q H1 (Ex.refl H1)⟩
theorem rv_gtS {a b : Str} : RV (fun x y H Q => ∃ i j, x = V.str i ∧ y = V.str j ∧ Q (.bl (decide (j.cps.toList < i.cps.toList))) H) (.str a) (.str b) H (.bl (decide (b.cps.toList < a.cps.toList))) := fun H1 _ Q q =>
  ⟨a, b, rfl, rfl, q H1 (Ex.refl H1)⟩
theorem not_lt_dec (a b : Nat) : (!decide (a < b)) = decide (b ≤ a) := by
  by_cases h : a < b
  · rw [decide_eq_true h, decide_eq_false (by omega)]; rfl
  · rw [decide_eq_false h, decide_eq_true (by omega)]; rfl
theorem le_lo {c n : Nat} : (!decide ((⟨#[c]⟩ : Str).cps.toList < (⟨#[n]⟩ : Str).cps.toList)) = decide (n ≤ c) := by
  show (!decide (([c] : List Nat) < [n])) = _
  rw [lt_one, not_lt_dec]
end
section
variable {P : Program} {w : World} {K : PySem.W.Frag} {mg : Str → Option Value} {base : Heap}
/-! ### is_name -/
def spName : Sp := fun vs H Q _ => ∃ x : Str, vs = [.str x] ∧ x.length ≤ 100000 ∧ RetV (.bl (nameB x)) H Q
theorem scName : FnScope ["word", "sign"] ["word"] (defScope sIsName) := ⟨rfl, rfl, rfl, by decide +kernel, rfl, by decide +kernel, by decide +kernel⟩
theorem ok_name {f : Addr} {fd : FuncData} (F : Fun K "is_name" "is_name" sIsName f fd) (T : Gv mg) : FnOk P w K mg base CX0 1 f fd ["word"] spName := by
  refine F.ok scName (fun vs H Q E h => ?_) (fun cdv A outer s H vs Q E hr h => ?_)
  · obtain ⟨x, rfl, _⟩ := h
    rfl
  · obtain ⟨x, rfl, hl, k⟩ := h
    obtain ⟨t1, m1⟩ := T.ln
    refine ⟨_, pss_one (ps_ret (pe_and (pe_chain op_le op_le pe_int (pe_callB call_len_str (by rfl) T.len PySem.boot_len (pa_cons (pv 0) pa_nil)) (pe_glob (v := .int 6) (by rfl) m1 ⟨_, rfl⟩))
      (pe_one (pe_callB (cr_all rfl) (by rfl) T.all boot_all (pa_cons (pe_lc (own := [("sign", 1)]) (g := gName 1) (tt := tYes) rfl scName.nd (pi_str (pv 0)) (blkOk_by (N := ["word", "sign"]) (sc := defScope sIsName) (by decide +kernel))
        (fun _ _ _ _ _ => pg_name (i := 1) scName.nd rfl (Or.inl rfl)) (fun _ _ _ _ _ => pts_nil)
        (fun _ _ _ _ _ => pe_or (pe_chain op_le_str op_le_str pe_str (pv 1) pe_str) (pe_one (pe_chain op_le_str op_le_str pe_str (pv 1) pe_str)))) pa_nil))))), ?_⟩
    refine s_ret (v := .bl (nameB x)) ?_ k
    refine ev_is (ev_and (a := decide ((1:Int) ≤ x.length) && decide ((x.length : Int) ≤ 6)) (b := (x.cps.toList.map sgnN).all id)
      (ev_chain ev_c (ev_lenS (ev_var rfl) hl) (rv_I0) (fun _ => ev_c) (fun _ => rv_I0))
      (fun hh => ev_all (ev_isL (el_lcS (fun c => .bl (sgnN c)) (ev_var rfl) ?_ fun c H1 e1 hc => ?_) ?_))) ?_
    · simp only [Bool.and_eq_true, decide_eq_true_eq] at hh
      omega
    · exact ev_orV (a := decide (97 ≤ c) && decide (c ≤ 122)) (b := decide (48 ≤ c) && decide (c ≤ 57)) (ev_chain ev_c (ev_var rfl) (rv_leS le_lo) (fun _ => ev_c) (fun _ => rv_leS le_lo)) (fun _ => ev_chain ev_c (ev_var rfl) (rv_leS le_lo) (fun _ => ev_c) (fun _ => rv_leS le_lo))
    · simp
    · have d1 : decide ((1 : Int) ≤ (x.length : Int)) = decide (1 ≤ x.length) := decide_eq_decide.mpr (by omega)
      have d2 : decide ((x.length : Int) ≤ 6) = decide (x.length ≤ 6) := decide_eq_decide.mpr (by omega)
      rw [d1, d2]
      simp [nameB, List.all_map]
/-! ### is_path -/
def spPath : Sp := fun vs H Q _ => ∃ v n, vs = [v] ∧ Kd K H v n ∧ (∀ x, v = .str x → x.length ≤ 100000) ∧ RetV (.bl (isPathV v)) H Q
theorem scPath : FnScope ["value", "names", "name"] ["value"] (defScope sIsPath) := ⟨rfl, rfl, rfl, by decide +kernel, rfl, by decide +kernel, by decide +kernel⟩
theorem ok_path {f : Addr} {fd : FuncData} (F : Fun K "is_path" "is_path" sIsPath f fd) (T : Gv mg) (cN : Cal P w K mg base CX0 1 "is_name" ["word"] spName) : FnOk P w K mg base CX0 2 f fd ["value"] (spPath (K := K)) := by
  refine F.ok scPath (fun vs H Q E h => ?_) (fun cdv A outer s H vs Q E hr h => ?_)
  · obtain ⟨x, n, rfl, _⟩ := h
    rfl
  · obtain ⟨v, n, rfl, kd, hl, k⟩ := h
    obtain ⟨t1, m1⟩ := T.mn
    refine ⟨_, pss_cons (ps_if (pt_not (pt_val (pe_callB call_isi (by rfl) T.isi boot_isinstance (pa_cons (pv 0) (pa_cons (pe_bltn (v := .ty "str") (by rfl) T.str (by decide +kernel) rfl) pa_nil))))) (pss_one (ps_ret pe_bl)) pss_nil)
      (pss_cons (ps_set (i := 1) scPath.nd rfl (Or.inl rfl) (pe_split (pv 0) pe_str))
      (pss_one (ps_ret (pe_and (pe_cmpR op_le (pe_callB call_len_seq (by rfl) T.len PySem.boot_len (pa_cons (pv 1) pa_nil)) (pe_glob (v := .int 3) (by rfl) m1 ⟨_, rfl⟩) (nomark _))
        (pe_one (pe_callB (cr_all rfl) (by rfl) T.all boot_all (pa_cons (pe_lc (own := [("name", 2)]) (g := gName 2) (tt := tYes) rfl scPath.nd (pi_list (pv 1)) (blkOk_by (N := ["value", "names", "name"]) (sc := defScope sIsPath) (by decide +kernel))
          (fun _ _ _ _ _ => pg_name (i := 2) scPath.nd rfl (Or.inl rfl)) (fun _ _ _ _ _ => pts_nil)
          (fun _ _ _ _ _ => pe_call cN.F hr rfl cN.g cN.kp cN.b .nil pass0 (pa_cons (pv 2) pa_nil))) pa_nil))))))), ?_⟩
    refine q_when (et_not (et_B (ev_isi (ev_var rfl) ev_c kd (.inl rfl)))) (fun hb H1 e1 => ?_) (fun hb H1 e1 => ?_)
    · have hn : n ≠ "str" := by simpa using hb
      refine s_ret (v := .bl (isPathV v)) (ev_is ev_c ?_) fun H2 e2 => k H2 (e1.trans e2)
      cases v with
      | str x => exact absurd (kd_strV kd) hn
      | _ => rfl
    · have hn : n = "str" := by simpa using hb
      subst hn
      obtain ⟨x, rfl⟩ := kd_isStr kd
      have hx := hl x rfl
      refine q_asgL (el_split (ev_var rfl) ev_c (by decide) hx) fun p H2 hp e2 h2 => ?_
      refine s_ret (v := .bl (pathB x)) ?_ fun H3 e3 => k H3 ((e1.trans e2).trans e3)
      refine ev_is (ev_and (a := decide (((partsOf x).length : Int) ≤ 3)) (b := ((partsOf x).map nameB).all id)
        (ev_is (ev_op (ev_len (ev_var rfl) (sq_of h2)) ev_c rv_I0) ?_)
        (fun hh => ev_all (ev_isL (el_lcA (fun y => match y with | .str z => .bl (nameB z) | _ => .non) (ev_var rfl) (sq_of h2) ?_ fun y H4 e4 hy => ?_) ?_))) ?_
      · rw [List.length_map]
        rfl
      · have h3 : ((partsOf x).length : Int) ≤ 3 := by simpa using hh
        rw [List.length_map]
        have h4 : (Txt.split x (Str.ofString "/")).length = (partsOf x).length := rfl
        omega
      · obtain ⟨z, hz, rfl⟩ := List.mem_map.mp hy
        have h5 := part_len (x := x) (p := z) hz
        exact ev_call (ea_cons (ev_var rfl) ea_nil) fun H5 e5 Q' q' E' => ⟨z, rfl, by omega, q'⟩
      · simp [partsOf]
      · have d1 : decide (((partsOf x).length : Int) ≤ 3) = decide ((partsOf x).length ≤ 3) := decide_eq_decide.mpr (by omega)
        rw [d1]
        simp [pathB, List.all_map]
/-! ### is_text -/
def spText : Sp := fun vs H Q _ => ∃ v n, vs = [v] ∧ Kd K H v n ∧ (∀ x, v = .str x → x.length ≤ 100000) ∧ RetV (.bl (isTextV v)) H Q
theorem scHas : FnScope ["value", "most", "sign"] ["value", "most"] (defScope sHas) := ⟨rfl, rfl, rfl, by decide +kernel, rfl, by decide +kernel, by decide +kernel⟩
def hasB (m : Nat) (x : Str) : Bool := decide (x.length ≤ m) && x.cps.toList.all sgnT
def hasV (m : Nat) : V → Bool
  | .str x => hasB m x
  | _ => false
def spHas : Sp := fun vs H Q _ => ∃ v n, ∃ m : Nat, vs = [v, .int (m : Int)] ∧ m ≤ 40000 ∧ Kd K H v n ∧ (∀ x, v = .str x → x.length ≤ 100000) ∧ RetV (.bl (hasV m v)) H Q
theorem ok_has {f : Addr} {fd : FuncData} (F : Fun K "has_signs" "has_signs" sHas f fd) (T : Gv mg) : FnOk P w K mg base CX0 1 f fd ["value", "most"] (spHas (K := K)) := by
  refine F.ok scHas (fun vs H Q E h => ?_) (fun cdv A outer s H vs Q E hr h => ?_)
  · obtain ⟨x, n, m, rfl, _⟩ := h
    rfl
  · obtain ⟨v, n, m, rfl, hm, kd, hl, k⟩ := h
    refine ⟨_, pss_cons (ps_if (pw_or (pt_not (pt_val (pe_callB call_isi (by rfl) T.isi boot_isinstance (pa_cons (pv 0) (pa_cons (pe_bltn (v := .ty "str") (by rfl) T.str (by decide +kernel) rfl) pa_nil)))))
        (pw_or1 (pt_cmpR op_gt (pe_callB call_len_str (by rfl) T.len PySem.boot_len (pa_cons (pv 0) pa_nil)) (pv 1) (nomark _)))).pt (pss_one (ps_ret pe_bl)) pss_nil)
      (pss_one (ps_ret (pe_callB (cr_all rfl) (by rfl) T.all boot_all (pa_cons (pe_lc (own := [("sign", 2)]) (g := gName 2) (tt := tYes) rfl scHas.nd (pi_str (pv 0)) (blkOk_by (N := ["value", "most", "sign"]) (sc := defScope sHas) (by decide +kernel))
          (fun _ _ _ _ _ => pg_name (i := 2) scHas.nd rfl (Or.inl rfl)) (fun _ _ _ _ _ => pts_nil)
          (fun _ _ _ _ _ => pe_or (pe_chain op_le_str op_le_str pe_str (pv 2) pe_str) (pe_one (pe_cmpR op_eq (pv 2) pe_str (nomark _))))) pa_nil)))), ?_⟩
    refine q_when (b := !(decide (n = "str")) || (match v with | .str x => decide ((m : Int) < x.length) | _ => false)) (et_or (et_not (et_B (ev_isi (ev_var rfl) ev_c kd (.inl rfl)))) fun hb => ?_) (fun hb H1 e1 => ?_) (fun hb H1 e1 => ?_)
    · have hn : n = "str" := by simpa using hb
      subst hn
      obtain ⟨x, rfl⟩ := kd_isStr kd
      exact et_test (ev_op (ev_lenS (ev_var rfl) (hl x rfl)) (ev_var rfl) rv_I0)
    · refine s_ret (v := .bl (hasV m v)) (ev_is ev_c ?_) fun H2 e2 => k H2 (e1.trans e2)
      cases v with
      | str x =>
        have hn := kd_strV kd
        subst hn
        have h6 : (m : Int) < x.length := by simpa using hb
        have h7 : hasB m x = false := by
          simp only [hasB, Bool.and_eq_false_iff, decide_eq_false_iff_not]
          left
          omega
        show _ = V.bl (hasB m x)
        rw [h7]
      | _ => rfl
    · have hb' := hb
      simp only [Bool.or_eq_false_iff] at hb'
      have hn : n = "str" := by simpa using hb'.1
      subst hn
      obtain ⟨x, rfl⟩ := kd_isStr kd
      have h6 : (x.length : Int) ≤ m := by simpa using hb'.2
      refine s_ret (v := .bl (hasB m x)) ?_ fun H2 e2 => k H2 (e1.trans e2)
      refine ev_is (ev_all (bs := x.cps.toList.map sgnT) (ev_isL (el_lcS (fun c => .bl (sgnT c)) (ev_var rfl) (by omega) fun c H1 e1 hc => ?_) ?_)) ?_
      · exact ev_orV (a := decide (32 ≤ c) && decide (c ≤ 126)) (b := decide (c = 10)) (ev_chain ev_c (ev_var rfl) (rv_leS le_lo) (fun _ => ev_c) (fun _ => rv_leS le_lo)) (fun _ => ev_is (ev_op (ev_var rfl) ev_c (rv_eq rfl)) (by
          congr 1
          rw [Bool.eq_iff_iff, decide_eq_true_eq, decide_eq_true_eq]
          constructor
          · intro h
            injection h with h
            have h8 : ([c] : List Nat) = [10] := congrArg (fun z : Str => z.cps.toList) h
            simpa using h8
          · rintro rfl
            rfl))
      · simp
      · simp [hasB, List.all_map]
        intro _
        omega
theorem scText : FnScope ["value"] ["value"] (defScope sIsText) := ⟨rfl, rfl, rfl, by decide +kernel, rfl, by decide +kernel, by decide +kernel⟩
theorem ok_text {f : Addr} {fd : FuncData} (F : Fun K "is_text" "is_text" sIsText f fd) (T : Gv mg) (cH : Cal P w K mg base CX0 1 "has_signs" ["value", "most"] (spHas (K := K))) : FnOk P w K mg base CX0 2 f fd ["value"] (spText (K := K)) := by
  refine F.ok scText (fun vs H Q E h => ?_) (fun cdv A outer s H vs Q E hr h => ?_)
  · obtain ⟨x, n, rfl, _⟩ := h
    rfl
  · obtain ⟨v, n, rfl, kd, hl, k⟩ := h
    obtain ⟨t1, m1⟩ := T.lt
    refine ⟨_, pss_one (ps_ret (pe_call cH.F hr (by rfl) cH.g cH.kp cH.b .nil pass0 (pa_cons (pv 0) (pa_cons (pe_glob (v := .int 200) (by rfl) m1 ⟨_, rfl⟩) pa_nil)))), ?_⟩
    refine s_ret (v := .bl (isTextV v)) (ev_call (ea_cons (ev_var rfl) (ea_cons ev_c ea_nil)) fun H1 e Q q E => ⟨v, n, 200, rfl, by decide, kd.mono e, hl, ?_⟩) k
    have z : hasV 200 v = isTextV v := by cases v <;> rfl
    rw [z]
    exact q
/-! ### is_folder -/
theorem scFolder : FnScope ["value"] ["value"] (defScope sIsFolder) := ⟨rfl, rfl, rfl, by decide +kernel, rfl, by decide +kernel, by decide +kernel⟩
/-! ### lies_within -/
def spLies : Sp := fun vs H Q _ => ∃ p f : Str, vs = [.str p, .str f] ∧ f.length ≤ 100000 ∧ RetV (.bl (within p f)) H Q
theorem scLies : FnScope ["path", "folder"] ["path", "folder"] (defScope sLies) := ⟨rfl, rfl, rfl, by decide +kernel, rfl, by decide +kernel, by decide +kernel⟩
theorem ok_lies {f : Addr} {fd : FuncData} (F : Fun K "lies_within" "lies_within" sLies f fd) : FnOk P w K mg base CX0 1 f fd ["path", "folder"] spLies := by
  refine F.ok scLies (fun vs H Q E h => ?_) (fun cdv A outer s H vs Q E hr h => ?_)
  · obtain ⟨x, n, rfl, _⟩ := h
    rfl
  · obtain ⟨p, fo, rfl, hl, k⟩ := h
    refine ⟨_, pss_one (ps_ret (pe_or (pe_cmpR op_eq (pv 1) pe_str (nomark _)) (pe_one (pe_m1 PySem.F.slot_str_startswith PySem.F.type_str_startswith mt_startswith (pv 0) (pe_op op_add_str (pv 1) pe_str))))), ?_⟩
    refine s_ret (v := .bl (within p fo)) ?_ k
    refine ev_is (ev_orV (a := decide (V.str fo = V.str (Str.ofString ""))) (b := Txt.startswith p (fo ++ Str.ofString "/")) (ev_op (ev_var rfl) ev_c (rv_eq rfl)) (fun _ =>
      fun H1 e1 Q q => ⟨_, rfl, ⟨p, rfl⟩, ev_op (r := fun x y H Q => ∃ i j, x = .str i ∧ y = .str j ∧ i.length + j.length ≤ sizeLine ∧ Q (.str (i ++ j)) H) (ev_var (v := .str fo) rfl) (ev_c (v := .str (Str.ofString "/"))) (z := .str (fo ++ Str.ofString "/"))
        (fun H2 e2 Q2 q2 => ⟨fo, _, rfl, rfl, Nat.le_trans (Nat.add_le_add_right hl 1) (by rw [sizeLine_eq]; decide), q2 H2 (Ex.refl _)⟩) H1 e1 _ fun H2 e2 => ⟨p, _, rfl, rfl, q H2 e2⟩⟩)) ?_
    simp [within]
/-! ### in_the_way -/
def way (p q : Str) : Bool := decide (p = q) || (within p q || within q p)
def spWay : Sp := fun vs H Q _ => ∃ p q : Str, vs = [.str p, .str q] ∧ p.length ≤ 100000 ∧ q.length ≤ 100000 ∧ RetV (.bl (way p q)) H Q
theorem scWay : FnScope ["one", "other"] ["one", "other"] (defScope sWay) := ⟨rfl, rfl, rfl, by decide +kernel, rfl, by decide +kernel, by decide +kernel⟩
theorem ok_way {f : Addr} {fd : FuncData} (F : Fun K "in_the_way" "in_the_way" sWay f fd) (cL : Cal P w K mg base CX0 1 "lies_within" ["path", "folder"] spLies) : FnOk P w K mg base CX0 2 f fd ["one", "other"] spWay := by
  refine F.ok scWay (fun vs H Q E h => ?_) (fun cdv A outer s H vs Q E hr h => ?_)
  · obtain ⟨x, n, rfl, _⟩ := h
    rfl
  · obtain ⟨p, q, rfl, hp, hq, k⟩ := h
    refine ⟨_, pss_one (ps_ret (pe_or (pe_cmpR op_eq (pv 0) (pv 1) (nomark _)) (pe_or (pe_call cL.F hr (by rfl) cL.g cL.kp cL.b .nil pass0 (pa_cons (pv 0) (pa_cons (pv 1) pa_nil)))
      (pe_one (pe_call cL.F hr (by rfl) cL.g cL.kp cL.b .nil pass0 (pa_cons (pv 1) (pa_cons (pv 0) pa_nil))))))), ?_⟩
    refine s_ret (v := .bl (way p q)) ?_ k
    refine ev_is (ev_orV (a := decide (V.str p = V.str q)) (b := within p q || within q p) (ev_op (ev_var rfl) (ev_var rfl) (rv_eq rfl)) (fun _ =>
      ev_orV (ev_call (ea_cons (ev_var rfl) (ea_cons (ev_var rfl) ea_nil)) fun H5 e5 Q' q' E' => ⟨p, q, rfl, hq, q'⟩) (fun _ => ev_call (ea_cons (ev_var rfl) (ea_cons (ev_var rfl) ea_nil)) fun H5 e5 Q' q' E' => ⟨q, p, rfl, hp, q'⟩))) ?_
    simp [way]
end
/-- a small value of any kind -/
inductive Sm (H : Hp) : V → Prop
  | non : Sm H .non
  | bl (b : Bool) : Sm H (.bl b)
  | int (i : Int) : Sm H (.int i)
  | str (x : Str) (h : x.length ≤ 1000) : Sm H (.str x)
  | l1 {a : Addr} (h : H a = some (.lst [.str (Str.ofString "a")])) : Sm H (.ref a)
  | t1 {a : Addr} (h : H a = some (.tup [.str (Str.ofString "a")])) : Sm H (.ref a)
  | d0 {a : Addr} (h : H a = some (.dK [])) : Sm H (.ref a)
section
variable {H H' : Hp} {K : PySem.W.Frag} {v : V}
theorem Sm.mono (e : Ex H H') (h : Sm H v) : Sm H' v := by
  cases h with
  | non => exact .non
  | bl b => exact .bl b
  | int i => exact .int i
  | str x h => exact .str x h
  | l1 h => exact .l1 (e _ _ h)
  | t1 h => exact .t1 (e _ _ h)
  | d0 h => exact .d0 (e _ _ h)
theorem Sm.kd (h : Sm H v) : ∃ n, Kd K H v n := by
  cases h with
  | non => exact ⟨_, kd_non⟩
  | bl b => exact ⟨_, kd_bl b⟩
  | int i => exact ⟨_, kd_int i⟩
  | str x h => exact ⟨_, kd_str x⟩
  | l1 h => exact ⟨_, kd_lst h⟩
  | t1 h => exact ⟨_, kd_tup h⟩
  | d0 h => exact ⟨_, kd_dK h⟩
theorem Sm.len {x : Str} (h : Sm H (.str x)) : x.length ≤ 1000 := by
  cases h with
  | str _ h => exact h
/-- v == "z", v != "z" for small values -/
theorem sh_a : SeqAt.shaped (.tuple [.str (Str.ofString "a")]) = true := by decide +kernel
theorem sh_l : SeqAt.shaped (.list [.str (Str.ofString "a")]) = true := by decide +kernel
def rEqSm (K : PySem.W.Frag) : R2 := fun x y H Q => rEq x y H Q ∨ (rEqD K x y H Q ∨ rDS false x y H Q)
def rNeSm (K : PySem.W.Frag) : R2 := fun x y H Q => rNe x y H Q ∨ (rNeD K x y H Q ∨ rDS true x y H Q)
theorem op_eqSm {X : Cx} (hu : X.A.units + 64 < cLine) : OpR X (compareOp .Eq) (rEqSm X.K) := op_or op_eq (op_or (op_eqD hu) (op_eq_ds (by omega)))
theorem op_neSm {X : Cx} (hu : X.A.units + 64 < cLine) : OpR X (compareOp .NotEq) (rNeSm X.K) := op_or op_ne (op_or (op_neD hu) (op_ne_ds (by omega)))
theorem rv_eqSm {z : Str} (h : Sm H v) (hz : SeqAt.shaped (.str z) = true) : RV (rEqSm K) v (.str z) H (.bl (decide (v = .str z))) := fun H1 e Q q => by
  have g := h.mono e
  have q1 := q H1 (Ex.refl _)
  cases g with
  | non => exact .inl ⟨rfl, q1⟩
  | bl b => exact .inl ⟨rfl, q1⟩
  | int i => exact .inl ⟨rfl, q1⟩
  | str x h => exact .inl ⟨rfl, q1⟩
  | l1 g1 => exact .inr (.inl ⟨_, _, .lst (SqL.of g1) (.cons (.str _) .nil), .str z, sh_l, hz, by simpa [PyData.eqv] using q1⟩)
  | t1 g1 => exact .inr (.inl ⟨_, _, .tup (SqT.of g1) (.cons (.str _) .nil), .str z, sh_a, hz, by simpa [PyData.eqv] using q1⟩)
  | d0 g1 => exact .inr (.inr ⟨_, _, _, rfl, rfl, g1, by simpa using q1⟩)
theorem rv_neSm {z : Str} (h : Sm H v) (hz : SeqAt.shaped (.str z) = true) : RV (rNeSm K) v (.str z) H (.bl (!decide (v = .str z))) := fun H1 e Q q => by
  have g := h.mono e
  have q1 := q H1 (Ex.refl _)
  cases g with
  | non => exact .inl ⟨rfl, q1⟩
  | bl b => exact .inl ⟨rfl, q1⟩
  | int i => exact .inl ⟨rfl, q1⟩
  | str x h => exact .inl ⟨rfl, q1⟩
  | l1 g1 => exact .inr (.inl ⟨_, _, .lst (SqL.of g1) (.cons (.str _) .nil), .str z, sh_l, hz, by simpa [PyData.eqv] using q1⟩)
  | t1 g1 => exact .inr (.inl ⟨_, _, .tup (SqT.of g1) (.cons (.str _) .nil), .str z, sh_a, hz, by simpa [PyData.eqv] using q1⟩)
  | d0 g1 => exact .inr (.inr ⟨_, _, _, rfl, rfl, g1, by simpa using q1⟩)
end
section
variable {P : Program} {w : World} {K : PySem.W.Frag} {mg : Str → Option Value} {base : Heap}
theorem spv_path {v : V} {H : Hp} (h : Sm H v) : SpV (spPath (K := K)) [v] H (.bl (isPathV v)) := fun H1 e Q q E => by
  obtain ⟨n, kd⟩ := (h.mono e).kd (K := K)
  exact ⟨v, n, rfl, kd, fun x hx => by subst hx; exact Nat.le_trans h.len (by decide), q⟩
theorem spv_text {v : V} {H : Hp} (h : Sm H v) : SpV (spText (K := K)) [v] H (.bl (isTextV v)) := fun H1 e Q q E => by
  obtain ⟨n, kd⟩ := (h.mono e).kd (K := K)
  exact ⟨v, n, rfl, kd, fun x hx => by subst hx; exact Nat.le_trans h.len (by decide), q⟩
/-! ### is_folder -/
def spFolder : Sp := fun vs H Q _ => ∃ v, vs = [v] ∧ Sm H v ∧ RetV (.bl (isFolderV v)) H Q
theorem ok_folder {f : Addr} {fd : FuncData} (F : Fun K "is_folder" "is_folder" sIsFolder f fd) (cP : Cal P w K mg base CX0 2 "is_path" ["value"] (spPath (K := K))) : FnOk P w K mg base CX0 3 f fd ["value"] spFolder := by
  refine F.ok scFolder (fun vs H Q E h => ?_) (fun cdv A outer s H vs Q E hr h => ?_)
  · obtain ⟨x, rfl, _⟩ := h
    rfl
  · obtain ⟨v, rfl, sm, k⟩ := h
    have hu : (A.deeper (envOfC "is_folder" (defScope sIsFolder) s.heap.objs.size f cdv)).units + 64 < cLine := by have := hr.un; omega
    refine ⟨_, pss_one (ps_ret (pe_or (pe_call cP.F hr (by rfl) cP.g cP.kp cP.b .nil pass0 (pa_cons (pv 0) pa_nil)) (pe_one (pe_cmpR (op_eqSm hu) (pv 0) pe_str (nomark _))))), ?_⟩
    refine s_ret (v := .bl (isFolderV v)) ?_ k
    refine ev_is (ev_orV (a := isPathV v) (b := decide (v = .str (Str.ofString ""))) (ev_call (ea_cons (ev_var rfl) ea_nil) (spv_path sm)) (fun _ => ev_op (ev_var rfl) ev_c (rv_eqSm sm (by decide +kernel)))) ?_
    cases v <;> simp [isPathV, isFolderV]
theorem ev_lenT {σ : L2.St} {H : Hp} {ta : TE} {p : Addr} {xs : List V} (ha : Ev ta σ H (.ref p)) (h : SqT K H p xs) : Ev (tCB (rLenS K) (tCons ta tNil)) σ H (.int (xs.length : Int)) := fun H1 e Q q =>
  ha H1 e _ fun H2 e2 => ⟨p, xs, rfl, Or.inr (ex_t (e.trans e2) h), q H2 e2⟩
end
end Bp
namespace Bp
open PySem PySem.Spec PyProof.Rows L2 Bk Bm Evl Be Cr
abbrev sIsWord : Stmt := top 22
abbrev sFits : Stmt := top 23
/-- a thing behind a rule's kind: no tuple, or a tuple of small values -/
inductive Th (K : PySem.W.Frag) (H : Hp) : V → Option (List V) → Prop
  | sm {v : V} {n : String} (h : Sm H v) (k : Kd K H v n) (hn : n ≠ "tuple") : Th K H v none
  | tu {a : Addr} {xs : List V} (h : H a = some (.tup xs)) (hx : ∀ x ∈ xs, Sm H x) (hl : xs.length ≤ 1000) : Th K H (.ref a) (some xs)
section
variable {K : PySem.W.Frag} {H H' : Hp} {v : V} {o : Option (List V)}
theorem Th.mono (e : Ex H H') (h : Th K H v o) : Th K H' v o := by
  cases h with
  | sm h k hn => exact .sm (h.mono e) (k.mono e) hn
  | tu h hx hl => exact .tu (e _ _ h) (fun x hh => (hx x hh).mono e) hl
theorem Th.kd (h : Th K H v o) : ∃ n, Kd K H v n ∧ ∀ x, v = .str x → x.length ≤ 1000 := by
  cases h with
  | sm h k hn => exact ⟨_, k, fun x z => by subst z; exact h.len⟩
  | tu h hx hl => exact ⟨_, kd_tup h, fun x z => by cases z⟩
/-- every small value is such a thing -/
theorem th_of (h : Sm H v) : ∃ o, Th K H v o ∧ (isPathV v = false → ∀ xs, o = some xs → xs = [.str (Str.ofString "a")]) := by
  cases h with
  | non => exact ⟨_, .sm .non kd_non (by decide), fun _ _ z => by cases z⟩
  | bl b => exact ⟨_, .sm (.bl b) (kd_bl b) (by decide), fun _ _ z => by cases z⟩
  | int i => exact ⟨_, .sm (.int i) (kd_int i) (by decide), fun _ _ z => by cases z⟩
  | str x h => exact ⟨_, .sm (.str x h) (kd_str x) (by decide), fun _ _ z => by cases z⟩
  | l1 h => exact ⟨_, .sm (.l1 h) (kd_lst h) (by decide), fun _ _ z => by cases z⟩
  | t1 h => exact ⟨_, .tu h (fun x hx => by rw [List.mem_singleton.mp hx]; exact .str _ (by decide)) (by decide), fun _ _ z => by cases z; rfl⟩
  | d0 h => exact ⟨_, .sm (.d0 h) (kd_dK h) (by decide), fun _ _ z => by cases z⟩
end
def wordB (x : Str) : Bool := textB x && ((decide (1 ≤ x.length) && decide (x.length ≤ 8)) && !decide (10 ∈ x.cps.toList))
def isWordV : V → Bool
  | .str x => wordB x
  | _ => false
def fitsV (f : Str) (v : V) (o : Option (List V)) : Bool :=
  if f = Str.ofString "path" then isPathV v else if f = Str.ofString "word" then isWordV v else if f = Str.ofString "folder" then isFolderV v
  else match o with
    | some xs => decide (xs.length ≤ 4) && xs.all isPathV
    | none => false
section
variable {P : Program} {w : World} {K : PySem.W.Frag} {mg : Str → Option Value} {base : Heap}
theorem scWord : FnScope ["value"] ["value"] (defScope sIsWord) := ⟨rfl, rfl, rfl, by decide +kernel, rfl, by decide +kernel, by decide +kernel⟩
def spWord : Sp := fun vs H Q _ => ∃ v o, vs = [v] ∧ Th K H v o ∧ RetV (.bl (isWordV v)) H Q
theorem spv_textT {v : V} {o : Option (List V)} {H : Hp} (h : Th K H v o) : SpV (spText (K := K)) [v] H (.bl (isTextV v)) := fun H1 e Q q E => by
  obtain ⟨n, kd, hl⟩ := (h.mono e).kd (K := K)
  exact ⟨v, n, rfl, kd, fun x hx => Nat.le_trans (hl x hx) (by decide), q⟩
theorem spv_pathT {v : V} {o : Option (List V)} {H : Hp} (h : Th K H v o) : SpV (spPath (K := K)) [v] H (.bl (isPathV v)) := fun H1 e Q q E => by
  obtain ⟨n, kd, hl⟩ := (h.mono e).kd (K := K)
  exact ⟨v, n, rfl, kd, fun x hx => Nat.le_trans (hl x hx) (by decide), q⟩
theorem ok_word {f : Addr} {fd : FuncData} (F : Fun K "is_word" "is_word" sIsWord f fd) (T : Gv mg) (cT : Cal P w K mg base CX0 2 "is_text" ["value"] (spText (K := K))) : FnOk P w K mg base CX0 3 f fd ["value"] (spWord (K := K)) := by
  refine F.ok scWord (fun vs H Q E h => ?_) (fun cdv A outer s H vs Q E hr h => ?_)
  · obtain ⟨x, n, rfl, _⟩ := h
    rfl
  · obtain ⟨v, o, rfl, th, k⟩ := h
    obtain ⟨t1, m1⟩ := T.lw
    refine ⟨_, pss_one (ps_ret (pe_and (pe_call cT.F hr (by rfl) cT.g cT.kp cT.b .nil pass0 (pa_cons (pv 0) pa_nil))
      (pe_and (pe_chain op_le op_le pe_int (pe_callB call_len_str (by rfl) T.len PySem.boot_len (pa_cons (pv 0) pa_nil)) (pe_glob (v := .int 8) (by rfl) m1 ⟨_, rfl⟩))
      (pe_one (pe_cmpR op_notIn_sign pe_str (pv 0) (by rfl)))))), ?_⟩
    refine s_ret (v := .bl (isWordV v)) ?_ k
    have fin : isTextV v = true → ∃ x, v = .str x ∧ x.length ≤ 1000 := by
      intro hv
      obtain ⟨n, _, hl⟩ := th.kd
      cases v with
      | str x => exact ⟨x, rfl, hl x rfl⟩
      | _ => cases hv
    refine ev_is (ev_and (a := isTextV v) (b := match v with | .str x => ((decide ((1:Int) ≤ x.length) && decide ((x.length : Int) ≤ 8)) && !decide (10 ∈ x.cps.toList)) | _ => false) (ev_call (ea_cons (ev_var rfl) ea_nil) (spv_textT th)) fun hb => ?_) ?_
    · obtain ⟨x, rfl, hl⟩ := fin hb
      refine ev_and (ev_chain ev_c (ev_lenS (ev_var rfl) (by omega)) rv_I0 (fun _ => ev_c) (fun _ => rv_I0)) fun _ => ?_
      exact ev_op (ev_c (v := .str ⟨#[10]⟩)) (ev_var rfl) fun H1 e Q q => ⟨10, x, rfl, rfl, q H1 (Ex.refl _)⟩
    · cases v with
      | str x =>
        have d1 : decide ((1 : Int) ≤ (x.length : Int)) = decide (1 ≤ x.length) := decide_eq_decide.mpr (by omega)
        have d2 : decide ((x.length : Int) ≤ 8) = decide (x.length ≤ 8) := decide_eq_decide.mpr (by omega)
        show V.bl (textB x && _) = V.bl (wordB x)
        dsimp only
        rw [d1, d2]
        rfl
      | _ => rfl
/-! ### fits -/
theorem scFits : FnScope ["form", "value", "thing"] ["form", "value"] (defScope sFits) := ⟨rfl, rfl, rfl, by decide +kernel, rfl, by decide +kernel, by decide +kernel⟩
def spFits : Sp := fun vs H Q _ => ∃ f v o, vs = [.str f, v] ∧ Th K H v o ∧ (f = Str.ofString "folder" → Sm H v) ∧ RetV (.bl (fitsV f v o)) H Q
theorem strEq {a b : Str} : decide (V.str a = V.str b) = decide (a = b) := decide_eq_decide.mpr ⟨fun h => by injection h, fun h => by rw [h]⟩
theorem ok_fits {f : Addr} {fd : FuncData} (F : Fun K "fits" "fits" sFits f fd) (T : Gv mg) (cP : Cal P w K mg base CX0 2 "is_path" ["value"] (spPath (K := K))) (cW : Cal P w K mg base CX0 3 "is_word" ["value"] (spWord (K := K)))
    (cF : Cal P w K mg base CX0 3 "is_folder" ["value"] spFolder) : FnOk P w K mg base CX0 4 f fd ["form", "value"] (spFits (K := K)) := by
  refine F.ok scFits (fun vs H Q E h => ?_) (fun cdv A outer s H vs Q E hr h => ?_)
  · obtain ⟨x, v, o, rfl, _⟩ := h
    rfl
  · obtain ⟨fo, v, o, rfl, th, hfo, k⟩ := h
    obtain ⟨t1, m1⟩ := T.mj
    have hr2 : Room 2 _ := hr.mono (by decide)
    refine ⟨_, pss_cons (ps_if (pt_cmpR op_eq (pv 0) pe_str (nomark _)) (pss_one (ps_ret (pe_call cP.F hr2 (by rfl) cP.g cP.kp cP.b .nil pass0 (pa_cons (pv 1) pa_nil)))) pss_nil)
      (pss_cons (ps_if (pt_cmpR op_eq (pv 0) pe_str (nomark _)) (pss_one (ps_ret (pe_call cW.F hr (by rfl) cW.g cW.kp cW.b .nil pass0 (pa_cons (pv 1) pa_nil)))) pss_nil)
      (pss_cons (ps_if (pt_cmpR op_eq (pv 0) pe_str (nomark _)) (pss_one (ps_ret (pe_call cF.F hr (by rfl) cF.g cF.kp cF.b .nil pass0 (pa_cons (pv 1) pa_nil)))) pss_nil)
      (pss_one (ps_ret (pe_and (pe_callB call_isi (by rfl) T.isi boot_isinstance (pa_cons (pv 1) (pa_cons (pe_bltn (v := .ty "tuple") (by rfl) T.tup (by decide +kernel) rfl) pa_nil)))
        (pe_and (pe_cmpR op_le (pe_callB call_len_seq (by rfl) T.len PySem.boot_len (pa_cons (pv 1) pa_nil)) (pe_glob (v := .int 4) (by rfl) m1 ⟨_, rfl⟩) (nomark _))
        (pe_one (pe_callB (cr_all rfl) (by rfl) T.all boot_all (pa_cons (pe_lc (own := [("thing", 2)]) (g := gName 2) (tt := tYes) rfl scFits.nd (pi_tup (pv 1)) (blkOk_by (N := ["form", "value", "thing"]) (sc := defScope sFits) (by decide +kernel))
          (fun _ _ _ _ _ => pg_name (i := 2) scFits.nd rfl (Or.inl rfl)) (fun _ _ _ _ _ => pts_nil)
          (fun _ _ _ _ _ => pe_call cP.F hr2 rfl cP.g cP.kp cP.b .nil pass0 (pa_cons (pv 2) pa_nil))) pa_nil))))))))), ?_⟩
    refine q_when (b := decide (fo = Str.ofString "path")) (et_is (et_test (ev_op (ev_var rfl) ev_c (rv_eq rfl))) strEq) (fun hb H1 e1 => ?_) (fun hb H1 e1 => ?_)
    · refine s_ret (v := .bl (fitsV fo v o)) (ev_is (ev_call (ea_cons (ev_var rfl) ea_nil) (spv_pathT (th.mono e1))) ?_) fun H2 e2 => k H2 (e1.trans e2)
      unfold fitsV
      rw [if_pos (by simpa using hb)]
    have n1 : ¬ fo = Str.ofString "path" := by simpa using hb
    clear hb
    refine q_when (b := decide (fo = Str.ofString "word")) (et_is (et_test (ev_op (ev_var rfl) ev_c (rv_eq rfl))) strEq) (fun hb H2 e2 => ?_) (fun hb H2 e2 => ?_)
    · refine s_ret (v := .bl (fitsV fo v o)) (ev_is (ev_call (z := .bl (isWordV v)) (ea_cons (ev_var rfl) ea_nil) fun H3 e3 Q' q' E' => ⟨v, o, rfl, th.mono ((e1.trans e2).trans e3), q'⟩) ?_) fun H3 e3 => k H3 ((e1.trans e2).trans e3)
      unfold fitsV
      rw [if_neg n1, if_pos (by simpa using hb)]
    have n2 : ¬ fo = Str.ofString "word" := by simpa using hb
    clear hb
    refine q_when (b := decide (fo = Str.ofString "folder")) (et_is (et_test (ev_op (ev_var rfl) ev_c (rv_eq rfl))) strEq) (fun hb H3 e3 => ?_) (fun hb H3 e3 => ?_)
    · have sm := hfo (by simpa using hb)
      refine s_ret (v := .bl (fitsV fo v o)) (ev_is (ev_call (z := .bl (isFolderV v)) (ea_cons (ev_var rfl) ea_nil) fun H4 e4 Q' q' E' => ⟨v, rfl, sm.mono (((e1.trans e2).trans e3).trans e4), q'⟩) ?_) fun H4 e4 => k H4 (((e1.trans e2).trans e3).trans e4)
      unfold fitsV
      rw [if_neg n1, if_neg n2, if_pos (by simpa using hb)]
    have n3 : ¬ fo = Str.ofString "folder" := by simpa using hb
    clear hb
    have eG := (e1.trans e2).trans e3
    refine s_ret (v := .bl (fitsV fo v o)) ?_ fun H4 e4 => k H4 (eG.trans e4)
    unfold fitsV
    rw [if_neg n1, if_neg n2, if_neg n3]
    cases th with
    | sm sm kd hn =>
      have e : decide (_ = "tuple") = false := decide_eq_false hn
      exact ev_is (ev_and (b := false) (ev_isi (ev_var rfl) ev_c (kd.mono eG) (.inr rfl)) (fun h => by rw [e] at h; cases h)) (by rw [e]; rfl)
    | @tu a xs h hx hl =>
      refine ev_is (ev_and (a := true) (b := decide ((xs.length : Int) ≤ 4) && (xs.map isPathV).all id) (ev_is (ev_isi (ev_var rfl) ev_c (kd_tup (eG _ _ h)) (.inr rfl)) rfl) fun _ => ?_) ?_
      · refine ev_and (ev_op (ev_lenT (ev_var rfl) (st_of (eG _ _ h))) ev_c rv_I0) fun _ => ev_all (ev_isL (el_lcT (fun y => .bl (isPathV y)) (ev_var rfl) (st_of (eG _ _ h)) (by omega) fun y H4 e4 hy => ?_) ?_)
        · exact ev_call (ea_cons (ev_var rfl) ea_nil) (spv_path ((hx y hy).mono (eG.trans e4)))
        · simp
      · have d1 : decide ((xs.length : Int) ≤ 4) = decide (xs.length ≤ 4) := decide_eq_decide.mpr (by omega)
        rw [d1]
        simp [List.all_map]
end
end Bp
namespace Bp
open PySem PySem.Spec PyProof.Rows L2 Bk Bm Evl Be Cr
abbrev sIsRule : Stmt := top 24
def forms : List (Str × List Str) := [(Str.ofString "join", [Str.ofString "paths"]), (Str.ofString "size", [Str.ofString "path"]), (Str.ofString "sort", [Str.ofString "path"]), (Str.ofString "pick", [Str.ofString "path", Str.ofString "word"]),
  (Str.ofString "names", [Str.ofString "folder"]), (Str.ofString "use", [Str.ofString "path"]), (Str.ofString "choose", [Str.ofString "path", Str.ofString "path", Str.ofString "path"]), (Str.ofString "need", [Str.ofString "path", Str.ofString "word"])]
def formOf (z : Str) : Option (List Str) := (forms.find? fun p => decide (p.1 = z)).map (·.2)
/-- the kinds that are asked for -/
def kinds9 : List Str := Str.ofString "Size" :: forms.map (·.1)
/-- the module's dict of forms -/
structure Fms (K : PySem.W.Frag) (w : World) (mg : Str → Option Value) (D : Addr) (es : Array DictEntry) (n : Nat) : Prop where
  g : mg "FORMS" = some (.ref D)
  d : KDict K w D es n
  at_ : ∀ z ∈ kinds9, match formOf z with
    | some fs => ∃ t, PySem.W.nsIn K D z = some (some (.ref t)) ∧ ∀ H, SqT K H t (fs.map V.str)
    | none => PySem.W.nsIn K D z = some none
/-- what is_rule says of a thing -/
def ruleB (x0 x1 : V) (rest : List V) (os : List (Option (List V))) : Bool := isPathV x0 && match x1 with
  | .str z => (match formOf z with
    | some fs => decide (rest.length = fs.length) && (fs.zip (rest.zip os)).all fun p => fitsV p.1 p.2.1 p.2.2
    | none => false)
  | _ => false
inductive Ru (K : PySem.W.Frag) (H : Hp) : V → Bool → Prop
  | no {v : V} {n : String} (k : Kd K H v n) (h : n ≠ "tuple") : Ru K H v false
  | short {a : Addr} {xs : List V} (h : H a = some (.tup xs)) (hl : xs.length < 2) : Ru K H (.ref a) false
  | long {a : Addr} {x0 x1 : V} {rest : List V} {os : List (Option (List V))} (h : H a = some (.tup (x0 :: x1 :: rest))) (h0 : Sm H x0) (h1 : Sm H x1) (hk : ∀ z, x1 = .str z → z ∈ kinds9)
      (hr : Paired (Th K H) rest os) (hl : rest.length ≤ 100) (hf : x1 = .str (Str.ofString "names") → ∀ x ∈ rest, Sm H x) : Ru K H (.ref a) (ruleB x0 x1 rest os)
theorem pr_mono {α β : Type} {F G : α → β → Prop} {l : List α} {m : List β} (h : Paired F l m) (f : ∀ a b, F a b → G a b) : Paired G l m := by
  induction h with
  | nil => exact .nil
  | cons r _ ih => exact .cons (f _ _ r) ih
theorem pr_len {α β : Type} {F : α → β → Prop} {l : List α} {m : List β} (h : Paired F l m) : l.length = m.length := by
  induction h with
  | nil => rfl
  | cons r _ ih => simp [ih]
theorem pr_get {α β : Type} {F : α → β → Prop} {l : List α} {m : List β} (h : Paired F l m) : ∀ {i : Nat} {x : α}, l[i]? = some x → ∃ y, m[i]? = some y ∧ F x y := by
  induction h with
  | nil => intro i x e; simp at e
  | cons r _ ih =>
    intro i x e
    cases i with
    | zero =>
      have e' := Option.some.inj e
      subst e'
      exact ⟨_, rfl, r⟩
    | succ i => exact ih (i := i) e
theorem pr_app {α β : Type} {F : α → β → Prop} {l l' : List α} {m m' : List β} (h : Paired F l m) (h' : Paired F l' m') : Paired F (l ++ l') (m ++ m') := by
  induction h with
  | nil => exact h'
  | cons r _ ih => exact .cons r ih
theorem pr_take {α β : Type} {F : α → β → Prop} {l : List α} {m : List β} (h : Paired F l m) : ∀ n, Paired F (l.take n) (m.take n) := by
  induction h with
  | nil => intro n; simp; exact .nil
  | cons r _ ih =>
    intro n
    cases n with
    | zero => exact .nil
    | succ n => exact .cons r (ih n)
theorem pr_drop {α β : Type} {F : α → β → Prop} {l : List α} {m : List β} (h : Paired F l m) : ∀ n, Paired F (l.drop n) (m.drop n) := by
  induction h with
  | nil => intro n; simp; exact .nil
  | cons r h ih =>
    intro n
    cases n with
    | zero => exact .cons r h
    | succ n => exact ih n
theorem pr_mem {α β : Type} {F : α → β → Prop} {l : List α} {m : List β} (h : Paired F l m) {x : α} (hx : x ∈ l) : ∃ y ∈ m, F x y := by
  induction h with
  | nil => cases hx
  | cons r _ ih =>
    rcases List.mem_cons.mp hx with rfl | hx
    · exact ⟨_, List.mem_cons_self, r⟩
    · obtain ⟨y, hy, q⟩ := ih hx
      exact ⟨y, List.mem_cons_of_mem _ hy, q⟩
theorem Ru.mono {K : PySem.W.Frag} {H H' : Hp} {v : V} {b : Bool} (e : Ex H H') (h : Ru K H v b) : Ru K H' v b := by
  cases h with
  | no k h => exact .no (k.mono e) h
  | short h hl => exact .short (e _ _ h) hl
  | long h h0 h1 hk hr hl hf => exact .long (e _ _ h) (h0.mono e) (h1.mono e) hk (pr_mono hr fun _ _ z => z.mono e) hl fun z x hx => (hf z x hx).mono e
section
variable {σ : L2.St} {H : Hp} {K : PySem.W.Frag}
/-- xs[i:] of a tuple -/
theorem slice_from {te ti : TE} {a : Addr} {xs : List V} {i : Nat} (h : Ev te σ H (.ref a)) (hi : Ev ti σ H (.int (i : Int))) (hx : SqT K H a xs) (hl : i ≤ xs.length) :
    ∀ H1, Ex H H1 → ∀ Q : VK, (∀ p H2, Ex H1 H2 → SqT K H2 p (xs.drop i) → Q (.ref p) H2) → tSl (rSlA K) te (tPart ti) tNoPart σ H1 Q := fun H1 e Q q =>
  h H1 e _ fun H2 e2 => hi H2 (e.trans e2) _ fun H3 e3 => ⟨(i : Int), rfl, a, xs, rfl, ex_t ((e.trans e2).trans e3) hx, by
    have c1 : HT.sIx xs.length 0 (some (i : Int)) = i := by rw [HT.sIx_nat]; omega
    have c2 : HT.sIx xs.length xs.length none = xs.length := HT.sIx_none _ _
    have c3 : cutV xs (some (i : Int)) none = xs.drop i := by
      unfold cutV
      rw [c1, c2]
      exact List.take_of_length_le (by rw [List.length_drop]; omega)
    rw [c1, c2]
    refine ⟨fun z => ?_, fun z p hp => ?_⟩
    · have z2 : xs.drop i = xs := by rw [z.1]; rfl
      refine q a H3 (e2.trans e3) ?_
      rw [z2]
      exact ex_t ((e.trans e2).trans e3) hx
    · refine q p _ ((e2.trans e3).trans (Ex.new hp)) ?_
      rw [c3]
      exact st_of upd_same⟩
/-- [.. for x, y in zip(a tuple, a tuple)] -/
theorem el_lcZ {te : TE} {ta : TA} {a b : Addr} {xs ys bs : List V} {v0 v1 v2 : Option V} (h : EvA ta [v0, v1, v2, none, none] H [.ref a, .ref b]) (hx : SqT K H a xs) (hy : SqT K H b ys) (hl : xs.length = ys.length) (hz : xs.length ≤ 40000) (hb : bs.length = xs.length)
    (he : ∀ (i : Nat) (x y z : V) (H1 : Hp), Ex H H1 → xs[i]? = some x → ys[i]? = some y → bs[i]? = some z → Ev te [v0, v1, v2, some x, some y] H1 z) :
    EvL (tLc (RZ.iZipA K ta) (gTup K 2 (gCons (gName 3) (gCons (gName 4) gNil))) tYes te [3, 4]) [v0, v1, v2, none, none] H bs := fun H0 e Q q => h H0 e _ fun H1 e1 =>
  ⟨a, b, xs, ys, rfl, .inr ⟨ex_t (e.trans e1) hx, ex_t (e.trans e1) hy, fun D hD =>
    lc_it (walk_zipT (K := K) (a := a) (b := b) (xs := xs) (ys := ys) (n := xs.length) (by omega)) (fun i G => Ex H1 G ∧ G D = some (.lst (bs.take i))) ⟨Ex.new hD, upd_same⟩
      (fun i G _ p => ⟨ex_t ((e.trans e1).trans p.1) hx, ex_t ((e.trans e1).trans p.1) hy⟩) (by
      rintro i v G G' hi ⟨s1, hd⟩ ⟨T, x, y, rfl, hT, rfl, h1, h2⟩
      have e2 := Ex.new (o := .tup [x, y]) hT
      have hib : i < bs.length := by omega
      have h3 : bs[i]? = some bs[i] := List.getElem?_eq_getElem hib
      refine ⟨T, [x, y], rfl, SqT.of upd_same, rfl, x, [y], rfl, y, [], rfl, rfl, ?_⟩
      refine ⟨rfl, ?_⟩
      unfold tYes
      dsimp only
      rw [if_pos rfl]
      have nT : T ≠ D := (ne_of_none hd hT).symm
      refine he i x y bs[i] _ ((e.trans e1).trans (s1.trans e2)) h1 h2 h3 _ (Ex.refl _) _ fun G2 e3 => ⟨_, e3 D _ (e2 D _ hd), sz_lt ?_, ((s1.trans e2).trans e3).mut hD, ?_⟩
      · have h3 := List.length_take_le' i bs
        omega
      · rw [upd_same, List.take_succ, h3]
        rfl) (by
      rintro G ⟨s1, hd⟩
      refine q D G (fresh_back e1 hD) (e1.trans s1) ?_
      rw [hd, List.take_of_length_le (by omega)])⟩⟩
end
section
variable {P : Program} {w : World} {K : PySem.W.Frag} {mg : Str → Option Value} {base : Heap}
theorem scRule : FnScope ["value", "kind", "things", "form", "thing"] ["value"] (defScope sIsRule) := ⟨rfl, rfl, rfl, by decide +kernel, rfl, by decide +kernel, by decide +kernel⟩
def spRule : Sp := fun vs H Q _ => ∃ v b, vs = [v] ∧ Ru K H v b ∧ RetV (.bl b) H Q
theorem form_kind : ∀ z ∈ kinds9, ∀ fs, formOf z = some fs → fs.length ≤ 3 ∧ (Str.ofString "folder" ∈ fs → z = Str.ofString "names") := by decide +kernel
theorem ok_rule {f : Addr} {fd : FuncData} {D : Addr} {es : Array DictEntry} {n : Nat} (F : Fun K "is_rule" "is_rule" sIsRule f fd) (T : Gv mg) (Fm : Fms K w mg D es n) (cP : Cal P w K mg base CX0 2 "is_path" ["value"] (spPath (K := K)))
    (cF : Cal P w K mg base CX0 4 "fits" ["form", "value"] (spFits (K := K))) : FnOk P w K mg base CX0 5 f fd ["value"] (spRule (K := K)) := by
  refine F.ok scRule (fun vs H Q E h => ?_) (fun cdv A outer s H vs Q E hr h => ?_)
  · obtain ⟨x, b, rfl, _⟩ := h
    rfl
  · obtain ⟨v, b, rfl, ru, k⟩ := h
    have hr2 : Room 2 _ := hr.mono (by decide)
    refine ⟨_, pss_cons (ps_if (pw_or (pt_not (pt_val (pe_callB call_isi (by rfl) T.isi boot_isinstance (pa_cons (pv 0) (pa_cons (pe_bltn (v := .ty "tuple") (by rfl) T.tup (by decide +kernel) rfl) pa_nil)))))
        (pw_or (pt_cmpR op_lt (pe_callB call_len_seq (by rfl) T.len PySem.boot_len (pa_cons (pv 0) pa_nil)) pe_int (nomark _))
        (pw_or1 (pt_not (pt_val (pe_call cP.F hr2 (by rfl) cP.g cP.kp cP.b .nil pass0 (pa_cons (pe_ix ix_tup (pv 0) pe_int (fun _ _ => rfl)) pa_nil))))))).pt (pss_one (ps_ret pe_bl)) pss_nil)
      (pss_cons (ps_par (i := 1) (j := 2) rfl scRule.nd rfl rfl (by decide) rfl rfl (pa_cons (pe_ix ix_tup (pv 0) pe_int (fun _ _ => rfl)) (pa_cons (pe_slice sl_tupA (pv 0) (po_some pe_int) po_none) pa_nil)) (by rfl))
      (pss_cons (ps_if (pw_or (pt_not (pt_val (pe_callB call_isi (by rfl) T.isi boot_isinstance (pa_cons (pv 1) (pa_cons (pe_bltn (v := .ty "str") (by rfl) T.str (by decide +kernel) rfl) pa_nil)))))
        (pw_or (pt_cmpR (op_notIn_kd Fm.d) (pv 1) (pe_glob (v := .ref D) (by rfl) Fm.g rfl) (by rfl))
        (pw_or1 (pt_cmpR op_ne (pe_callB call_len_seq (by rfl) T.len PySem.boot_len (pa_cons (pv 2) pa_nil)) (pe_callB call_len_seq (by rfl) T.len PySem.boot_len (pa_cons (pe_ix ix_kdict (pe_glob (v := .ref D) (by rfl) Fm.g rfl) (pv 1) (fun _ _ => rfl)) pa_nil)) (nomark _))))).pt (pss_one (ps_ret pe_bl)) pss_nil)
      (pss_one (ps_ret (pe_callB (cr_all rfl) (by rfl) T.all boot_all (pa_cons (pe_lc (own := [("form", 3), ("thing", 4)]) (g := gTup K 2 (gCons (gName 3) (gCons (gName 4) gNil))) (tt := tYes) rfl scRule.nd
        (RZ.pi_zipA (by rfl) T.zip (pa_cons (pe_ix ix_kdict (pe_glob (v := .ref D) (by rfl) Fm.g rfl) (pv 1) (fun _ _ => rfl)) (pa_cons (pv 2) pa_nil))) (blkOk_by (N := ["value", "kind", "things", "form", "thing"]) (sc := defScope sIsRule) (by decide +kernel))
        (fun _ _ _ _ _ => pg_tup rfl (pgs_cons (pg_name (i := 3) scRule.nd rfl (Or.inl rfl)) (pgs_cons (pg_name (i := 4) scRule.nd rfl (Or.inl rfl)) pgs_nil))) (fun _ _ _ _ _ => pts_nil)
        (fun _ _ _ _ _ => pe_call cF.F hr rfl cF.g cF.kp cF.b .nil pass0 (pa_cons (pv 3) (pa_cons (pv 4) pa_nil)))) pa_nil)))))), ?_⟩
    cases ru with
    | no kd hn =>
      refine q_when (b := true) (et_is (et_or (b := true) (et_not (et_B (ev_isi (ev_var rfl) ev_c kd (.inr rfl)))) fun hb => ?_) ?_) (fun _ H1 e1 => ?_) (fun hb => by cases hb)
      · simp [hn] at hb
      · simp [hn]
      · exact s_ret (v := .bl false) ev_c fun H2 e2 => k H2 (e1.trans e2)
    | @short a xs h hl =>
      refine q_when (b := true) (et_is (et_or (b := true) (et_not (et_B (ev_isi (ev_var rfl) ev_c (kd_tup h) (.inr rfl)))) fun hb => ?_) (by simp)) (fun _ H1 e1 => ?_) (fun hb => by cases hb)
      · refine et_is (et_or (a := true) (b := true) (et_is (et_test (ev_op (ev_lenT (ev_var rfl) (st_of h)) ev_c rv_I0)) (by simp; omega)) fun z => by cases z) rfl
      · exact s_ret (v := .bl false) ev_c fun H2 e2 => k H2 (e1.trans e2)
    | @long a x0 x1 rest os h h0 h1 hk hr' hl hf =>
      refine q_when (b := !isPathV x0) (et_is (et_or (b := !isPathV x0) (et_not (et_B (ev_isi (ev_var rfl) ev_c (kd_tup h) (.inr rfl)))) fun hb => ?_) (by simp)) (fun hb H1 e1 => ?_) (fun hb H1 e1 => ?_)
      · refine et_is (et_or (a := false) (b := !isPathV x0) (et_is (et_test (ev_op (ev_lenT (ev_var rfl) (st_of h)) ev_c rv_I0)) (by simp; omega)) fun _ => ?_) (by simp)
        exact et_not (et_B (ev_call (ea_cons (ev_op (ev_var rfl) ev_c (rv_ixT (st_of h) (atI_nat (j := 0) rfl))) ea_nil) (spv_path h0)))
      · refine s_ret (v := .bl (ruleB x0 x1 rest os)) (ev_is ev_c ?_) fun H2 e2 => k H2 (e1.trans e2)
        have : isPathV x0 = false := by simpa using hb
        unfold ruleB
        rw [this]
        rfl
      have p0 : isPathV x0 = true := by simpa using hb
      clear hb
      refine ev_op (z := x1) (ev_var (i := 0) rfl) ev_c (rv_ixT (st_of (e1 _ _ h)) (atI_nat (j := 1) rfl)) H1 (Ex.refl _) _ fun H2 e2 => ?_
      refine slice_from (i := 2) (ev_var (i := 0) rfl) ev_c (st_of ((e1.trans e2) _ _ h)) (by simp) H2 (Ex.refl _) _ fun p H3 e3 hp => ?_
      have hp' : SqT K H3 p rest := hp
      refine ⟨_, _, rfl, ?_⟩
      have eG := (e1.trans e2).trans e3
      have hσ : (((L2.start ["value", "kind", "things", "form", "thing"] [V.ref a]).set 1 (some x1)).set 2 (some (.ref p)) : L2.St) = [some (.ref a), some x1, some (.ref p), none, none] := rfl
      rw [hσ]
      dsimp only
      obtain ⟨n1, kd1⟩ := (h1.mono eG).kd (K := K)
      have test2 : ∀ {b : Bool} {t2 : TT}, (n1 = "str" → EvT t2 ([some (.ref a), some x1, some (.ref p), none, none] : L2.St) H3 b) → EvT (tOr (tNot (tB (tCB (rIsi K) (tCons (tVar 1) (tCons (tC (.ty "str")) tNil))))) t2) ([some (.ref a), some x1, some (.ref p), none, none] : L2.St) H3 (!decide (n1 = "str") || b) :=
        fun h2 => et_or (et_not (et_B (ev_isi (ev_var rfl) ev_c kd1 (.inl rfl)))) fun hb => h2 (by simpa using hb)
      by_cases hs : n1 = "str"
      · subst hs
        obtain ⟨z, rfl⟩ := kd_isStr kd1
        have hz := hk z rfl
        have hat := Fm.at_ z hz
        cases hfo : formOf z with
        | none =>
          rw [hfo] at hat
          refine q_when (b := true) (et_is (test2 (b := true) fun _ => et_is (et_or (a := true) (b := true) (et_test (ev_op (z := .bl true) (ev_var rfl) ev_c fun H4 e4 Q' q' => ⟨z, none, rfl, rfl, hat, q' H4 (Ex.refl _)⟩)) fun zz => by cases zz) rfl) (by simp)) (fun _ H4 e4 => ?_) (fun hb => by cases hb)
          refine s_ret (v := .bl (ruleB x0 (.str z) rest os)) (ev_is ev_c ?_) fun H5 e5 => k H5 ((eG.trans e4).trans e5)
          unfold ruleB
          simp only [hfo]
          simp
        | some fs =>
          rw [hfo] at hat
          obtain ⟨t, ht, hT⟩ := hat
          have item : ∀ {H4 : Hp}, Ev (tOp (rIxD K w) (tC (.ref D)) (tVar 1)) ([some (.ref a), some (.str z), some (.ref p), none, none] : L2.St) H4 (.ref t) := fun {H4} => ev_op ev_c (ev_var rfl) fun H5 e5 Q' q' => ⟨D, z, .ref t, rfl, rfl, ⟨es, n, _, Fm.d.at_, Fm.d.lit, ht, rfl⟩, q' H5 (Ex.refl _)⟩
          refine q_when (b := !decide (rest.length = fs.length)) (et_is (test2 (b := !decide (rest.length = fs.length)) fun _ => et_is (et_or (a := false) (b := !decide (rest.length = fs.length)) (et_test (ev_op (z := .bl false) (ev_var rfl) ev_c fun H4 e4 Q' q' => ⟨z, some (.ref t), rfl, rfl, ht, q' H4 (Ex.refl _)⟩)) fun _ => ?_) (by simp)) (by simp)) (fun hb H4 e4 => ?_) (fun hb H4 e4 => ?_)
          · refine et_is (et_test (ev_op (ev_lenT (ev_var rfl) hp') (ev_lenT item (hT _)) (rv_ne rfl))) ?_
            rw [List.length_map]
            congr 1
            exact decide_eq_decide.mpr ⟨fun h => by injection h with h; omega, fun h => by rw [h]⟩
          · refine s_ret (v := .bl (ruleB x0 (.str z) rest os)) (ev_is ev_c ?_) fun H5 e5 => k H5 ((eG.trans e4).trans e5)
            have hb' : decide (rest.length = fs.length) = false := by simpa using hb
            unfold ruleB
            simp only [hfo]
            rw [hb']
            simp
          · have hb' : rest.length = fs.length := by simpa using hb
            have hlen := pr_len hr'
            obtain ⟨f3, f4⟩ := form_kind z hz fs hfo
            refine s_ret (v := .bl (ruleB x0 (.str z) rest os)) ?_ fun H5 e5 => k H5 ((eG.trans e4).trans e5)
            refine ev_is (ev_all (bs := (fs.zip (rest.zip os)).map fun p => fitsV p.1 p.2.1 p.2.2) (el_lcZ (K := K) (xs := fs.map V.str) (ys := rest) (ea_cons item (ea_cons (ev_var rfl) ea_nil)) (hT _) (ex_t e4 hp') (by rw [List.length_map]; omega) (by rw [List.length_map]; omega) ?_ ?_)) ?_
            · simp only [List.length_map, List.length_zip]
              omega
            · intro i x y zz H5 e5 hx hy hzz
              obtain ⟨o, ho, th⟩ := pr_get hr' hy
              rw [List.getElem?_map] at hx
              cases eg : fs[i]? with
              | none => rw [eg] at hx; cases hx
              | some g =>
                rw [eg] at hx
                have ex : V.str g = x := Option.some.inj hx
                subst ex
                have ezz : zz = .bl (fitsV g y o) := by
                  have z2 : (rest.zip os)[i]? = some (y, o) := List.getElem?_zip_eq_some.mpr ⟨hy, ho⟩
                  have z3 : (fs.zip (rest.zip os))[i]? = some (g, (y, o)) := List.getElem?_zip_eq_some.mpr ⟨eg, z2⟩
                  rw [List.getElem?_map, List.getElem?_map, z3] at hzz
                  exact (Option.some.inj hzz).symm
                subst ezz
                refine ev_call (ea_cons (ev_var rfl) (ea_cons (ev_var rfl) ea_nil)) fun H6 e6 Q' q' E' => ⟨g, y, o, rfl, th.mono (((eG.trans e4).trans e5).trans e6), fun hg => ?_, q'⟩
                subst hg
                have := f4 (List.mem_of_getElem? eg)
                subst this
                exact (hf rfl y (List.mem_of_getElem? hy)).mono (((eG.trans e4).trans e5).trans e6)
            · unfold ruleB
              simp only [hfo, p0, hb', decide_true, Bool.true_and]
              simp [List.all_map]
      · refine q_when (b := true) (et_is (test2 (b := true) fun z => absurd z hs) (by simp)) (fun _ H4 e4 => ?_) (fun hb => by cases hb)
        refine s_ret (v := .bl (ruleB x0 x1 rest os)) (ev_is ev_c ?_) fun H5 e5 => k H5 ((eG.trans e4).trans e5)
        cases x1 with
        | str z => exact absurd (kd_strV kd1) hs
        | _ => simp [ruleB]
end
end Bp
namespace Bp
open PySem PySem.Spec PyProof.Rows L2 Bk Bm Evl Be Cr
abbrev vTail : List Value := [.type "ValueError", .type "Exception", .type "BaseException", .type "object"]
/-- an error class without a field, at C -/
structure Xc (K : PySem.W.Frag) (mg : Str → Option Value) (x : Str) (C : Addr) : Prop where
  g : mg x = some (.ref C)
  q : PySem.W.excIn K C vTail "ValueError.__new__" = true
  k : PySem.W.keepIn K (.ref C) = true
  b : PySem.W.subIn K (.ref C) (.type "BaseException") = some true
  t : PySem.W.typeIn K (.ref C) = some (.type "type")
section
variable {X : Cx} {C : Addr} {x : Str} {p pos : Pos}
/-- X() -/
theorem pmk_own0 (c : Xc X.K X.mg x C) (hg : Gl X x) (hdb : (x == ("__debug__" : Str)) = false := by decide) : PMk X (.Call (.Name x p) [] [] pos) (fun _ H Q => Q (.ref C) none H) := by
  intro pins s σ H Q I h
  refine wpAny_Call_Name_kw (ld_glob I hg c.g ?_ hdb)
  refine PySem.W.callWith_K0 I.kIn c.k ?_
  show wpAny _ _ (call (.ref C) []) _ _ _
  obtain ⟨bm, N, nm, qn, bs, hdct, sn, sub, ab, col, dd, k0, k1, k2, k3, k5, mN, hC, hN, hni, T⟩ := exc_obj I.kIn c.q
  refine wpAny_call_exc_subT PySem.F.excBase_ValueError T hC hN hni (fun h' e hm => ?_) (by rw [sizeLine_eq]; decide)
  exact mk_of I hm (raises_own c.b c.t) h (I.hok.gone hm.new)
end
section
variable {P : Program} {w : World} {K : PySem.W.Frag} {mg : Str → Option Value} {base : Heap}
/-! ### BadTree: its __init__ -/
abbrev sBtI : Stmt := inClass (top 2) 0
theorem scBtI : FnScope ["self", "index"] ["self", "index"] (defScope sBtI) := ⟨rfl, rfl, rfl, by decide +kernel, rfl, by decide +kernel, by decide +kernel⟩
/-- an error class with a field index, at C, its __init__ at fI -/
structure Xi (K : PySem.W.Frag) (mg : Str → Option Value) (x : Str) (C fI : Addr) : Prop where
  g : mg x = some (.ref C)
  o : OexC K C
  f : XfC K C
  n : PySem.W.findIn K (.ref C) "index" = some none
  i : PySem.W.findIn K (.ref C) "__init__" = some (some (.ref fI))
  t : PySem.W.typeIn K (.ref fI) = some (.type "function")
def spXi (K : PySem.W.Frag) (C : Addr) : Sp := fun vs H Q _ => ∃ a v, vs = [.ref a, v] ∧ H a = some (exo a C none) ∧ OexC K C ∧ PySem.W.findIn K (.ref C) "index" = some none ∧
  ∀ dx, H dx = none → dx ≠ a → Q .non (upd (upd H dx (exd dx [(("index" : Str), v)])) a (exo a C (some dx)))
theorem ok_btI {f C : Addr} {fd : FuncData} {q : Str} (F : Fun K "__init__" q sBtI f fd) : FnOk P w K mg base CX0 1 f fd ["self", "index"] (spXi K C) := by
  refine F.ok scBtI (fun vs H Q E h => ?_) (fun cdv A outer s H vs Q E hr h => ?_)
  · obtain ⟨x, v, rfl, _⟩ := h
    rfl
  · obtain ⟨a, v, rfl, ha, o, n, k⟩ := h
    refine ⟨_, pss_one (ps_ost (pv 0) (pv 1)), ?_⟩
    exact ⟨_, rfl, _, rfl, a, C, rfl, o, n, .inl ⟨ha, fun dx hd hne => k dx hd hne⟩⟩
/-- BadTree(e) -/
theorem pmk_xi {X : Cx} {C fI : Addr} {fd : FuncData} {x : Str} {e : Expr} {te : TE} {p pos : Pos} {k : Nat} (c : Xi X.K X.mg x C fI) (F : FnOk X.prog X.w X.K X.mg X.base CX0 1 fI fd ["self", "index"] (spXi X.K C)) (b : Binds X.K fd ["self", "index"] [])
    (hr : Room k X.A) (hk : 2 ≤ k) (hg : Gl X x) (he : PE X e te) (hdb : (x == ("__debug__" : Str)) = false := by decide)
    (hs : starEach (e :: []) X.env = (false, eval e X.env) :: starEach [] X.env := by rfl) (hpl : (backTo pos (starEach [] X.env)).any (·.1) = false := by rfl) :
    PMk X (.Call (.Name x p) [e] [] pos) (tMkO C (spXi X.K C) [] (tCons te tNil)) :=
  pmk_oex c.o c.i c.t F (hr.mono hk) b .nil pass0 hg c.g (pa_cons he pa_nil hs) hdb hs hpl
theorem xi_make {C fI : Addr} {x : Str} {te : TE} {σ : L2.St} {H : Hp} {v : V} {Q : XK} (c : Xi K mg x C fI) (he : Ev te σ H v) (k : ∀ d H', Ex H H' → H' d = some (.xd [(("index" : Str), v)]) → H d = none → Q (.ref C) (some d) H') : tMkO C (spXi K C) [] (tCons te tNil) σ H Q :=
  he H (Ex.refl _) _ fun H1 e1 => ⟨by show 1 ≤ 1000; decide, fun a ha => ⟨a, v, rfl, upd_same, c.o, c.n, fun dx hd hne => by
    have hdn : H1 dx = none := by rw [upd_ne hne] at hd; exact hd
    refine ⟨rfl, dx, [(("index" : Str), v)], upd_same, ?_, hdn, ?_⟩
    · rw [upd_ne hne, upd_same]
    · refine k dx _ (e1.trans fun b o hb => ?_) upd_same (fresh_back e1 hdn)
      have nb : b ≠ a := ne_of_none hb ha
      rw [upd_ne (ne_of_none hb hdn), del_ne nb, upd_ne nb, upd_ne (ne_of_none hb hdn), upd_ne nb]
      exact hb⟩⟩
end
theorem slice_to {σ : L2.St} {H : Hp} {K : PySem.W.Frag} {te ti : TE} {a : Addr} {xs : List V} {i : Nat} (h : Ev te σ H (.ref a)) (hi : Ev ti σ H (.int (i : Int))) (hx : SqT K H a xs) (hl : i ≤ xs.length) :
    ∀ H1, Ex H H1 → ∀ Q : VK, (∀ p H2, Ex H1 H2 → SqT K H2 p (xs.take i) → Q (.ref p) H2) → tSl (rSlA K) te tNoPart (tPart ti) σ H1 Q := fun H1 e Q q =>
  h H1 e _ fun H2 e2 => hi H2 (e.trans e2) _ fun H3 e3 => ⟨(i : Int), rfl, a, xs, rfl, ex_t ((e.trans e2).trans e3) hx, by
    have c1 : HT.sIx xs.length 0 none = 0 := HT.sIx_none _ _
    have c2 : HT.sIx xs.length xs.length (some (i : Int)) = i := by rw [HT.sIx_nat]; omega
    have c3 : cutV xs none (some (i : Int)) = xs.take i := by
      unfold cutV
      rw [c1, c2]
      simp
    rw [c1, c2]
    refine ⟨fun z => ?_, fun z p hp => ?_⟩
    · have z2 : xs.take i = xs := by rw [z.2]; exact List.take_length
      refine q a H3 (e2.trans e3) ?_
      rw [z2]
      exact ex_t ((e.trans e2).trans e3) hx
    · refine q p _ ((e2.trans e3).trans (Ex.new hp)) ?_
      rw [c3]
      exact st_of upd_same⟩
abbrev sCkRules : Stmt := top 25
/-- what an item of a tuple is: a rule that makes p, or none -/
def Itr (K : PySem.W.Frag) (H : Hp) (v : V) : Option Str → Prop
  | some p => Ru K H v true ∧ (∃ a ts, v = .ref a ∧ H a = some (.tup (.str p :: ts))) ∧ p.length ≤ 1000
  | none => Ru K H v false
theorem Itr.mono {K : PySem.W.Frag} {H H' : Hp} {v : V} {o : Option Str} (e : Ex H H') (h : Itr K H v o) : Itr K H' v o := by
  cases o with
  | some p =>
    obtain ⟨h1, ⟨a, ts, h2, h3⟩, h4⟩ := h
    exact ⟨h1.mono e, ⟨a, ts, h2, e _ _ h3⟩, h4⟩
  | none => exact Ru.mono e h
theorem Itr.ru {K : PySem.W.Frag} {H : Hp} {v : V} {o : Option Str} (h : Itr K H v o) : Ru K H v o.isSome := by
  cases o with
  | some p => exact h.1
  | none => exact h
/-- the first place that is wrong -/
def fb : List Str → List (Option Str) → Option Nat
  | _, [] => none
  | acc, none :: _ => some acc.length
  | acc, some p :: r => if acc.any (way p) = true then some acc.length else fb (acc ++ [p]) r
inductive Rl (K : PySem.W.Frag) (H : Hp) : V → Option V → Prop
  | no {v : V} {n : String} (k : Kd K H v n) (h : n ≠ "tuple") : Rl K H v (some .non)
  | big {a : Addr} {xs : List V} (h : H a = some (.tup xs)) (hl : 8 < xs.length) : Rl K H (.ref a) (some .non)
  | tup {a : Addr} {xs : List V} {os : List (Option Str)} (h : H a = some (.tup xs)) (hl : xs.length ≤ 8) (hp : Paired (Itr K H) xs os) : Rl K H (.ref a) ((fb [] os).map fun i => V.int ((i : Nat) : Int))
section
variable {P : Program} {w : World} {K : PySem.W.Frag} {mg : Str → Option Value} {base : Heap}
abbrev nCk : List Str := ["value", "index", "thing", "rule"]
theorem scCkRules : FnScope nCk ["value"] (defScope sCkRules) := ⟨rfl, rfl, rfl, by decide +kernel, rfl, by decide +kernel, by decide +kernel⟩
theorem Rl.mono {H H' : Hp} {v : V} {o : Option V} (e : Ex H H') (h : Rl K H v o) : Rl K H' v o := by
  cases h with
  | no k h => exact .no (k.mono e) h
  | big h hl => exact .big (e _ _ h) hl
  | tup h hl hp => exact .tup (e _ _ h) hl (pr_mono hp fun _ _ r => r.mono e)
/-- how BadTree comes -/
def RaiseI (C : Addr) (v : V) (H : Hp) (E : XK) : Prop := ∀ d H', Ex H H' → H' d = some (.xd [(("index" : Str), v)]) → H d = none → E (.ref C) (some d) H'
theorem RaiseI.go {C : Addr} {v : V} {H H1 : Hp} {E : XK} (h : RaiseI C v H E) (e : Ex H H1) : RaiseI C v H1 E := fun d H' e1 hd hn => h d H' (e.trans e1) hd (fresh_back e hn)
def spCkRules (C : Addr) : Sp := fun vs H Q E => ∃ v o, vs = [v] ∧ Rl K H v o ∧ (o = none → RetV .non H Q) ∧ (∀ u, o = some u → RaiseI C u H E)
/-- any([in_the_way(thing[0], rule[0]) for rule in value[:index]]) -/
theorem et_ways {H G : Hp} {a b : Addr} {xs ts : List V} {ps : List Str} {p : Str} {i : Nat} {x3 : Option V} (eG : Ex H G) (h : H a = some (.tup xs)) (hix : i ≤ xs.length) (hn : xs.length ≤ 8) (hb : G b = some (.tup (.str p :: ts))) (hp1 : p.length ≤ 1000)
    (hpf : Paired (fun v p => (∃ a ts, v = .ref a ∧ H a = some (.tup (.str p :: ts))) ∧ p.length ≤ 1000) (xs.take i) ps) :
    EvT (tB (tCB (rAny K) (tCons (tLc (iTup K (tSl (rSlA K) (tVar 0) tNoPart (tPart (tVar 1)))) (gName 3) tYes (tCall spWay [] E0 (tCons (tOp (rIxT K) (tVar 2) (tC (.int 0))) (tCons (tOp (rIxT K) (tVar 3) (tC (.int 0))) tNil))) [3]) tNil)))
      [some (.ref a), some (.int (i : Int)), some (.ref b), x3] G (ps.any (way p)) := fun H3 e3 Q q => by
  refine slice_to (i := i) (ev_var (i := 0) rfl) (ev_var (i := 1) rfl) (st_of ((eG.trans e3) _ _ h)) hix H3 (Ex.refl _) _ fun l H4 e4 hl4 => ?_
  have eH4 : Ex H H4 := (eG.trans e3).trans e4
  have big : Ev (tCB (rAny K) (tCons (tLc (iTup K (tC (.ref l))) (gName 3) tYes (tCall spWay [] E0 (tCons (tOp (rIxT K) (tVar 2) (tC (.int 0))) (tCons (tOp (rIxT K) (tVar 3) (tC (.int 0))) tNil))) [3]) tNil))
      [some (.ref a), some (.int (i : Int)), some (.ref b), x3] H4 (.bl ((ps.map (way p)).any id)) := by
    refine ev_any (ev_isL (el_lcT (j := 3) (fun v => match v with | .ref c => (match H c with | some (.tup (.str z :: _)) => .bl (way p z) | _ => .non) | _ => .non) ev_c hl4 ?_ fun x H5 e5 hx => ?_) ?_)
    · have := List.length_take_le' i xs
      omega
    · obtain ⟨z, hz, ⟨c, us, rfl, hc⟩, hzl⟩ := pr_mem hpf hx
      have hcc := (eH4.trans e5) _ _ hc
      have hbb := ((e3.trans e4).trans e5) _ _ hb
      simp only [hc]
      refine ev_call (ea_cons (ev_op (ev_var rfl) ev_c (rv_ixT (st_of hbb) (atI_nat (j := 0) rfl))) (ea_cons (ev_op (ev_var rfl) ev_c (rv_ixT (st_of hcc) (atI_nat (j := 0) rfl))) ea_nil)) fun H6 e6 Q' q' E' => ⟨p, z, rfl, by omega, by omega, q'⟩
    · have hmap : ∀ {ys : List V} {ps : List Str}, Paired (fun v p => (∃ a ts, v = .ref a ∧ H a = some (.tup (.str p :: ts))) ∧ p.length ≤ 1000) ys ps →
          ys.map (fun v => match v with | .ref c => (match H c with | some (.tup (.str z :: _)) => V.bl (way p z) | _ => .non) | _ => .non) = (ps.map (way p)).map V.bl := by
        intro ys ps h
        induction h with
        | nil => rfl
        | cons r _ ih =>
          obtain ⟨⟨c, us, rfl, hc⟩, _⟩ := r
          simp only [List.map_cons, ih, hc]
      exact hmap hpf
  have eqn : (ps.map (way p)).any id = ps.any (way p) := by simp [List.any_map]
  rw [eqn] at big
  exact big H4 (Ex.refl _) _ fun H5 e5 => ⟨_, rfl, q H5 (e4.trans e5)⟩
theorem ok_ckRules {f C fI : Addr} {fd fdI : FuncData} (F : Fun K "check_rules" "check_rules" sCkRules f fd) (T : Gv mg) (c : Xi K mg "BadRules" C fI) (FI : FnOk P w K mg base CX0 1 fI fdI ["self", "index"] (spXi K C)) (bI : Binds K fdI ["self", "index"] [])
    (cR : Cal P w K mg base CX0 5 "is_rule" ["value"] (spRule (K := K))) (cM : Cal P w K mg base CX0 2 "in_the_way" ["one", "other"] spWay) : FnOk P w K mg base (L2.CX P w) 6 f fd ["value"] (spCkRules (K := K) C) := by
  refine F.okX scCkRules (fun vs H Q E h => ?_) (fun cdv A outer s H vs Q E hr h => ?_)
  · obtain ⟨x, o, rfl, _⟩ := h
    rfl
  · obtain ⟨v, o, rfl, tr, k1, k2⟩ := h
    obtain ⟨t1, m1⟩ := T.mr
    have hr2 : Room 2 _ := hr.mono (by decide)
    refine ⟨_, pss_cons (ps_if (pw_or (pt_not (pt_val (pe_callB call_isi (by rfl) T.isi boot_isinstance (pa_cons (pv 0) (pa_cons (pe_bltn (v := .ty "tuple") (by rfl) T.tup (by decide +kernel) rfl) pa_nil)))))
        (pw_or1 (pt_cmpR op_gt (pe_callB call_len_seq (by rfl) T.len PySem.boot_len (pa_cons (pv 0) pa_nil)) (pe_glob (v := .int 8) (by rfl) m1 ⟨_, rfl⟩) (nomark _)))).pt
        (pss_one (ps_raise rfl (takes_of rfl rfl rfl rfl) (pmk_xi c FI bI hr (by decide) (by rfl) pe_non))) pss_nil)
      (pss_one (ps_for (passes_of rfl) rfl (pi_enumT (by rfl) T.enu (pa_cons (pv 0) pa_nil)) (pg_tup rfl (pgs_cons (pg_name (i := 1) scCkRules.nd rfl (Or.inl rfl)) (pgs_cons (pg_name (i := 2) scCkRules.nd rfl (Or.inr rfl)) pgs_nil)))
        (pss_one (ps_if (pw_or (pt_not (pt_val (pe_call cR.F hr (by rfl) cR.g cR.kp cR.b .nil pass0 (pa_cons (pv 2) pa_nil))))
          (pw_or1 (pt_val (pe_callB (cr_any rfl) (by rfl) T.any boot_any (pa_cons (pe_lc (own := [("rule", 3)]) (g := gName 3) (tt := tYes) rfl scCkRules.nd (pi_tup (pe_slice sl_tupA (pv 0) po_none (po_some (pv 1)))) (blkOk_by (N := nCk) (sc := defScope sCkRules) (by decide +kernel))
            (fun _ _ _ _ _ => pg_name (i := 3) scCkRules.nd rfl (Or.inl rfl)) (fun _ _ _ _ _ => pts_nil)
            (fun _ _ _ _ _ => pe_call cM.F hr2 (by rfl) cM.g cM.kp cM.b .nil pass0 (pa_cons (pe_ix (r := rIxT K) ix_tup (pv 2) pe_int (fun _ _ => rfl)) (pa_cons (pe_ix (r := rIxT K) ix_tup (pv 3) pe_int (fun _ _ => rfl)) pa_nil)))) pa_nil))))).pt
          (pss_one (ps_raise rfl (takes_of rfl rfl rfl rfl) (pmk_xi c FI bI hr (by decide) (by rfl) (pv 1)))) pss_nil)))), ?_⟩
    cases tr with
    | no kd hn =>
      refine q_when (b := true) (et_is (et_or (b := true) (et_not (et_B (ev_isi (ev_var rfl) ev_c kd (.inr rfl)))) fun hb => ?_) ?_) (fun _ H1 e1 => ?_) (fun hb => by cases hb)
      · simp [hn] at hb
      · simp [hn]
      · exact xi_make c ev_c (RaiseI.go (k2 _ rfl) e1)
    | @big a xs h hl =>
      refine q_when (b := true) (et_is (et_or (b := true) (et_not (et_B (ev_isi (ev_var rfl) ev_c (kd_tup h) (.inr rfl)))) fun hb => ?_) (by simp)) (fun _ H1 e1 => ?_) (fun hb => by cases hb)
      · exact et_is (et_test (ev_op (ev_lenT (ev_var rfl) (st_of h)) ev_c rv_I0)) (by simp; omega)
      · exact xi_make c ev_c (RaiseI.go (k2 _ rfl) e1)
    | @tup a xs os h hl hp =>
      refine q_when (b := false) (et_is (et_or (b := false) (et_not (et_B (ev_isi (ev_var rfl) ev_c (kd_tup h) (.inr rfl)))) fun hb => ?_) (by simp)) (fun hb => by cases hb) (fun _ H1 e1 => ?_)
      · exact et_is (et_test (ev_op (ev_lenT (ev_var rfl) (st_of h)) ev_c rv_I0)) (by simp; omega)
      · refine ⟨_, rfl, a, xs, rfl, st_of (e1 _ _ h), for_enumT (K := K) (a := a) (xs := xs) (fun i τ G => ∃ (u v : Option V) (fs : List Str), τ = [some (.ref a), u, v, none] ∧ Ex H G ∧ fs.length = i ∧ os.take i = fs.map some ∧ fb [] os = fb fs (os.drop i))
          ⟨none, none, [], rfl, e1, rfl, rfl, rfl⟩ (fun i τ G _ q => by obtain ⟨_, _, _, _, q, _⟩ := q; exact st_of (q _ _ h)) ?_ ?_⟩
        · rintro i x τ G T0 hi ⟨u, v, fs, rfl, eG, hfl, htk, hfb⟩ hT
          obtain ⟨o, ho, it⟩ := pr_get hp hi
          have hdr : os.drop i = o :: os.drop (i + 1) := by
            obtain ⟨hh, e⟩ := List.getElem?_eq_some_iff.mp ho
            rw [List.drop_eq_getElem_cons hh, e]
          rw [hdr] at hfb
          have e2 : Ex H (upd G T0 (.tup [.int (i : Nat), x])) := eG.trans (Ex.new hT)
          have hix : i ≤ xs.length := Nat.le_of_lt (List.getElem?_eq_some_iff.mp hi).1
          have hpf : Paired (fun v p => (∃ a ts, v = .ref a ∧ H a = some (.tup (.str p :: ts))) ∧ p.length ≤ 1000) (xs.take i) fs := by
            have h1 := pr_take hp i
            rw [htk] at h1
            have gen : ∀ {ys : List V} {gs : List Str}, Paired (Itr K H) ys (gs.map some) → Paired (fun v p => (∃ a ts, v = .ref a ∧ H a = some (.tup (.str p :: ts))) ∧ p.length ≤ 1000) ys gs := by
              intro ys gs
              induction gs generalizing ys with
              | nil => intro h; cases h; exact .nil
              | cons g r ih =>
                intro h
                cases h with
                | cons r1 r2 => exact .cons r1.2 (ih r2)
            exact gen h1
          refine ⟨T0, _, rfl, SqT.of upd_same, rfl, _, _, rfl, _, _, rfl, rfl, ?_⟩
          show tIfS _ _ tNext _ ([some (.ref a), some (.int (i : Int)), some x, none] : L2.St) _
          have call1 : EvT (tNot (tB (tCall (spRule (K := K)) [] E0 (tCons (tVar 2) tNil)))) ([some (.ref a), some (.int (i : Int)), some x, none] : L2.St) (upd G T0 (.tup [.int (i : Nat), x])) (!(o.isSome)) :=
            et_not (et_B (ev_call (ea_cons (ev_var rfl) ea_nil) fun H3 e3 Q' q' E' => ⟨x, _, rfl, (it.mono (e2.trans e3)).ru, q'⟩))
          refine s_when (b := !(o.isSome) || (match o with | some p => fs.any (way p) | none => false)) (et_or call1 fun hb => ?_) (fun hb H3 e3 => ?_) (fun hb H3 e3 => ?_)
          · cases o with
            | none => simp at hb
            | some p =>
              obtain ⟨_, ⟨b, ts, rfl, hbb⟩, hpl⟩ := it
              exact et_ways e2 h hix hl (e2 _ _ hbb) hpl hpf
          · have hbad : fb [] os = some i := by
              rw [hfb]
              cases o with
              | none => show some fs.length = some i; rw [hfl]
              | some p =>
                have hn : fs.any (way p) = true := by simpa using hb
                show (if fs.any (way p) = true then some fs.length else _) = some i
                rw [if_pos hn, hfl]
            exact xi_make c (ev_var rfl) (RaiseI.go (k2 _ (by rw [hbad]; rfl)) (e2.trans e3))
          · cases o with
            | none => simp at hb
            | some p =>
              have hn : fs.any (way p) = false := by simpa using hb
              refine ⟨_, _, fs ++ [p], rfl, e2.trans e3, by simp [hfl], ?_, ?_⟩
              · rw [List.take_succ, htk, ho]
                simp
              · rw [hfb]
                show (if fs.any (way p) = true then some fs.length else _) = _
                rw [if_neg (by rw [hn]; decide)]
        · rintro τ G ⟨u, v, fs, rfl, eG, hfl, htk, hfb⟩
          have hlen := pr_len hp
          have hn : fb [] os = none := by
            rw [hfb, hlen, List.drop_length]
            rfl
          exact k1 (by rw [hn]; rfl) G eG
end
end Bp
namespace Bp
open PySem PySem.Spec PyProof.Rows L2 Bk Bm Evl Be Cr
abbrev sInit : Stmt := inClass (top 20) 0
abbrev sGet : Stmt := inClass (top 20) 1
abbrev sLen : Stmt := inClass (top 20) 2
abbrev sEq : Stmt := inClass (top 20) 3
abbrev sMade : Stmt := top 21
abbrev sCkBook : Stmt := top 26
abbrev kR : Str := "_rules"
/-- the class Book, at C -/
structure Bks (K : PySem.W.Frag) (mg : Str → Option Value) (C fI pR fG fL fE : Addr) : Prop where
  g : mg "Book" = some (.ref C)
  cls : Cls K C
  mkr : Mk K C fI
  na : NoAttr K C kR
  prop : PropOf K C "rules" pR fG
  len : PySem.W.findIn K (.ref C) "__len__" = some (some (.ref fL))
  lenF : PySem.W.isFn K (.ref fL) = true
  eq : PySem.W.findIn K (.ref C) "__eq__" = some (some (.ref fE))
  eqF : PySem.W.isFn K (.ref fE) = true
  nf : PySem.W.notFirst K C (.type "tuple") = true
  ha : PySem.W.findIn K (.ref C) "__class__" = some (some (.builtin "object.__class__"))
  hn : PySem.W.specialIn K (.builtin "object.__class__") "__get__" = some (some (.builtin "getset_descriptor.__get__"))
  htk : PySem.W.takesIn K (.builtin "object.__class__") = some true
  hm : PySem.W.mroIn K C (.type "object") = some true
  kt : PySem.W.kitOne K (.type "tuple") (.ref C) = some false
/-- a book of the rules v stands at a -/
def BkAt (H : Hp) (C a : Addr) (v : V) : Prop := ∃ dx, H a = some (.ins C dx [(kR, v)])
theorem BkAt.mono {H H' : Hp} {C a : Addr} {v : V} (e : Ex H H') (h : BkAt H C a v) : BkAt H' C a v := by
  obtain ⟨dx, h⟩ := h
  exact ⟨dx, e _ _ h⟩
section
variable {P : Program} {w : World} {K : PySem.W.Frag} {mg : Str → Option Value} {base : Heap} {C fI pR fG fL fE : Addr}
/-! ### __init__ -/
def spInit (C Cx : Addr) : Sp := fun vs H Q E => ∃ x dx v o, vs = [.ref x, v] ∧ H x = some (.ins C dx []) ∧ Rl K H v o ∧ (o = none → ∀ H1, Ex H H1 → Q .non (upd H1 x (.ins C dx [(kR, v)]))) ∧ (∀ u, o = some u → RaiseI Cx u H E)
theorem scInit : FnScope ["self", "rules"] ["self", "rules"] (defScope sInit) := ⟨rfl, rfl, rfl, by decide +kernel, rfl, by decide +kernel, by decide +kernel⟩
/-- what is let out of a body as it comes -/
theorem lets {X : Cx} {E : XK} (tk : Takes X (fun cls d _ H => E cls d H)) : Passes (L2.CX X.prog X.w) X E := passes_call tk fun _ _ _ _ h => h
theorem ok_init {f Cx : Addr} {fd : FuncData} {q : Str} (F : Fun K "__init__" q sInit f fd) (B : Bks K mg C fI pR fG fL fE) (cK : Cal P w K mg base (L2.CX P w) 6 "check_rules" ["value"] (spCkRules (K := K) Cx)) :
    FnOk P w K mg base (L2.CX P w) 7 f fd ["self", "rules"] (spInit (K := K) C Cx) := by
  refine F.okX scInit (fun vs H Q E h => ?_) (fun cdv A outer s H vs Q E hr h => ?_)
  · obtain ⟨x, dx, v, o, rfl, _⟩ := h
    rfl
  · obtain ⟨x, dx, v, o, rfl, hx, rl, k1, k2⟩ := h
    refine ⟨_, pss_cons (ps_expr (pe_call cK.F hr (by rfl) cK.g cK.kp cK.b .nil (lets (takes_of rfl rfl rfl rfl)) (pa_cons (pv 1) pa_nil)))
      (pss_one (ps_fld (pv 0) (pv 1) (by rfl))), ?_⟩
    refine ⟨_, rfl, v, o, rfl, rl, fun ho H1 e1 => ?_, fun u hu => k2 u hu⟩
    exact ⟨_, rfl, _, rfl, x, C, dx, [], rfl, e1 _ _ hx, B.cls, B.na, by decide, k1 ho H1 e1⟩
/-! ### the property, len -/
def spGet (C : Addr) : Sp := fun vs H Q _ => ∃ a v, vs = [.ref a] ∧ BkAt H C a v ∧ RetV v H Q
theorem scGet : FnScope ["self"] ["self"] (defScope sGet) := ⟨rfl, rfl, rfl, by decide +kernel, rfl, by decide +kernel, by decide +kernel⟩
theorem ev_fld {σ : L2.St} {H : Hp} {te : TE} {a : Addr} {v : V} (B : Bks K mg C fI pR fG fL fE) (h : Ev te σ H (.ref a)) (b : BkAt H C a v) : Ev (tFld K te kR) σ H v := fun H1 e Q q => h H1 e _ fun H2 e2 => by
  obtain ⟨dx, hb⟩ := b.mono (e.trans e2)
  exact ⟨a, C, dx, _, v, rfl, hb, B.cls, B.na, rfl, q H2 e2⟩
theorem ok_get {f : Addr} {fd : FuncData} {q : Str} (F : Fun K "rules" q sGet f fd) (B : Bks K mg C fI pR fG fL fE) : FnOk P w K mg base CX0 1 f fd ["self"] (spGet C) := by
  refine F.ok scGet (fun vs H Q E h => ?_) (fun cdv A outer s H vs Q E hr h => ?_)
  · obtain ⟨a, v, rfl, _⟩ := h
    rfl
  · obtain ⟨a, v, rfl, b, k⟩ := h
    refine ⟨_, pss_one (ps_ret (pe_fld (pv 0) (by rfl))), ?_⟩
    exact s_ret (ev_fld B (ev_var rfl) b) k
def spLen (C : Addr) : Sp := fun vs H Q _ => ∃ a t xs, vs = [.ref a] ∧ BkAt H C a (.ref t) ∧ SqT K H t xs ∧ RetV (.int (xs.length : Int)) H Q
theorem scLen : FnScope ["self"] ["self"] (defScope sLen) := ⟨rfl, rfl, rfl, by decide +kernel, rfl, by decide +kernel, by decide +kernel⟩
theorem ok_len {f : Addr} {fd : FuncData} {q : Str} (F : Fun K "__len__" q sLen f fd) (T : Gv mg) (B : Bks K mg C fI pR fG fL fE) : FnOk P w K mg base CX0 1 f fd ["self"] (spLen (K := K) C) := by
  refine F.ok scLen (fun vs H Q E h => ?_) (fun cdv A outer s H vs Q E hr h => ?_)
  · obtain ⟨a, t, xs, rfl, _⟩ := h
    rfl
  · obtain ⟨a, t, xs, rfl, b, hx, k⟩ := h
    refine ⟨_, pss_one (ps_ret (pe_callB call_len_seq (by rfl) T.len PySem.boot_len (pa_cons (pe_fld (pv 0) (by rfl)) pa_nil))), ?_⟩
    exact s_ret (ev_lenT (ev_fld B (ev_var rfl) b) hx) k
/-! ### == -/
def spEqB (C : Addr) : Sp := fun vs H Q _ => ∃ a b v, vs = [.ref a, .ref b] ∧ BkAt H C a v ∧
  ((∃ xs, H b = some (.tup xs) ∧ RetV (.bl false) H Q) ∨ ∃ u d e, BkAt H C b u ∧ (∀ G, Ex H G → Dp K G v d ∧ Dp K G u e) ∧ SeqAt.shaped d = true ∧ SeqAt.shaped e = true ∧ RetV (.bl (PyData.eqv d e)) H Q)
theorem scEq : FnScope ["self", "other"] ["self", "other"] (defScope sEq) := ⟨rfl, rfl, rfl, by decide +kernel, rfl, by decide +kernel, by decide +kernel⟩
theorem ty_bk {H : Hp} {a : Addr} {v : V} (B : Bks K mg C fI pR fG fL fE) (b : BkAt H C a v) : TyX K H (.ref a) (.ref C) := by
  obtain ⟨dx, h⟩ := b
  exact .base (.ins h B.cls B.ha B.hn B.htk B.hm)
theorem kt_self : PySem.W.kitOne K (.ref C) (.ref C) = some true := by
  unfold PySem.W.kitOne
  rw [if_pos (by simp)]
theorem ev_isB {σ : L2.St} {H : Hp} {te tx : TE} {a : Addr} {v : V} (B : Bks K mg C fI pR fG fL fE) (h : Ev te σ H (.ref a)) (hc : Ev tx σ H (.ref C)) (b : BkAt H C a v) : Ev (tCB (rIsi K) (tCons te (tCons tx tNil))) σ H (.bl true) := fun H1 e Q q =>
  h H1 e _ fun H2 e2 => hc H2 (e.trans e2) _ fun H3 e3 => ⟨.ref a, .ref C, .ref C, .ref C, true, rfl, .own C, ty_bk B (b.mono ((e.trans e2).trans e3)), kt_self, q H3 (e2.trans e3)⟩
theorem ok_eqB {f : Addr} {fd : FuncData} {q : Str} (F : Fun K "__eq__" q sEq f fd) (T : Gv mg) (B : Bks K mg C fI pR fG fL fE) : FnOk P w K mg base CX0 1 f fd ["self", "other"] (spEqB (K := K) C) := by
  refine F.ok scEq (fun vs H Q E h => ?_) (fun cdv A outer s H vs Q E hr h => ?_)
  · obtain ⟨a, b, v, rfl, _⟩ := h
    rfl
  · obtain ⟨a, b, v, rfl, ba, h⟩ := h
    have hu : (A.deeper (envOfC q (defScope sEq) s.heap.objs.size f cdv)).units + 64 < cLine := by have := hr.un; omega
    refine ⟨_, pss_one (ps_ret (pe_and (pe_callB call_isi (by rfl) T.isi boot_isinstance (pa_cons (pv 1) (pa_cons (pe_glob (v := .ref C) (by rfl) B.g rfl) pa_nil)))
      (pe_one (pe_cmpR (op_eqD hu) (pe_fld (pv 0) (by rfl)) (pe_fld (pv 1) (by rfl)) (nomark _))))), ?_⟩
    rcases h with ⟨xs, hb, k⟩ | ⟨u, d, e, bb, dp, s1, s2, k⟩
    · refine s_ret (v := .bl false) (ev_is (ev_and (a := false) (b := false) (fun H1 e1 Q q => ⟨_, rfl, .ref b, .ref C, .type "tuple", .ref C, false, rfl, .own C, .base (.tup (e1 _ _ hb)), B.kt, q H1 (Ex.refl _)⟩) (fun z => by cases z)) rfl) k
    · refine s_ret (v := .bl (PyData.eqv d e)) (ev_is (ev_and (a := true) (b := PyData.eqv d e) (ev_isB B (ev_var rfl) ev_c bb) fun _ => ev_op (ev_fld B (ev_var rfl) ba) (ev_fld B (ev_var rfl) bb) fun H1 e1 Q q => ?_) rfl) k
      obtain ⟨d1, d2⟩ := dp H1 e1
      exact ⟨d, e, d1, d2, s1, s2, q H1 (Ex.refl _)⟩
/-! ### check_book, made_paths -/
def spCkB (C : Addr) : Sp := fun vs H Q _ => ∃ a v, vs = [.ref a] ∧ BkAt H C a v ∧ RetV .non H Q
theorem scCkBook : FnScope ["value"] ["value"] (defScope sCkBook) := ⟨rfl, rfl, rfl, by decide +kernel, rfl, by decide +kernel, by decide +kernel⟩
theorem ok_ckBook {f : Addr} {fd : FuncData} (F : Fun K "check_book" "check_book" sCkBook f fd) (T : Gv mg) (B : Bks K mg C fI pR fG fL fE) : FnOk P w K mg base CX0 1 f fd ["value"] (spCkB C) := by
  refine F.ok scCkBook (fun vs H Q E h => ?_) (fun cdv A outer s H vs Q E hr h => ?_)
  · obtain ⟨a, v, rfl, _⟩ := h
    rfl
  · obtain ⟨a, v, rfl, b, k⟩ := h
    refine ⟨_, pss_one (ps_if (pt_not (pt_val (pe_callB call_isi (by rfl) T.isi boot_isinstance (pa_cons (pv 0) (pa_cons (pe_glob (v := .ref C) (by rfl) B.g rfl) pa_nil))))) pss_never pss_nil), ?_⟩
    refine s_if (b := false) (et_is (et_not (et_B (ev_isB B (ev_var rfl) ev_c b))) rfl) (fun z => by cases z) (fun _ H1 e1 => ?_)
    exact k H1 e1
/-- the made paths of a tuple of rules -/
def Heads (H : Hp) (xs : List V) (ps : List Str) : Prop := Paired (fun v p => ∃ a ts, v = .ref a ∧ H a = some (.tup (.str p :: ts))) xs ps
theorem Heads.mono {H H' : Hp} {xs : List V} {ps : List Str} (e : Ex H H') (h : Heads H xs ps) : Heads H' xs ps := pr_mono h fun _ _ ⟨a, ts, z, h⟩ => ⟨a, ts, z, e _ _ h⟩
def headV (H : Hp) : V → V
  | .ref c => match H c with
    | some (.tup (.str z :: _)) => .str z
    | _ => .non
  | _ => .non
theorem heads_map {H : Hp} {xs : List V} {ps : List Str} (h : Heads H xs ps) : xs.map (headV H) = ps.map V.str := by
  induction h with
  | nil => rfl
  | cons r _ ih =>
    obtain ⟨a, ts, rfl, h⟩ := r
    simp only [List.map_cons, ih, headV, h]
def spMade (C : Addr) : Sp := fun vs H Q _ => ∃ a t xs ps, vs = [.ref a] ∧ BkAt H C a (.ref t) ∧ SqT K H t xs ∧ Heads H xs ps ∧ ps.length < 64 ∧ ∀ ys, ys.Perm ps → sortedS ys = true → RetL (ys.map V.str) H Q
theorem scMade : FnScope ["book", "rule"] ["book"] (defScope sMade) := ⟨rfl, rfl, rfl, by decide +kernel, rfl, by decide +kernel, by decide +kernel⟩
/-- sorted([rule[0] for rule in ..]) -/
theorem srt_heads {σ : L2.St} {H : Hp} {tl : TE} {j : Nat} {t : Addr} {xs : List V} {ps : List Str} {Q : VK} (hj : j < σ.length) (ht : Ev tl σ H (.ref t)) (hx : SqT K H t xs) (hh : Heads H xs ps) (hl : ps.length < 64)
    (k : ∀ ys, ys.Perm ps → sortedS ys = true → RetL (ys.map V.str) H Q) :
    tCB (rSortedS K) (tCons (tLc (iTup K tl) (gName j) tYes (tOp (rIxT K) (tVar j) (tC (.int 0))) [j]) tNil) σ H Q := by
  have hlen := pr_len hh
  have big : EvL (tLc (iTup K tl) (gName j) tYes (tOp (rIxT K) (tVar j) (tC (.int 0))) [j]) σ H (ps.map V.str) := by
    refine ev_isL (el_lcT (headV H) ht hx (by omega) fun x H1 e1 hxm => ?_) (heads_map hh)
    obtain ⟨z, hz, c, ts, rfl, hc⟩ := pr_mem hh hxm
    refine ev_is (ev_op (ev_var (by simp [hj])) ev_c (rv_ixT (st_of (e1 _ _ hc)) (atI_nat (j := 0) rfl))) ?_
    simp only [headV, hc]
  show tLc (iTup K tl) (gName j) tYes (tOp (rIxT K) (tVar j) (tC (.int 0))) [j] σ H (fun x H1 => rSortedS K [x] H1 Q)
  exact big H (Ex.refl _) _ fun p H1 hp e1 h1 => ⟨p, ps, rfl, sq_of h1, hl, fun ys q pm so hq => k ys pm so q _ (fresh_back e1 hq) (e1.trans (Ex.new hq)) upd_same⟩
theorem ev_prop {σ : L2.St} {H : Hp} {te : TE} {a : Addr} {v : V} (h : Ev te σ H (.ref a)) (b : BkAt H C a v) : Ev (tProp C (spGet C) [] E0 te) σ H v := fun H1 e Q q => h H1 e _ fun H2 e2 => by
  have bb := b.mono (e.trans e2)
  obtain ⟨dx, hb⟩ := id bb
  exact ⟨a, dx, _, rfl, hb, a, v, rfl, bb, fun H3 e3 => q H3 (e2.trans e3)⟩
theorem ok_made {f : Addr} {fd fdG : FuncData} (F : Fun K "made_paths" "made_paths" sMade f fd) (T : Gv mg) (B : Bks K mg C fI pR fG fL fE) (FG : FnOk P w K mg base CX0 1 fG fdG ["self"] (spGet C)) (bG : Binds K fdG ["self"] [])
    (cB : Cal P w K mg base CX0 1 "check_book" ["value"] (spCkB C)) : FnOk P w K mg base CX0 3 f fd ["book"] (spMade (K := K) C) := by
  refine F.ok scMade (fun vs H Q E h => ?_) (fun cdv A outer s H vs Q E hr h => ?_)
  · obtain ⟨a, t, xs, ps, rfl, _⟩ := h
    rfl
  · obtain ⟨a, t, xs, ps, rfl, b, hx, hh, hl, k⟩ := h
    have hr1 : Room 1 _ := hr.mono (by decide)
    refine ⟨_, pss_cons (ps_expr (pe_call cB.F hr1 (by rfl) cB.g cB.kp cB.b .nil pass0 (pa_cons (pv 0) pa_nil)))
      (pss_one (ps_ret (pe_callB cr_sortedS (by rfl) T.srt (by decide +kernel) (pa_cons (pe_lc (own := [("rule", 1)]) (g := gName 1) (tt := tYes) rfl scMade.nd (pi_tup (pe_prop (pv 0) B.cls B.prop FG hr bG .nil pass0 (by rfl))) (blkOk_by (N := ["book", "rule"]) (sc := defScope sMade) (by decide +kernel))
        (fun _ _ _ _ _ => pg_name (i := 1) scMade.nd rfl (Or.inl rfl)) (fun _ _ _ _ _ => pts_nil) (fun _ _ _ _ _ => pe_ix (r := rIxT K) ix_tup (pv 1) pe_int (fun _ _ => rfl))) pa_nil)))), ?_⟩
    refine q_drop (v := .non) (ev_call (ea_cons (ev_var rfl) ea_nil) fun H1 e1 Q' q' E' => ⟨a, _, rfl, b.mono e1, q'⟩) fun H1 e1 => ?_
    exact srt_heads (j := 1) (by show 1 < 2; decide) (ev_prop (ev_var rfl) (b.mono e1)) (ex_t e1 hx) (hh.mono e1) hl fun ys pm so p H2 hp e2 h2 => k ys pm so p H2 (fresh_back e1 hp) (e1.trans e2) h2
end
end Bp
namespace Bl
open PySem PySem.Spec PyProof.Rows L2 Bk Bm Evl Be Cr Bp
abbrev sTaken : Stmt := top 28
abbrev sOne : Stmt := top 29
/-- the script, at a: never written -/
def Sc (K : PySem.W.Frag) (H : Hp) (a : Addr) (ns : List Int) : Prop := (∃ o, H a = some (.frz o (.lst (ns.map V.int)))) ∨
  ∃ (o : Obj) (its : Array Value) (n : Nat), K.lookup a = some o ∧ o.cls = .type "list" ∧ o.dict = none ∧ o.data = .seq its n ∧ its.size ≤ sizeLine ∧ Vals (ns.map V.int) its.toList
theorem Sc.sq {K : PySem.W.Frag} {H : Hp} {a : Addr} {ns : List Int} (h : Sc K H a ns) : SqL K H a (ns.map V.int) := by
  rcases h with h | h
  · exact .inl (.inr h)
  · exact .inr h
/-- all but r stands -/
def Kp (r : Addr) (H G : Hp) : Prop := ∀ b o, b ≠ r → H b = some o → G b = some o
theorem Kp.of_ex {r : Addr} {H G : Hp} (e : Ex H G) : Kp r H G := fun b o _ h => e b o h
theorem Kp.refl (r : Addr) (H : Hp) : Kp r H H := fun _ _ _ h => h
theorem Kp.trans {r : Addr} {H G F : Hp} (a : Kp r H G) (b : Kp r G F) : Kp r H F := fun x o n h => b x o n (a x o n h)
theorem Kp.up {r : Addr} {H G : Hp} {o : HO} (a : Kp r H G) : Kp r H (upd G r o) := fun x u n h => by
  rw [upd_ne n]
  exact a x u n h
theorem Sc.keep {K : PySem.W.Frag} {H G : Hp} {r a : Addr} {ns : List Int} {xs : List V} (h : Sc K H a ns) (hr : H r = some (.lst xs)) (k : Kp r H G) : Sc K G a ns := by
  rcases h with ⟨o, h⟩ | h
  · exact .inl ⟨o, k a _ (ne_of h hr (by intro z; cases z)) h⟩
  · exact .inr h
def rowL (a : Addr) (i s z : Int) : List V := [.ref a, .int i, .int s, .int z]
/-- the row of draws stands at r -/
def Row (K : PySem.W.Frag) (H : Hp) (r : Addr) : Prop := ∃ a i s z ns, H r = some (.lst (rowL a i s z)) ∧ Sc K H a ns ∧ 0 ≤ i
structure Dr (K : PySem.W.Frag) (r : Addr) (H G : Hp) : Prop where
  kp : Kp r H G
  row : Row K G r
theorem Row.ex {K : PySem.W.Frag} {H G : Hp} {r : Addr} (h : Row K H r) (e : Ex H G) : Row K G r := by
  obtain ⟨a, i, s, z, ns, hr, sc, hi⟩ := h
  exact ⟨a, i, s, z, ns, e _ _ hr, sc.keep hr (.of_ex e), hi⟩
theorem Dr.refl {K : PySem.W.Frag} {H : Hp} {r : Addr} (h : Row K H r) : Dr K r H H := ⟨.refl r H, h⟩
theorem Dr.trans {K : PySem.W.Frag} {H G F : Hp} {r : Addr} (a : Dr K r H G) (b : Dr K r G F) : Dr K r H F := ⟨a.kp.trans b.kp, b.row⟩
theorem Dr.ex {K : PySem.W.Frag} {H G F : Hp} {r : Addr} (a : Dr K r H G) (e : Ex G F) : Dr K r H F := ⟨a.kp.trans (.of_ex e), a.row.ex e⟩
theorem Dr.pre {K : PySem.W.Frag} {H G F : Hp} {r : Addr} (e : Ex H G) (a : Dr K r G F) : Dr K r H F := ⟨(Kp.of_ex e).trans a.kp, a.row⟩
section
variable {P : Program} {w : World} {K : PySem.W.Frag} {mg : Str → Option Value} {base : Heap}
abbrev nTaken : List Str := ["_law_row", "_law_many", "_law_found", "_law_cell"]
theorem scTaken : FnScope nTaken ["_law_row", "_law_many"] (defScope sTaken) := ⟨rfl, rfl, rfl, by decide +kernel, rfl, by decide +kernel, by decide +kernel⟩
def spTaken : Sp := fun vs H Q _ => ∃ r m, vs = [.ref r, .int m] ∧ Row K H r ∧ 0 < m ∧ m < 1073741824 ∧ ∀ n G, 0 ≤ n → n < m → Dr K r H G → Q (.int n) G
theorem ev_int {σ : L2.St} {H : Hp} {te : TE} {i : Int} (h : Ev te σ H (.int i)) : Ev (tCB (fun xs H Q => (∃ i, xs = [V.int i] ∧ Q (.int i) H) ∨ ∃ k, xs = [.bl k] ∧ Q (.int (if k then 1 else 0)) H) (tCons te tNil)) σ H (.int i) := fun H1 e Q q =>
  h H1 e _ fun H2 e2 => .inl ⟨i, rfl, q H2 e2⟩
theorem rv_mod {H : Hp} {i j : Int} (h : 0 < j) : RV (rI (fun _ j => 0 < j) fun i j => .int (i % j)) (.int i) (.int j) H (.int (i % j)) := rv_I h
theorem ok_taken {f : Addr} {fd : FuncData} (F : Fun K "_law_taken" "_law_taken" sTaken f fd) (T : Gv mg) : FnOk P w K mg base CX0 1 f fd ["_law_row", "_law_many"] (spTaken (K := K)) := by
  refine F.ok scTaken (fun vs H Q E h => ?_) (fun cdv A outer s H vs Q E hr h => ?_)
  · obtain ⟨r, m, rfl, _⟩ := h
    rfl
  · obtain ⟨r, m, rfl, ⟨a, i, z2, z3, ns, hrow, sc, hi⟩, hm0, hm1, k⟩ := h
    refine ⟨_, pss_cons (ps_if (pt_cmpR op_gt (pe_ix ix_list (pv 0) pe_int (fun _ _ => rfl)) pe_int (nomark _))
        (pss_cons (ps_set (i := 2) scTaken.nd rfl (Or.inl rfl) (pe_op op_mod (pe_callTy call_int1 (by rfl) T.int (by decide +kernel) (pa_cons (pe_ix ix_list (pv 0) pe_int (fun _ _ => rfl)) pa_nil)) (pv 1)))
        (pss_cons (ps_asg (pe_op op_fdiv (pe_ix ix_list (pv 0) pe_int (fun _ _ => rfl)) (pv 1)) (pg_sub (pv 0) pe_int set_list))
        (pss_one (ps_ret (pv 2))))) pss_nil)
      (pss_cons (ps_asg (pe_op op_add (pe_ix ix_list (pv 0) pe_int (fun _ _ => rfl)) pe_int) (pg_sub (pv 0) pe_int set_list))
      (pss_cons (ps_if (pt_cmpR op_gt (pe_ix ix_list (pv 0) pe_int (fun _ _ => rfl)) (pe_callB call_len_seq (by rfl) T.len PySem.boot_len (pa_cons (pe_ix ix_list (pv 0) pe_int (fun _ _ => rfl)) pa_nil)) (nomark _))
        (pss_cons (ps_asg (pe_op op_mod (pe_callTy call_int1 (by rfl) T.int (by decide +kernel) (pa_cons (pe_op op_add (pe_op op_mul (pe_ix ix_list (pv 0) pe_int (fun _ _ => rfl)) pe_int) pe_int) pa_nil)) pe_int) (pg_sub (pv 0) pe_int set_list))
        (pss_one (ps_ret (pe_op op_mod (pe_callTy call_int1 (by rfl) T.int (by decide +kernel) (pa_cons (pe_op op_fdiv (pe_ix ix_list (pv 0) pe_int (fun _ _ => rfl)) pe_int) pa_nil)) (pv 1))))) pss_nil)
      (pss_cons (ps_set (i := 3) scTaken.nd rfl (Or.inl rfl) (pe_ix ix_list (pe_ix ix_list (pv 0) pe_int (fun _ _ => rfl)) (pe_op op_sub (pe_ix ix_list (pv 0) pe_int (fun _ _ => rfl)) pe_int) (fun _ _ => rfl)))
      (pss_cons (ps_asg (pe_op op_mod (pe_callTy call_int1 (by rfl) T.int (by decide +kernel) (pa_cons (pe_op op_add (pe_op op_add (pe_op op_mul (pe_ix ix_list (pv 0) pe_int (fun _ _ => rfl)) pe_int) (pv 3)) pe_int) pa_nil)) pe_int) (pg_sub (pv 0) pe_int set_list))
      (pss_cons (ps_if (pt_cmpR op_ge (pv 3) (pe_op op_pow pe_int pe_int) (nomark _)) (pss_one (ps_asg (pe_op op_fdiv (pv 3) (pv 1)) (pg_sub (pv 0) pe_int set_list))) pss_nil)
      (pss_one (ps_ret (pe_op op_mod (pe_callTy call_int1 (by rfl) T.int (by decide +kernel) (pa_cons (pv 3) pa_nil)) (pv 1))))))))), ?_⟩
    have ixr : ∀ {σ : L2.St} {G : Hp} {j : Int} {a' : Addr} {i' s' t' : Int} {v : V}, σ[0]? = some (some (.ref r)) → G r = some (.lst (rowL a' i' s' t')) → atI (rowL a' i' s' t') j = some v → Ev (tOp (rIxL K) (tVar 0) (tC (.int j))) σ G v :=
      fun h1 h2 h3 => ev_op (ev_var h1) ev_c (rv_ixL (sq_of h2) h3)
    refine q_when (b := decide (0 < z3)) (et_test (ev_op (ixr rfl hrow rfl) ev_c rv_I0)) (fun hb H1 e1 => ?_) (fun hb H1 e1 => ?_)
    · -- the rest of a great cell
      refine q_asg (ev_op (ev_int (ixr rfl (e1 _ _ hrow) rfl)) (ev_var rfl) (rv_mod hm0)) fun H2 e2 => ?_
      refine q_setL (j := 3) ((e1.trans e2) _ _ hrow) (ev_op (ixr rfl ((e1.trans e2) _ _ hrow) rfl) (ev_var rfl) (rv_I ⟨hm0, hm1⟩)) (ev_var rfl) ev_c (by show 3 < 4; decide) fun H3 e3 => ?_
      refine s_ret (v := .int (z3 % m)) (ev_var rfl) fun H4 e4 => ?_
      have kp : Kp r H (upd H3 r (.lst ((rowL a i z2 z3).set 3 (.int (z3 / m))))) := (Kp.of_ex ((e1.trans e2).trans e3)).up
      exact k _ H4 (Int.emod_nonneg _ (by omega)) (Int.emod_lt_of_pos _ hm0) (Dr.ex ⟨kp, a, i, z2, z3 / m, ns, upd_same, sc.keep hrow kp, hi⟩ e4)
    · refine q_setL (j := 1) (e1 _ _ hrow) (ev_op (ixr rfl (e1 _ _ hrow) rfl) ev_c rv_I0) (ev_var rfl) ev_c (by show 1 < 4; decide) fun H2 e2 => ?_
      have kp2 : Kp r H (upd H2 r (.lst (rowL a (i + 1) z2 z3))) := (Kp.of_ex (e1.trans e2)).up
      have row2 : (upd H2 r (.lst (rowL a (i + 1) z2 z3))) r = some (.lst (rowL a (i + 1) z2 z3)) := upd_same
      show tSeq (tIfS _ _ tNext) _ _ _ (upd H2 r (.lst (rowL a (i + 1) z2 z3)))
      generalize upd H2 r (.lst (rowL a (i + 1) z2 z3)) = G2 at kp2 row2
      have sc2 := sc.keep hrow kp2
      refine q_when (b := decide ((ns.length : Int) < i + 1)) (et_test (ev_op (ixr rfl row2 rfl) (ev_is (ev_len (ixr rfl row2 rfl) sc2.sq) (by rw [List.length_map])) rv_I0)) (fun hb H3 e3 => ?_) (fun hb H3 e3 => ?_)
      · -- behind the script
        refine q_setL (j := 2) (e3 _ _ row2) (ev_op (ev_int (ev_op (ev_op (ixr rfl (e3 _ _ row2) rfl) ev_c (rv_I (.inr ⟨by decide, by decide⟩))) ev_c rv_I0)) ev_c (rv_mod (by decide))) (ev_var rfl) ev_c (by show 2 < 4; decide) fun H4 e4 => ?_
        show tRet _ _ _ (upd H4 r (.lst (rowL a (i + 1) ((z2 * 48271 + 11) % 2147483647) z3)))
        refine s_ret (v := .int ((z2 * 48271 + 11) % 2147483647 / 7 % m)) (ev_op (ev_int (ev_op (ixr rfl upd_same rfl) ev_c (rv_I ⟨by decide, by decide⟩))) (ev_var rfl) (rv_mod hm0)) fun H5 e5 => ?_
        have kp : Kp r H (upd H4 r (.lst (rowL a (i + 1) ((z2 * 48271 + 11) % 2147483647) z3))) := (kp2.trans (.of_ex (e3.trans e4))).up
        exact k _ H5 (Int.emod_nonneg _ (by omega)) (Int.emod_lt_of_pos _ hm0) (Dr.ex ⟨kp, a, _, _, _, ns, upd_same, sc.keep hrow kp, by omega⟩ e5)
      · have hlt : i + 1 ≤ (ns.length : Int) := by simpa using hb
        have hin : i.toNat < ns.length := by omega
        have hat : atI (ns.map V.int) (i + 1 - 1) = some (V.int ns[i.toNat]) := by
          have e : i + 1 - 1 = (i.toNat : Int) := by omega
          rw [e]
          exact atI_nat (by rw [List.getElem?_map, List.getElem?_eq_getElem hin]; rfl)
        generalize ns[i.toNat] = c at hat
        refine q_asg (ev_op (ixr rfl (e3 _ _ row2) rfl) (ev_op (ixr rfl (e3 _ _ row2) rfl) ev_c rv_I0) (rv_ixL (sc2.keep row2 (.of_ex e3)).sq hat)) fun H4 e4 => ?_
        refine q_setL (j := 2) ((e3.trans e4) _ _ row2) (ev_op (ev_int (ev_op (ev_op (ev_op (ixr rfl ((e3.trans e4) _ _ row2) rfl) ev_c (rv_I (.inr ⟨by decide, by decide⟩))) (ev_var rfl) rv_I0) ev_c rv_I0)) ev_c (rv_mod (by decide))) (ev_var rfl) ev_c (by show 2 < 4; decide) fun H5 e5 => ?_
        have kp5 : Kp r H (upd H5 r (.lst (rowL a (i + 1) ((z2 * 48271 + c + 11) % 2147483647) z3))) := (kp2.trans (.of_ex ((e3.trans e4).trans e5))).up
        have row5 : (upd H5 r (.lst (rowL a (i + 1) ((z2 * 48271 + c + 11) % 2147483647) z3))) r = some (.lst (rowL a (i + 1) ((z2 * 48271 + c + 11) % 2147483647) z3)) := upd_same
        show tSeq (tIfS _ _ tNext) _ _ _ (upd H5 r (.lst (rowL a (i + 1) ((z2 * 48271 + c + 11) % 2147483647) z3)))
        generalize (z2 * 48271 + c + 11) % 2147483647 = z2' at kp5 row5 ⊢
        generalize upd H5 r (.lst (rowL a (i + 1) z2' z3)) = G5 at kp5 row5 ⊢
        have fin : ∀ G6, Kp r H G6 → (∃ t, G6 r = some (.lst (rowL a (i + 1) z2' t))) → tRet (tOp (rI (fun _ j => 0 < j) fun i j => .int (i % j)) (tCB (fun xs H Q => (∃ i, xs = [V.int i] ∧ Q (.int i) H) ∨ ∃ k, xs = [.bl k] ∧ Q (.int (if k then 1 else 0)) H) (tCons (tVar 3) tNil)) (tVar 1))
            { nx := fun _ H' => Q .non H', rt := Q } [some (.ref r), some (.int m), none, some (.int c)] G6 := fun G6 k6 ⟨t, r6⟩ =>
          s_ret (v := .int (c % m)) (ev_op (ev_int (ev_var rfl)) (ev_var rfl) (rv_mod hm0)) fun H7 e7 => k _ H7 (Int.emod_nonneg _ (by omega)) (Int.emod_lt_of_pos _ hm0) (Dr.ex ⟨k6, a, _, _, t, ns, r6, sc.keep hrow k6, by omega⟩ e7)
        refine q_when (b := decide ((10 : Int) ^ 18 ≤ c)) (et_test (ev_op (ev_var rfl) (ev_op ev_c ev_c (rv_I ⟨by decide, by decide, by decide⟩)) rv_I0)) (fun hb6 H6 e6 => ?_) (fun hb6 H6 e6 => fin H6 (kp5.trans (.of_ex e6)) ⟨_, e6 _ _ row5⟩)
        refine s_setL (j := 3) (e6 _ _ row5) (ev_op (ev_var rfl) (ev_var rfl) (rv_I ⟨hm0, hm1⟩)) (ev_var rfl) ev_c (by show 3 < 4; decide) fun H7 e7 => ?_
        exact fin _ ((kp5.trans (.of_ex (e6.trans e7))).up) ⟨c / m, upd_same⟩
end
end Bl
namespace Bl
open PySem PySem.Spec PyProof.Rows L2 Bk Bm Evl Be Cr Bp TL
section
variable {K : PySem.W.Frag} {H G : Hp} {r D : Addr}
theorem Row.updL {ys zs : List V} (h : Row K G r) (hD : G D = some (.lst ys)) (hne : D ≠ r) : Row K (upd G D (.lst zs)) r := by
  obtain ⟨a, i, s, z, ns, hr, sc, hi⟩ := h
  refine ⟨a, i, s, z, ns, by rw [upd_ne hne.symm]; exact hr, ?_, hi⟩
  rcases sc with ⟨o, h⟩ | h
  · exact .inl ⟨o, by rw [upd_ne (ne_of h hD (by intro z; cases z))]; exact h⟩
  · exact .inr h
theorem Kp.updL {o : HO} (h : Kp r H G) (hD : H D = none) : Kp r H (upd G D o) := fun b u n e => by
  rw [upd_ne (ne_of_none e hD)]
  exact h b u n e
theorem Dr.updL {ys zs : List V} (d : Dr K r H G) (hD : H D = none) (hg : G D = some (.lst ys)) (hne : D ≠ r) : Dr K r H (upd G D (.lst zs)) := ⟨d.kp.updL hD, d.row.updL hg hne⟩
theorem Row.at (h : Row K H r) : ∃ xs, H r = some (.lst xs) := by
  obtain ⟨a, i, s, z, ns, hr, _⟩ := h
  exact ⟨_, hr⟩
theorem Row.ne_new (h : Row K H r) {p : Addr} (hp : H p = none) : p ≠ r := by
  obtain ⟨xs, e⟩ := h.at
  exact (ne_of_none e hp).symm
theorem Dr.free {p : Addr} (d : Dr K r H G) (h : Row K H r) (hp : G p = none) : H p = none := by
  cases e : H p with
  | none => rfl
  | some o =>
    have n : p ≠ r := d.row.ne_new hp
    rw [d.kp p o n e] at hp
    cases hp
end
section
variable {P : Program} {w : World} {K : PySem.W.Frag} {mg : Str → Option Value} {base : Heap}
theorem scOne : FnScope ["_law_row", "_law_things"] ["_law_row", "_law_things"] (defScope sOne) := ⟨rfl, rfl, rfl, by decide +kernel, rfl, by decide +kernel, by decide +kernel⟩
def spOne : Sp := fun vs H Q _ => ∃ r t xs, vs = [.ref r, .ref t] ∧ Row K H r ∧ t ≠ r ∧ H t = some (.lst xs) ∧ 0 < xs.length ∧ xs.length < 1000000 ∧ ∀ v G, v ∈ xs → Dr K r H G → Q v G
/-- a draw below m -/
theorem draw {σ : L2.St} {H : Hp} {ta tm : TE} {r : Addr} {m : Int} {Q : VK} (hr : Ev ta σ H (.ref r)) (hm : Ev tm σ H (.int m)) (row : Row K H r) (h0 : 0 < m) (h1 : m < 1000000) (k : ∀ n G, 0 ≤ n → n < m → Dr K r H G → Q (.int n) G) :
    tCall (spTaken (K := K)) [] E0 (tCons ta (tCons tm tNil)) σ H Q :=
  hr H (Ex.refl _) _ fun H1 e1 => hm H1 e1 _ fun H2 e2 => ⟨r, m, rfl, row.ex (e1.trans e2), h0, by omega, fun n G hn hm d => k n G hn hm (Dr.pre (e1.trans e2) d)⟩
theorem ok_one {f : Addr} {fd : FuncData} (F : Fun K "_law_one" "_law_one" sOne f fd) (T : Gv mg) (cT : Cal P w K mg base CX0 1 "_law_taken" ["_law_row", "_law_many"] (spTaken (K := K))) : FnOk P w K mg base CX0 2 f fd ["_law_row", "_law_things"] (spOne (K := K)) := by
  refine F.ok scOne (fun vs H Q E h => ?_) (fun cdv A outer s H vs Q E hr h => ?_)
  · obtain ⟨r, t, xs, rfl, _⟩ := h
    rfl
  · obtain ⟨r, t, xs, rfl, row, hne, ht, h0, h1, k⟩ := h
    refine ⟨_, pss_one (ps_ret (pe_ix ix_list (pv 1) (pe_call cT.F hr (by rfl) cT.g cT.kp cT.b .nil pass0 (pa_cons (pv 0) (pa_cons (pe_callB call_len_seq (by rfl) T.len PySem.boot_len (pa_cons (pv 1) pa_nil)) pa_nil))) (fun _ _ => rfl))), ?_⟩
    refine ⟨_, rfl, draw (m := (xs.length : Int)) (ev_var rfl) (ev_len (ev_var rfl) (sq_of ht)) row (by omega) (by omega) fun n G hn hm d => ?_⟩
    have hin : n.toNat < xs.length := by omega
    refine ⟨t, xs, n, xs[n.toNat], rfl, rfl, sq_of (d.kp _ _ hne ht), ?_, k _ G (List.getElem_mem hin) d⟩
    exact at_of (j := n.toNat) (by omega) (List.getElem?_eq_getElem hin)
/-- written values -/
def tCs : List V → TA
  | [] => tNil
  | v :: r => tCons (tC v) (tCs r)
theorem ea_cs {σ : L2.St} {H : Hp} : ∀ vs : List V, EvA (tCs vs) σ H vs
  | [] => ea_nil
  | _ :: r => ea_cons ev_c (ea_cs r)
theorem el_cat {σ : L2.St} {H : Hp} {ta tb : TE} {l : Addr} {xs zs : List V} (ha : Ev ta σ H (.ref l)) (hl : H l = some (.lst xs)) (hb : EvL tb σ H zs) (hz : xs.length + zs.length ≤ 100000) : EvL (tOp rCat ta tb) σ H (xs ++ zs) := fun H1 e Q q =>
  ha H1 e _ fun H2 e2 => hb H2 (e.trans e2) _ fun b H3 hb3 e3 h3 => ⟨l, b, xs, zs, rfl, rfl, ((e.trans e2).trans e3) _ _ hl, h3, sz_of hz, fun p hp => q p _ (fresh_back (e2.trans e3) hp) ((e2.trans e3).trans (Ex.new hp)) upd_same⟩
end
end Bl
namespace Bl
open PySem PySem.Spec PyProof.Rows L2 Bk Bm Evl Be Cr Bp TL
abbrev sOddP : Stmt := top 32
section
variable {X : Cx}
/-- x * n of a text -/
def rMulS : R2 := fun x y H Q => ∃ z n, x = .str z ∧ y = .int n ∧ MulOk z n ∧ Q (.str (Txt.mul z n)) H
theorem op_mulS : OpR X (binaryOp .Mult) rMulS := by
  intro pins s σ H x y v u Q I rx ry h
  obtain ⟨z, n, rfl, rfl, hok, q⟩ := h
  obtain ⟨t, rfl⟩ := rx
  obtain ⟨t', rfl⟩ := ry
  exact SB.mul hok fun t2 k => ⟨.str (Txt.mul z n), H, I.tok k, ⟨_, rfl⟩, q⟩
end
theorem Sm.kp {r : Addr} {H G : Hp} {v : V} {xs : List V} (h : Sm H v) (hr : H r = some (.lst xs)) (hx : xs.length ≠ 1) (k : Kp r H G) : Sm G v := by
  cases h with
  | non => exact .non
  | bl b => exact .bl b
  | int i => exact .int i
  | str x h => exact .str x h
  | l1 h => exact .l1 (k _ _ (ne_of h hr (by intro z; cases z; exact hx rfl)) h)
  | t1 h => exact .t1 (k _ _ (ne_of h hr (by intro z; cases z)) h)
  | d0 h => exact .d0 (k _ _ (ne_of h hr (by intro z; cases z)) h)
theorem Sm.dr {K : PySem.W.Frag} {r : Addr} {H G : Hp} {v : V} (h : Sm H v) (row : Row K H r) (d : Dr K r H G) : Sm G v := by
  obtain ⟨a, i, s, z, ns, hr, _⟩ := row
  exact Sm.kp h hr (by show 4 ≠ 1; decide) d.kp
section
variable {P : Program} {w : World} {K : PySem.W.Frag} {mg : Str → Option Value} {base : Heap}
theorem scOddP : FnScope ["_law_row", "_law_odd"] ["_law_row"] (defScope sOddP) := ⟨rfl, rfl, rfl, by decide +kernel, rfl, by decide +kernel, by decide +kernel⟩
def oddS : List Str := ["", "/", "a/", "/a", "A", "a b", "a//b", "a/b/c/d", "abcdefg", "a-b"].map Str.ofString
def oddL (t l : Addr) : List V := [.non, .int 0, .bl true] ++ oddS.map V.str ++ [.ref t, .ref l]
theorem odd_strs : ∀ x ∈ Str.ofString "a\n" :: oddS, x.length ≤ 1000 ∧ pathB x = false := by decide +kernel
def spOdd (ok : V → Bool) : Sp := fun vs H Q _ => ∃ r, vs = [.ref r] ∧ Row K H r ∧ ∀ v G, Dr K r H G → Sm G v → ok v = false → Q v G
theorem ok_oddP {f : Addr} {fd : FuncData} (F : Fun K "_law_odd_path" "_law_odd_path" sOddP f fd) (T : Gv mg) (cT : Cal P w K mg base CX0 1 "_law_taken" ["_law_row", "_law_many"] (spTaken (K := K))) : FnOk P w K mg base CX0 2 f fd ["_law_row"] (spOdd (K := K) isPathV) := by
  refine F.ok scOddP (fun vs H Q E h => ?_) (fun cdv A outer s H vs Q E hr h => ?_)
  · obtain ⟨r, rfl, _⟩ := h
    rfl
  · obtain ⟨r, rfl, row, k⟩ := h
    refine ⟨_, pss_cons (ps_set (i := 1) scOddP.nd rfl (Or.inl rfl) (pe_lst (pa_cons pe_non (pa_cons pe_int (pa_cons pe_bl (pa_cons pe_str (pa_cons pe_str (pa_cons pe_str (pa_cons pe_str (pa_cons pe_str (pa_cons pe_str (pa_cons pe_str (pa_cons pe_str (pa_cons pe_str (pa_cons pe_str
        (pa_cons (pe_tup (pa_cons pe_str pa_nil)) (pa_cons (pe_lst (pa_cons pe_str pa_nil)) pa_nil)))))))))))))))))
      (pss_cons (ps_set (i := 1) scOddP.nd rfl (Or.inl rfl) (pe_op op_cat (pv 1) (pe_lst (pa_cons pe_dnewK (pa_cons pe_str pa_nil)))))
      (pss_one (ps_ret (pe_ix ix_list (pv 1) (pe_call cT.F hr (by rfl) cT.g cT.kp cT.b .nil pass0 (pa_cons (pv 0) (pa_cons (pe_callB call_len_seq (by rfl) T.len PySem.boot_len (pa_cons (pv 1) pa_nil)) pa_nil))) (fun _ _ => rfl))))), ?_⟩
    refine ⟨by show 1 ≤ sizeLine; decide, fun t ht => ⟨by show 1 ≤ sizeLine; decide, fun l hl => ⟨by show 15 ≤ sizeLine; decide, fun o ho => ?_⟩⟩⟩
    refine ⟨_, rfl, fun d hd => ⟨by show 2 ≤ sizeLine; decide, fun l2 hl2 => ⟨o, l2, oddL t l, [.ref d, .str (Str.ofString "a\n")], rfl, rfl, ?_, upd_same, by show 15 + 2 ≤ sizeLine; decide, fun o2 ho2 => ?_⟩⟩⟩
    · exact (Ex.new hl2) _ _ ((Ex.new hd) _ _ upd_same)
    have eAll := (Ex.new (o := .tup [.str (Str.ofString "a")]) ht).trans ((Ex.new (o := .lst [.str (Str.ofString "a")]) hl).trans ((Ex.new (o := .lst (oddL t l)) ho).trans ((Ex.new (o := .dK []) hd).trans ((Ex.new (o := .lst [V.ref d, V.str (Str.ofString "a\n")]) hl2).trans (Ex.new (o := .lst (oddL t l ++ [V.ref d, V.str (Str.ofString "a\n")])) ho2)))))
    have row2 := row.ex eAll
    have ft := ((Ex.new (o := .lst [.str (Str.ofString "a")]) hl).trans ((Ex.new (o := .lst (oddL t l)) ho).trans ((Ex.new (o := .dK []) hd).trans ((Ex.new (o := .lst [V.ref d, V.str (Str.ofString "a\n")]) hl2).trans (Ex.new (o := .lst (oddL t l ++ [V.ref d, V.str (Str.ofString "a\n")])) ho2))))) _ _ (upd_same (a := t) (o := .tup [.str (Str.ofString "a")]) (H := H))
    have fl := ((Ex.new (o := .lst (oddL t l)) ho).trans ((Ex.new (o := .dK []) hd).trans ((Ex.new (o := .lst [V.ref d, V.str (Str.ofString "a\n")]) hl2).trans (Ex.new (o := .lst (oddL t l ++ [V.ref d, V.str (Str.ofString "a\n")])) ho2)))) _ _ (upd_same (a := l) (o := .lst [.str (Str.ofString "a")]))
    have fd' := ((Ex.new (o := .lst [V.ref d, V.str (Str.ofString "a\n")]) hl2).trans (Ex.new (o := .lst (oddL t l ++ [V.ref d, V.str (Str.ofString "a\n")])) ho2)) _ _ (upd_same (a := d) (o := .dK []))
    have neo : o2 ≠ r := (row.ex ((Ex.new (o := .tup [.str (Str.ofString "a")]) ht).trans ((Ex.new (o := .lst [.str (Str.ofString "a")]) hl).trans ((Ex.new (o := .lst (oddL t l)) ho).trans ((Ex.new (o := .dK []) hd).trans (Ex.new (o := .lst [V.ref d, V.str (Str.ofString "a\n")]) hl2)))))).ne_new ho2
    refine ⟨_, rfl, draw (m := 17) (ev_var rfl) (ev_is (ev_len (ev_var rfl) (sq_of upd_same)) rfl) row2 (by decide) (by decide) fun n G hn hm dd => ?_⟩
    have hv : ∀ v ∈ oddL t l ++ [V.ref d, V.str (Str.ofString "a\n")], ∀ F : Hp, F t = some (.tup [.str (Str.ofString "a")]) → F l = some (.lst [.str (Str.ofString "a")]) → F d = some (.dK []) → Sm F v ∧ isPathV v = false := by
      intro v hv F f1 f2 f3
      simp only [oddL, List.mem_append, List.mem_cons, List.not_mem_nil, or_false, List.mem_map] at hv
      rcases hv with ((((rfl | rfl | rfl) | ⟨x, hx, rfl⟩) | (rfl | rfl)) | (rfl | rfl))
      · exact ⟨.non, rfl⟩
      · exact ⟨.int _, rfl⟩
      · exact ⟨.bl _, rfl⟩
      · have h := odd_strs x (List.mem_cons_of_mem _ hx)
        exact ⟨.str _ h.1, h.2⟩
      · exact ⟨.t1 f1, rfl⟩
      · exact ⟨.l1 f2, rfl⟩
      · exact ⟨.d0 f3, rfl⟩
      · have h := odd_strs _ List.mem_cons_self
        exact ⟨.str _ h.1, h.2⟩
    have hin : n.toNat < (oddL t l ++ [V.ref d, V.str (Str.ofString "a\n")]).length := by
      show n.toNat < 17
      omega
    obtain ⟨s1, s2⟩ := hv _ (List.getElem_mem hin) _ ft fl fd'
    refine ⟨o2, _, n, _, rfl, rfl, sq_of (dd.kp _ _ neo upd_same), at_of (j := n.toNat) (by omega) (List.getElem?_eq_getElem hin), ?_⟩
    exact k _ G (Dr.pre eAll dd) (Sm.dr s1 row2 dd) s2
end
end Bl
namespace Bl
open PySem PySem.Spec PyProof.Rows L2 Bk Bm Evl Be Cr Bp TL
abbrev sRuleL : Stmt := top 30
def five : List Str := ["m", "n", "o", "p/q", "r"].map Str.ofString
def first5 : List Str := ["a", "b", "c", "d/x", "d/y"].map Str.ofString
def ten : List Str := first5 ++ five
def folds : List Str := ["", "d", "e", "e/f", "a"].map Str.ofString
def wrds : List Str := ["b", "use", "y", "a b", "1", "use a", "use d/x"].map Str.ofString
def knds : List Str := ["join", "join", "size", "sort", "pick", "names", "use", "use", "choose", "choose", "need"].map Str.ofString
def okS (x : Str) : Prop := x.length ≤ 1000 ∧ PyData.strOk x = true
instance (x : Str) : Decidable (okS x) := by unfold okS; infer_instance
theorem ten_ok : ∀ y ∈ ten, okS y ∧ pathB y = true := by decide +kernel
theorem folds_ok : ∀ y ∈ folds, okS y ∧ isFolderV (.str y) = true := by decide +kernel
theorem wrds_ok : ∀ y ∈ wrds, okS y ∧ wordB y = true := by decide +kernel
theorem knds_ok : ∀ k ∈ knds, okS k ∧ k ∈ kinds9 := by decide +kernel
theorem five_ten : ∀ y ∈ five, y ∈ ten := by decide +kernel
/-- a thing of a drawn rule -/
inductive Tg (H : Hp) : V → Option (List V) × PyData → Prop
  | s (x : Str) (h : okS x) : Tg H (.str x) (none, .str x)
  | t {b : Addr} {ys : List Str} (h : H b = some (.tup (ys.map V.str))) (hy : ∀ y ∈ ys, okS y) (hl : ys.length ≤ 100) : Tg H (.ref b) (some (ys.map V.str), .tuple (ys.map PyData.str))
/-- a drawn rule that makes m -/
def Good (H : Hp) (v : V) (md : Str × PyData) : Prop := ∃ a k ts ods, v = .ref a ∧ H a = some (.tup (.str md.1 :: .str k :: ts)) ∧ Paired (Tg H) ts ods ∧ ods.length ≤ 3 ∧ k ∈ knds ∧ (k = Str.ofString "names" → ∀ x ∈ ts, ∃ y, x = .str y ∧ okS y) ∧
  md.1 ∈ five ∧ ruleB (.str md.1) (.str k) ts (ods.map (·.1)) = true ∧ md.2 = .tuple (.str md.1 :: .str k :: ods.map (·.2))
section
variable {H G : Hp} {v : V} {K : PySem.W.Frag} {r : Addr}
theorem Tg.imp {o : Option (List V) × PyData} (f : ∀ b ys, H b = some (.tup ys) → G b = some (.tup ys)) (h : Tg H v o) : Tg G v o := by
  cases h with
  | s x h => exact .s x h
  | t h hy hl => exact .t (f _ _ h) hy hl
theorem Good.imp {md : Str × PyData} (f : ∀ b ys, H b = some (.tup ys) → G b = some (.tup ys)) (h : Good H v md) : Good G v md := by
  obtain ⟨a, k, ts, ods, h0, h1, h2, h3⟩ := h
  exact ⟨a, k, ts, ods, h0, f _ _ h1, pr_mono h2 fun _ _ z => z.imp f, h3⟩
theorem Good.mono {md : Str × PyData} (e : Ex H G) (h : Good H v md) : Good G v md := h.imp fun b ys z => e _ _ z
theorem Good.dr {md : Str × PyData} (h : Good H v md) (row : Row K H r) (d : Dr K r H G) : Good G v md := h.imp fun b ys z => by
  obtain ⟨rl, hr⟩ := row.at
  exact d.kp _ _ (ne_of z hr (by intro z; cases z)) z
theorem Good.updL {md : Str × PyData} {D : Addr} {xs zs : List V} (h : Good H v md) (hr : H D = some (.lst xs)) : Good (upd H D (.lst zs)) v md := h.imp fun b ys z => by
  rw [upd_ne (ne_of z hr (by intro z; cases z))]
  exact z
theorem Tg.th {o : Option (List V) × PyData} (h : Tg H v o) : Th K H v o.1 := by
  cases h with
  | s x h => exact .sm (.str x h.1) (kd_str x) (by decide)
  | @t b ys h hy hl =>
    refine .tu h (fun x hx => ?_) (by rw [List.length_map]; omega)
    obtain ⟨y, hy', rfl⟩ := List.mem_map.mp hx
    exact .str y (hy y hy').1
theorem Good.itr {md : Str × PyData} (h : Good H v md) : Itr K H v (some md.1) := by
  obtain ⟨a, k, ts, ods, rfl, h1, h2, h3, h4, h5, h6, h7, h8⟩ := h
  have hm := (ten_ok _ (five_ten _ h6)).1.1
  have r := Ru.long (K := K) (os := ods.map (·.1)) h1 (Sm.str md.1 hm) (Sm.str k (knds_ok k h4).1.1) (fun z hz => by cases hz; exact (knds_ok k h4).2) ?_ (by have := pr_len h2; omega) (fun z x hx => ?_)
  · rw [h7] at r
    exact ⟨r, ⟨a, _, rfl, h1⟩, hm⟩
  · clear h3 h7 h8 h5 h1
    induction h2 with
    | nil => exact .nil
    | cons r _ ih => exact .cons r.th ih
  · injection z with z
    obtain ⟨y, rfl, hy⟩ := h5 z x hx
    exact .str y hy.1
theorem ruleB_of {m k : Str} {fs : List Str} {ts : List V} {os : List (Option (List V))} (h0 : pathB m = true) (hf : formOf k = some fs) (hl : ts.length = fs.length) (ha : ((fs.zip (ts.zip os)).all fun p => fitsV p.1 p.2.1 p.2.2) = true) :
    ruleB (.str m) (.str k) ts os = true := by
  unfold ruleB
  simp only [hf, ha, hl, decide_true]
  show (pathB m && _) = true
  rw [h0]
  rfl
theorem fit_path {v : V} {o : Option (List V)} : fitsV (Str.ofString "path") v o = isPathV v := by
  unfold fitsV
  rw [if_pos rfl]
theorem fit_word {v : V} {o : Option (List V)} : fitsV (Str.ofString "word") v o = isWordV v := by
  unfold fitsV
  rw [if_neg (by decide +kernel), if_pos rfl]
theorem fit_fold {v : V} {o : Option (List V)} : fitsV (Str.ofString "folder") v o = isFolderV v := by
  unfold fitsV
  rw [if_neg (by decide +kernel), if_neg (by decide +kernel), if_pos rfl]
theorem fit_paths {v : V} {xs : List V} : fitsV (Str.ofString "paths") v (some xs) = (decide (xs.length ≤ 4) && xs.all isPathV) := by
  unfold fitsV
  rw [if_neg (by decide +kernel), if_neg (by decide +kernel), if_neg (by decide +kernel)]
theorem fit_pathsN {v : V} : fitsV (Str.ofString "paths") v none = false := by
  unfold fitsV
  rw [if_neg (by decide +kernel), if_neg (by decide +kernel), if_neg (by decide +kernel)]
theorem f_join : formOf (Str.ofString "join") = some [Str.ofString "paths"] := by decide +kernel
theorem f_choose : formOf (Str.ofString "choose") = some [Str.ofString "path", Str.ofString "path", Str.ofString "path"] := by decide +kernel
theorem f_names : formOf (Str.ofString "names") = some [Str.ofString "folder"] := by decide +kernel
theorem k_pn : ∀ k ∈ knds, inV (.str k) [.str (Str.ofString "pick"), .str (Str.ofString "need")] = true → formOf k = some [Str.ofString "path", Str.ofString "word"] ∧ k ≠ Str.ofString "names" := by decide +kernel
theorem k_one : ∀ k ∈ knds, k ≠ Str.ofString "join" → k ≠ Str.ofString "choose" → inV (.str k) [.str (Str.ofString "pick"), .str (Str.ofString "need")] = false → k ≠ Str.ofString "names" → formOf k = some [Str.ofString "path"] := by decide +kernel
/-- the rules, each with its own things -/
theorem good_1 {a : Addr} {m k y : Str} (h : H a = some (.tup [.str m, .str k, .str y])) (hm : m ∈ five) (hk : k ∈ knds) (hy : okS y) (hf : (formOf k = some [Str.ofString "path"] ∧ pathB y = true) ∨ (k = Str.ofString "names" ∧ isFolderV (.str y) = true)) :
    Good H (.ref a) (m, .tuple [.str m, .str k, .str y]) := by
  refine ⟨a, k, [.str y], [(none, .str y)], rfl, h, .cons (.s y hy) .nil, by show 1 ≤ 3; decide, hk, fun _ x hx => ⟨y, List.mem_singleton.mp hx, hy⟩, hm, ?_, rfl⟩
  rcases hf with ⟨hf, hp⟩ | ⟨rfl, hp⟩
  · exact ruleB_of (ten_ok _ (five_ten _ hm)).2 hf rfl (by show (fitsV _ (.str y) none && true) = true; rw [fit_path]; show (pathB y && true) = true; rw [hp]; rfl)
  · exact ruleB_of (ten_ok _ (five_ten _ hm)).2 f_names rfl (by show (fitsV _ (.str y) none && true) = true; rw [fit_fold, hp]; rfl)
theorem good_2 {a : Addr} {m k y z : Str} (h : H a = some (.tup [.str m, .str k, .str y, .str z])) (hm : m ∈ five) (hk : k ∈ knds) (hy : okS y) (hz : okS z) (hf : formOf k = some [Str.ofString "path", Str.ofString "word"]) (hp : pathB y = true) (hw : wordB z = true) :
    Good H (.ref a) (m, .tuple [.str m, .str k, .str y, .str z]) := by
  refine ⟨a, k, [.str y, .str z], [(none, .str y), (none, .str z)], rfl, h, .cons (.s y hy) (.cons (.s z hz) .nil), by show 2 ≤ 3; decide, hk, fun _ x hx => ?_, hm, ?_, rfl⟩
  · rcases List.mem_cons.mp hx with rfl | hx
    · exact ⟨y, rfl, hy⟩
    · exact ⟨z, List.mem_singleton.mp hx, hz⟩
  · refine ruleB_of (ten_ok _ (five_ten _ hm)).2 hf rfl ?_
    show (fitsV _ (.str y) none && (fitsV _ (.str z) none && true)) = true
    rw [fit_path, fit_word]
    show (pathB y && (wordB z && true)) = true
    rw [hp, hw]
    rfl
theorem good_3 {a : Addr} {m x y z : Str} (h : H a = some (.tup [.str m, .str (Str.ofString "choose"), .str x, .str y, .str z])) (hm : m ∈ five) (hx : x ∈ ten) (hy : y ∈ ten) (hz : z ∈ ten) :
    Good H (.ref a) (m, .tuple [.str m, .str (Str.ofString "choose"), .str x, .str y, .str z]) := by
  refine ⟨a, _, [.str x, .str y, .str z], [(none, .str x), (none, .str y), (none, .str z)], rfl, h, .cons (.s x (ten_ok x hx).1) (.cons (.s y (ten_ok y hy).1) (.cons (.s z (ten_ok z hz).1) .nil)), by show 3 ≤ 3; decide, by decide +kernel, fun c => absurd c (by decide +kernel), hm, ?_, rfl⟩
  refine ruleB_of (ten_ok _ (five_ten _ hm)).2 f_choose rfl ?_
  show (fitsV _ (.str x) none && (fitsV _ (.str y) none && (fitsV _ (.str z) none && true))) = true
  rw [fit_path, fit_path, fit_path]
  show (pathB x && (pathB y && (pathB z && true))) = true
  rw [(ten_ok x hx).2, (ten_ok y hy).2, (ten_ok z hz).2]
  rfl
theorem good_j {a b : Addr} {m : Str} {ys : List Str} (h : H a = some (.tup [.str m, .str (Str.ofString "join"), .ref b])) (hb : H b = some (.tup (ys.map V.str))) (hm : m ∈ five) (hy : ∀ y ∈ ys, y ∈ ten) (hl : ys.length ≤ 4) :
    Good H (.ref a) (m, .tuple [.str m, .str (Str.ofString "join"), .tuple (ys.map PyData.str)]) := by
  refine ⟨a, _, [.ref b], [(some (ys.map V.str), .tuple (ys.map PyData.str))], rfl, h, .cons (.t hb (fun y h => (ten_ok y (hy y h)).1) (by omega)) .nil, by show 1 ≤ 3; decide, by decide +kernel, fun c => absurd c (by decide +kernel), hm, ?_, rfl⟩
  refine ruleB_of (ten_ok _ (five_ten _ hm)).2 f_join rfl ?_
  show (fitsV _ (.ref b) (some (ys.map V.str)) && true) = true
  rw [fit_paths, List.length_map, decide_eq_true hl, Bool.true_and, Bool.and_true, List.all_map, List.all_eq_true]
  exact fun y h => (ten_ok y (hy y h)).2
end
end Bl
namespace Bl
open PySem PySem.Spec PyProof.Rows L2 Bk Bm Evl Be Cr Bp TL
section
variable {P : Program} {w : World} {K : PySem.W.Frag} {mg : Str → Option Value} {base : Heap}
abbrev nRl : List Str := ["_law_row", "_law_made", "_law_all_made", "_law_some", "_law_kind", "_law_many", "_law_k", "_law_more"]
theorem scRuleL : FnScope nRl ["_law_row", "_law_made", "_law_all_made"] (defScope sRuleL) := ⟨rfl, rfl, rfl, by decide +kernel, rfl, by decide +kernel, by decide +kernel⟩
def spRuleL : Sp := fun vs H Q _ => ∃ r t m, vs = [.ref r, .str m, .ref t] ∧ Row K H r ∧ t ≠ r ∧ H t = some (.lst (five.map V.str)) ∧ m ∈ five ∧ ∀ a d G, Dr K r H G → Good G (.ref a) (m, d) → Q (.ref a) G
theorem cut_mem {xs : List V} {lo hi : Option Int} {x : V} (h : x ∈ cutV xs lo hi) : x ∈ xs := by
  unfold cutV at h
  first
    | exact List.mem_of_mem_drop (List.mem_of_mem_take h)
    | exact List.mem_of_mem_take (List.mem_of_mem_drop h)
theorem cut_len {xs : List V} {lo hi : Option Int} : (cutV xs lo hi).length ≤ xs.length := by
  unfold cutV
  simp
  omega
/-- one of a list of texts -/
theorem one_str {xs : List Str} {v : V} (h : v ∈ xs.map V.str) : ∃ y ∈ xs, v = .str y := by
  obtain ⟨y, hy, rfl⟩ := List.mem_map.mp h
  exact ⟨y, hy, rfl⟩
/-- a draw from a list that stands -/
theorem drawL {σ : L2.St} {H : Hp} {ta tb : TE} {r t : Addr} {xs : List V} {Q : VK} (hr : Ev ta σ H (.ref r)) (ht : Ev tb σ H (.ref t)) (row : Row K H r) (hne : t ≠ r) (hx : H t = some (.lst xs)) (h0 : 0 < xs.length) (h1 : xs.length < 1000000)
    (k : ∀ v G, v ∈ xs → Dr K r H G → Q v G) : tCall (spOne (K := K)) [] E0 (tCons ta (tCons tb tNil)) σ H Q :=
  hr H (Ex.refl _) _ fun H1 e1 => ht H1 e1 _ fun H2 e2 => ⟨r, t, xs, rfl, row.ex (e1.trans e2), hne, (e1.trans e2) _ _ hx, h0, h1, fun v G hv d => k v G hv (Dr.pre (e1.trans e2) d)⟩
/-- a draw from a written list of texts -/
theorem drawS {σ : L2.St} {H : Hp} {ta : TE} {r : Addr} {xs : List Str} {Q : VK} (hr : Ev ta σ H (.ref r)) (row : Row K H r) (h0 : 0 < xs.length) (h1 : xs.length < 100000)
    (k : ∀ y G, y ∈ xs → Dr K r H G → Q (.str y) G) : tCall (spOne (K := K)) [] E0 (tCons ta (tCons (tLst (tCs (xs.map V.str))) tNil)) σ H Q :=
  hr H (Ex.refl _) _ fun H1 e1 => el_lst (ea_cs _) (by rw [List.length_map]; omega) H1 e1 _ fun p H2 hp e2 h2 => ⟨r, p, xs.map V.str, rfl, row.ex (e1.trans e2), (row.ex e1).ne_new hp, h2, by rw [List.length_map]; exact h0, by rw [List.length_map]; omega, fun v G hv d => by
    obtain ⟨y, hy, rfl⟩ := one_str hv
    exact k y G hy (Dr.pre (e1.trans e2) d)⟩
theorem q_raw {i : Nat} {te : TE} {tz : TS} {De : Ends} {σ : L2.St} {H : Hp} (h : te σ H (fun v H1 => tz De (σ.set i (some v)) H1)) : tSeq (tAsg te (gName i)) tz De σ H := h
theorem s_raw {i : Nat} {te : TE} {De : Ends} {σ : L2.St} {H : Hp} (h : te σ H (fun v H1 => De.nx (σ.set i (some v)) H1)) : tAsg te (gName i) De σ H := h
theorem op_raw {r : R2} {ta tb : TE} {σ : L2.St} {H : Hp} {Q : VK} (h : ta σ H (fun x H1 => tb σ H1 fun y H2 => r x y H2 Q)) : tOp r ta tb σ H Q := h
theorem tup_raw {ta : TA} {σ : L2.St} {H : Hp} {Q : VK} (h : ta σ H fun vs H1 => vs.length ≤ sizeLine ∧ ∀ p, H1 p = none → Q (.ref p) (upd H1 p (.tup vs))) : tTup ta σ H Q := h
theorem ok_ruleL {f : Addr} {fd : FuncData} (F : Fun K "_law_rule" "_law_rule" sRuleL f fd) (T : Gv mg) (cT : Cal P w K mg base CX0 1 "_law_taken" ["_law_row", "_law_many"] (spTaken (K := K)))
    (cO : Cal P w K mg base CX0 2 "_law_one" ["_law_row", "_law_things"] (spOne (K := K))) : FnOk P w K mg base CX0 3 f fd ["_law_row", "_law_made", "_law_all_made"] (spRuleL (K := K)) := by
  refine F.ok scRuleL (fun vs H Q E h => ?_) (fun cdv A outer s H vs Q E hr h => ?_)
  · obtain ⟨r, t, m, rfl, _⟩ := h
    rfl
  · obtain ⟨r, t, m, rfl, row, hne, ht, hm, k⟩ := h
    have hr1 : Room 1 _ := hr.mono (by decide)
    refine ⟨_, pss_cons (ps_set (i := 3) scRuleL.nd rfl (Or.inr rfl) (pe_op op_cat (pe_lst (pa_cons pe_str (pa_cons pe_str (pa_cons pe_str (pa_cons pe_str (pa_cons pe_str pa_nil))))))
        (pe_slice sl_list (pv 2) po_none (po_some (pe_op op_add pe_int (pe_call cT.F hr1 (by rfl) cT.g cT.kp cT.b .nil pass0 (pa_cons (pv 0) (pa_cons (pe_callB call_len_seq (by rfl) T.len PySem.boot_len (pa_cons (pv 2) pa_nil)) pa_nil))))))))
      (pss_cons (ps_set (i := 4) scRuleL.nd rfl (Or.inl rfl) (pe_call cO.F hr (by rfl) cO.g cO.kp cO.b .nil pass0 (pa_cons (pv 0) (pa_cons (pe_lst (pa_cons pe_str (pa_cons pe_str (pa_cons pe_str (pa_cons pe_str (pa_cons pe_str (pa_cons pe_str (pa_cons pe_str (pa_cons pe_str (pa_cons pe_str (pa_cons pe_str (pa_cons pe_str pa_nil)))))))))))) pa_nil))))
      (pss_cons (ps_if (pt_cmpR op_eq (pv 4) pe_str (nomark _))
        (pss_cons (ps_set (i := 5) scRuleL.nd rfl (Or.inl rfl) (pe_call cT.F hr1 (by rfl) cT.g cT.kp cT.b .nil pass0 (pa_cons (pv 0) (pa_cons (pe_ix ix_list (pe_lst (pa_cons pe_int (pa_cons pe_int (pa_cons pe_int pa_nil))))
          (pe_call cT.F hr1 (by rfl) cT.g cT.kp cT.b .nil pass0 (pa_cons (pv 0) (pa_cons pe_int pa_nil))) (fun _ _ => rfl)) pa_nil))))
        (pss_one (ps_ret (pe_tup (pa_cons (pv 1) (pa_cons (pv 4) (pa_cons (pe_callTy call_tuple_of (by rfl) T.tup (by decide +kernel) (pa_cons (pe_lc (own := [("_law_k", 6)]) (g := gName 6) (tt := tYes) rfl scRuleL.nd
          (pi_range1 (by rfl) T.rng (pa_cons (pv 5) pa_nil)) (blkOk_by (N := nRl) (sc := defScope sRuleL) (by decide +kernel)) (fun _ _ _ _ _ => pg_name (i := 6) scRuleL.nd rfl (Or.inl rfl)) (fun _ _ _ _ _ => pts_nil)
          (fun _ _ _ _ _ => pe_call cO.F hr (by rfl) cO.g cO.kp cO.b .nil pass0 (pa_cons (pv 0) (pa_cons (pv 3) pa_nil)))) pa_nil)) pa_nil))))))) pss_nil)
      (pss_cons (ps_set (i := 7) scRuleL.nd rfl (Or.inl rfl) (pe_tup (pa_cons (pe_call cO.F hr (by rfl) cO.g cO.kp cO.b .nil pass0 (pa_cons (pv 0) (pa_cons (pe_ifExp (pt_cmpR op_eq (pv 4) pe_str (nomark _))
          (pe_lst (pa_cons pe_str (pa_cons pe_str (pa_cons pe_str (pa_cons pe_str (pa_cons pe_str pa_nil)))))) (pv 3)) pa_nil))) pa_nil)))
      (pss_cons (ps_if (pt_cmpR op_eq (pv 4) pe_str (nomark _))
        (pss_one (ps_set (i := 7) scRuleL.nd rfl (Or.inl rfl) (pe_op op_catA (pv 7) (pe_tup (pa_cons (pe_call cO.F hr (by rfl) cO.g cO.kp cO.b .nil pass0 (pa_cons (pv 0) (pa_cons (pv 3) pa_nil))) (pa_cons (pe_call cO.F hr (by rfl) cO.g cO.kp cO.b .nil pass0 (pa_cons (pv 0) (pa_cons (pv 3) pa_nil))) pa_nil))))))
        (pss_one (ps_if (pt_cmpR op_in_seq (pv 4) (pe_lst (pa_cons pe_str (pa_cons pe_str pa_nil))) (by rfl))
          (pss_one (ps_set (i := 7) scRuleL.nd rfl (Or.inl rfl) (pe_op op_catA (pv 7) (pe_tup (pa_cons (pe_call cO.F hr (by rfl) cO.g cO.kp cO.b .nil pass0 (pa_cons (pv 0) (pa_cons (pe_lst (pa_cons pe_str (pa_cons pe_str (pa_cons pe_str (pa_cons pe_str (pa_cons pe_str (pa_cons pe_str (pa_cons pe_str pa_nil)))))))) pa_nil))) pa_nil))))) pss_nil)))
      (pss_one (ps_ret (pe_op op_catA (pe_tup (pa_cons (pv 1) (pa_cons (pv 4) pa_nil))) (pv 7)))))))), ?_⟩
    refine q_raw (op_raw (el_lst (ea_cs (first5.map V.str)) (by decide) H (Ex.refl _) _ fun q0 H0 hq0 e0 h0 => ?_))
    have row0 := row.ex e0
    refine ⟨_, rfl, draw (m := 5) (ev_var rfl) (ev_is (ev_len (ev_var rfl) (sq_of (e0 _ _ ht))) rfl) row0 (by decide) (by decide) fun n0 G0 hn0 hm0 d0 => ?_⟩
    have neq0 : q0 ≠ r := row.ne_new hq0
    refine ⟨1, n0, rfl, rfl, _, rfl, t, _, rfl, sq_of (d0.kp _ _ hne (e0 _ _ ht)), fun q1 hq1 => ?_⟩
    have e5 : (five.map V.str).length = 5 := rfl
    have e6 : (first5.map V.str).length = 5 := rfl
    have cl := cut_len (xs := five.map V.str) (lo := none) (hi := some (1 + n0))
    refine ⟨q0, q1, _, _, rfl, rfl, (Ex.new hq1) _ _ (d0.kp _ _ neq0 h0), upd_same, sz_of (by omega), fun p hp => ?_⟩
    have hL : ∀ x ∈ first5.map V.str ++ cutV (five.map V.str) none (some (1 + n0)), ∃ y ∈ ten, x = .str y := by
      intro x hx
      rcases List.mem_append.mp hx with hx | hx
      · obtain ⟨y, hy, rfl⟩ := one_str hx
        exact ⟨y, List.mem_append_left _ hy, rfl⟩
      · obtain ⟨y, hy, rfl⟩ := one_str (cut_mem hx)
        exact ⟨y, List.mem_append_right _ hy, rfl⟩
    have hL1 : 0 < (first5.map V.str ++ cutV (five.map V.str) none (some (1 + n0))).length := by rw [List.length_append]; omega
    have hL2 : (first5.map V.str ++ cutV (five.map V.str) none (some (1 + n0))).length < 1000 := by rw [List.length_append]; omega
    have d3 : Dr K r H (upd (upd G0 q1 (.lst (cutV (five.map V.str) none (some (1 + n0))))) p (.lst (first5.map V.str ++ cutV (five.map V.str) none (some (1 + n0))))) := Dr.pre e0 (d0.ex ((Ex.new hq1).trans (Ex.new hp)))
    have hs : (upd (upd G0 q1 (.lst (cutV (five.map V.str) none (some (1 + n0))))) p (.lst (first5.map V.str ++ cutV (five.map V.str) none (some (1 + n0))))) p = some (.lst (first5.map V.str ++ cutV (five.map V.str) none (some (1 + n0)))) := upd_same
    have nep : p ≠ r := (d0.row.ex (Ex.new hq1)).ne_new hp
    show tSeq _ _ _ ([some (.ref r), some (.str m), some (.ref t), some (.ref p), none, none, none, none] : L2.St) _
    generalize upd (upd G0 q1 (.lst (cutV (five.map V.str) none (some (1 + n0))))) p (.lst (first5.map V.str ++ cutV (five.map V.str) none (some (1 + n0)))) = H3 at d3 hs ⊢
    generalize first5.map V.str ++ cutV (five.map V.str) none (some (1 + n0)) = L at hL hL1 hL2 hs
    clear hp hq1 cl d0 hm0 hn0 h0 e0 row0 neq0 hq0
    refine q_raw (drawS (xs := knds) (ev_var rfl) d3.row (by decide) (by decide) fun kd G4 hk d4 => ?_)
    have d4' := d3.trans d4
    have hs4 := d4.kp _ _ nep hs
    clear d4 hs d3
    refine q_when (b := decide (kd = Str.ofString "join")) (et_is (et_test (ev_op (ev_var rfl) ev_c (rv_eq rfl))) strEq) (fun hb H5 e5' => ?_) (fun hb H5 e5' => ?_)
    · have hj : kd = Str.ofString "join" := by simpa using hb
      subst hj
      have row5 := d4'.row.ex e5'
      refine ⟨_, rfl, by show 3 ≤ sizeLine; decide, fun q hq => ?_⟩
      have row6 : Row K (upd H5 q (.lst [.int 4, .int 4, .int 5])) r := row5.ex (Ex.new hq)
      have neq : q ≠ r := row5.ne_new hq
      refine draw (m := 3) (ev_var rfl) ev_c row6 (by decide) (by decide) fun n1 G1 hn1 hm1 d1 => ?_
      obtain ⟨m2, ha2, l2, u2⟩ : ∃ m2 : Int, atI [V.int 4, V.int 4, V.int 5] n1 = some (.int m2) ∧ 4 ≤ m2 ∧ m2 ≤ 5 := by
        have : n1 = 0 ∨ n1 = 1 ∨ n1 = 2 := by omega
        rcases this with rfl | rfl | rfl
        · exact ⟨4, rfl, by decide, by decide⟩
        · exact ⟨4, rfl, by decide, by decide⟩
        · exact ⟨5, rfl, by decide, by decide⟩
      refine ⟨q, _, n1, _, rfl, rfl, sq_of (d1.kp _ _ neq upd_same), ha2, r, m2, rfl, d1.row, by omega, by omega, fun n2 G2 hn2 hm2 d2 => ?_⟩
      have d02 : Dr K r H G2 := d4'.trans (Dr.pre e5' (Dr.trans (Dr.pre (Ex.new hq) d1) d2))
      have hs2 : G2 p = some (.lst L) := d2.kp _ _ nep (d1.kp _ _ nep ((Ex.new hq) _ _ (e5' _ _ hs4)))
      refine ⟨_, rfl, _, rfl, _, rfl, n2, rfl, by omega, by omega, fun D hD => ?_⟩
      have hD2 : H D = none := d02.free row hD
      have neD : D ≠ r := row.ne_new hD2
      have neDp : D ≠ p := (ne_of_none hs2 hD).symm
      refine lc_range (lo := 0) (n := n2.toNat) (fun i G => ∃ ys : List Str, ys.length = i ∧ (∀ y ∈ ys, y ∈ ten) ∧ G D = some (.lst (ys.map V.str)) ∧ G p = some (.lst L) ∧ Dr K r H G) ⟨[], rfl, fun _ z => (by cases z), upd_same, by rw [upd_ne neDp.symm]; exact hs2, ?_⟩ ?_ ?_
      · exact ⟨d02.kp.updL hD2, d02.row.ex (Ex.new hD)⟩
      · rintro i G hi ⟨ys, hlen, hys, hGD, hGp, d⟩
        refine ⟨rfl, ?_⟩
        unfold tYes
        dsimp only
        rw [if_pos rfl]
        refine ⟨_, rfl, _, rfl, r, p, L, rfl, d.row, nep, hGp, hL1, by omega, fun v G' hv d' => ?_⟩
        obtain ⟨y, hy, rfl⟩ := hL v hv
        refine ⟨ys.map V.str, d'.kp _ _ neD hGD, sz_lt (by rw [List.length_map]; omega), ys ++ [y], by simp [hlen], fun z hz => ?_, by rw [upd_same]; simp, by rw [upd_ne neDp.symm]; exact d'.kp _ _ nep hGp, (Dr.trans d d').updL hD2 (d'.kp _ _ neD hGD) neD⟩
        rcases List.mem_append.mp hz with hz | hz
        · exact hys z hz
        · rw [List.mem_singleton.mp hz]
          exact hy
      · rintro G ⟨ys, hlen, hys, hGD, hGp, d⟩
        refine ⟨D, ys.map V.str, rfl, .inl ⟨sq_of hGD, fun b hb => ⟨by show 3 ≤ sizeLine; decide, fun a ha => ?_⟩⟩⟩
        refine k a _ _ (d.ex ((Ex.new hb).trans (Ex.new ha))) (good_j upd_same ((Ex.new ha) _ _ upd_same) hm hys (by omega))
    have nj : kd ≠ Str.ofString "join" := by simpa using hb
    clear hb
    have row5 := d4'.row.ex e5'
    have d5 : Dr K r H H5 := d4'.ex e5'
    have hs5 : H5 p = some (.lst L) := e5' _ _ hs4
    show tSeq _ _ _ ([some (.ref r), some (.str m), some (.ref t), some (.ref p), some (.str kd), none, none, none] : L2.St) _
    have more1 : ∀ Q' : VK, (∀ y G, ((kd = Str.ofString "names" ∧ y ∈ folds) ∨ (kd ≠ Str.ofString "names" ∧ y ∈ ten)) → Dr K r H5 G → Q' (.str y) G) →
        tCall (spOne (K := K)) [] E0 (tCons (tVar 0) (tCons (tIf (tTest (tOp rEq (tVar 4) (tC (.str (Str.ofString "names"))))) (tLst (tCs (folds.map V.str))) (tVar 3)) tNil)) ([some (.ref r), some (.str m), some (.ref t), some (.ref p), some (.str kd), none, none, none] : L2.St) H5 Q' := by
      intro Q' q'
      refine ⟨_, rfl, ?_⟩
      show tTest (tOp rEq (tVar 4) (tC (.str (Str.ofString "names")))) ([some (.ref r), some (.str m), some (.ref t), some (.ref p), some (.str kd), none, none, none] : L2.St) H5 (fun c H1 => if c = true then tLst (tCs (folds.map V.str)) ([some (.ref r), some (.str m), some (.ref t), some (.ref p), some (.str kd), none, none, none] : L2.St) H1 (fun y H2 => spOne (K := K) [.ref r, y] H2 Q' E0) else tVar 3 ([some (.ref r), some (.str m), some (.ref t), some (.ref p), some (.str kd), none, none, none] : L2.St) H1 (fun y H2 => spOne (K := K) [.ref r, y] H2 Q' E0))
      refine (et_is (et_test (ev_op (ev_var rfl) ev_c (rv_eq rfl))) strEq : EvT (tTest (tOp rEq (tVar 4) (tC (.str (Str.ofString "names"))))) ([some (.ref r), some (.str m), some (.ref t), some (.ref p), some (.str kd), none, none, none] : L2.St) H5 (decide (kd = Str.ofString "names"))) H5 (Ex.refl _) _ fun H7 e57 => ?_
      by_cases hn : kd = Str.ofString "names"
      · rw [decide_eq_true hn, if_pos rfl]
        refine el_lst (ea_cs (folds.map V.str)) (by decide) H7 (Ex.refl _) _ fun l H8 hl e8 h8 => ?_
        refine ⟨r, l, folds.map V.str, rfl, row5.ex (e57.trans e8), (row5.ex e57).ne_new hl, h8, by decide, by decide, fun v G hv d => ?_⟩
        obtain ⟨y, hy, rfl⟩ := one_str hv
        exact q' y G (.inl ⟨hn, hy⟩) (Dr.pre (e57.trans e8) d)
      · rw [decide_eq_false hn, if_neg (by decide)]
        refine ⟨_, rfl, r, p, L, rfl, row5.ex e57, nep, e57 _ _ hs5, hL1, by omega, fun v G hv d => ?_⟩
        obtain ⟨y, hy, rfl⟩ := hL v hv
        exact q' y G (.inr ⟨hn, hy⟩) (Dr.pre e57 d)
    have fin : ∀ (bs : Addr) (rest : List V) (G : Hp), Dr K r H G → G bs = some (.tup rest) → rest ≠ [] → rest.length ≤ 3 → (∀ a G', Ex G G' → G' a = some (.tup (.str m :: .str kd :: rest)) → ∃ d, Good G' (.ref a) (m, d)) →
        tRet (tOp (rCatA K) (tTup (tCons (tVar 1) (tCons (tVar 4) tNil))) (tVar 7)) { nx := fun _ H' => Q .non H', rt := Q } ([some (.ref r), some (.str m), some (.ref t), some (.ref p), some (.str kd), none, none, some (.ref bs)] : L2.St) G := by
      intro bs rest G d hb hne' hl hg
      refine op_raw (tup_raw ⟨_, rfl, _, rfl, by show 2 ≤ sizeLine; decide, fun c hc => ⟨_, rfl, c, bs, _, rest, rfl, rfl, st_of upd_same, st_of ((Ex.new hc) _ _ hb), sz_of ?_, fun z => (by cases z), fun _ z => absurd z hne', fun _ _ a ha => ?_⟩⟩)
      · show 2 + rest.length ≤ 100000
        omega
      · obtain ⟨dd, hd⟩ := hg a _ ((Ex.new hc).trans (Ex.new ha)) upd_same
        exact k a dd _ (d.ex ((Ex.new hc).trans (Ex.new ha))) hd
    refine q_raw (tup_raw (more1 _ fun y1 G6 hy1 d6 => ⟨by show 1 ≤ sizeLine; decide, fun b1 hb1 => ?_⟩))
    have d6' : Dr K r H (upd G6 b1 (.tup [.str y1])) := (d5.trans d6).ex (Ex.new hb1)
    have h6 : (upd G6 b1 (.tup [.str y1])) b1 = some (.tup [.str y1]) := upd_same
    have hs6 : (upd G6 b1 (.tup [.str y1])) p = some (.lst L) := (Ex.new hb1) _ _ (d6.kp _ _ nep hs5)
    have neb1 : b1 ≠ r := d6.row.ne_new hb1
    show tSeq _ _ _ ([some (.ref r), some (.str m), some (.ref t), some (.ref p), some (.str kd), none, none, some (.ref b1)] : L2.St) _
    generalize upd G6 b1 (.tup [.str y1]) = H6 at d6' h6 hs6 ⊢
    refine q_if (b := decide (kd = Str.ofString "choose")) (et_is (et_test (ev_op (ev_var rfl) ev_c (rv_eq rfl))) strEq) (fun hb H7 e7 => ?_) (fun hb H7 e7 => ?_)
    · have hc : kd = Str.ofString "choose" := by simpa using hb
      subst hc
      have hy : y1 ∈ ten := by
        rcases hy1 with ⟨z, _⟩ | ⟨_, z⟩
        · exact absurd z (by decide +kernel)
        · exact z
      have row7 := d6'.row.ex e7
      refine s_raw (op_raw ⟨_, rfl, tup_raw (drawL (r := r) (t := p) (xs := L) (ev_var rfl) (ev_var rfl) row7 nep (e7 _ _ hs6) hL1 (by omega) fun v2 G2 hv2 d2 => ?_)⟩)
      refine drawL (r := r) (t := p) (xs := L) (ev_var rfl) (ev_var rfl) d2.row nep (d2.kp _ _ nep (e7 _ _ hs6)) hL1 (by omega) fun v3 G3 hv3 d3 => ?_
      obtain ⟨y2, hy2, rfl⟩ := hL v2 hv2
      obtain ⟨y3, hy3, rfl⟩ := hL v3 hv3
      have hb3 : G3 b1 = some (.tup [.str y1]) := d3.kp _ _ neb1 (d2.kp _ _ neb1 (e7 _ _ h6))
      refine ⟨by show 2 ≤ sizeLine; decide, fun b2 hb2 => ⟨b1, b2, [.str y1], [.str y2, .str y3], rfl, rfl, st_of ((Ex.new hb2) _ _ hb3), st_of upd_same, by show 1 + 2 ≤ sizeLine; decide, fun z => (by cases z), fun _ z => (by cases z), fun _ _ b4 hb4 => ?_⟩⟩
      exact fin b4 [.str y1, .str y2, .str y3] _ ((((d6'.ex e7).trans d2).trans d3).ex ((Ex.new hb2).trans (Ex.new hb4))) upd_same (by simp) (by show 3 ≤ 3; decide) fun a G' e' h' => ⟨_, good_3 h' hm hy hy2 hy3⟩
    have nc : kd ≠ Str.ofString "choose" := by simpa using hb
    clear hb
    have row7 := d6'.row.ex e7
    refine s_if (b := inV (.str kd) [.str (Str.ofString "pick"), .str (Str.ofString "need")]) (et_test (ev_opL (ev_var rfl) (el_lst (ea_cs [.str (Str.ofString "pick"), .str (Str.ofString "need")]) (by decide)) fun _ _ h _ => rv_isL (sq_of h) rfl rfl)) (fun hb H8 e8 => ?_) (fun hb H8 e8 => ?_)
    · obtain ⟨ff, fn⟩ := k_pn kd hk hb
      have hy : y1 ∈ ten := by
        rcases hy1 with ⟨z, _⟩ | ⟨_, z⟩
        · exact absurd z fn
        · exact z
      refine s_raw (op_raw ⟨_, rfl, tup_raw (drawS (xs := wrds) (ev_var rfl) (row7.ex e8) (by decide) (by decide) fun y2 G2 hy2 d2 => ?_)⟩)
      have hb3 : G2 b1 = some (.tup [.str y1]) := d2.kp _ _ neb1 ((e7.trans e8) _ _ h6)
      refine ⟨by show 1 ≤ sizeLine; decide, fun b2 hb2 => ⟨b1, b2, [.str y1], [.str y2], rfl, rfl, st_of ((Ex.new hb2) _ _ hb3), st_of upd_same, by show 1 + 1 ≤ sizeLine; decide, fun z => (by cases z), fun _ z => (by cases z), fun _ _ b4 hb4 => ?_⟩⟩
      exact fin b4 [.str y1, .str y2] _ (((d6'.ex (e7.trans e8)).trans d2).ex ((Ex.new hb2).trans (Ex.new hb4))) upd_same (by simp) (by show 2 ≤ 3; decide) fun a G' e' h' => ⟨_, good_2 h' hm hk (ten_ok y1 hy).1 (wrds_ok y2 hy2).1 ff (ten_ok y1 hy).2 (wrds_ok y2 hy2).2⟩
    · refine fin b1 [.str y1] H8 (d6'.ex (e7.trans e8)) ((e7.trans e8) _ _ h6) (by simp) (by show 1 ≤ 3; decide) fun a G' e' h' => ⟨.tuple [.str m, .str kd, .str y1], ?_⟩
      rcases hy1 with ⟨hn, z⟩ | ⟨hn, z⟩
      · exact good_1 h' hm hk (folds_ok y1 z).1 (.inr ⟨hn, (folds_ok y1 z).2⟩)
      · exact good_1 h' hm hk (ten_ok y1 z).1 (.inl ⟨k_one kd hk nj nc hb hn, (ten_ok y1 z).2⟩)
end
end Bl
namespace Bl
open PySem PySem.Spec PyProof.Rows L2 Bk Bm Evl Be Cr Bp TL
abbrev sRulesL : Stmt := top 31
def eight : List Str := ["m", "n", "o", "p/q", "r", "s", "t/u", "v/abc123/def456"].map Str.ofString
theorem cut_to {xs : List V} {j : Nat} (h : j ≤ xs.length) : cutV xs none (some (j : Int)) = xs.take j := by
  have c1 : HT.sIx xs.length 0 none = 0 := HT.sIx_none _ _
  have c2 : HT.sIx xs.length xs.length (some (j : Int)) = j := by rw [HT.sIx_nat]; omega
  unfold cutV
  rw [c1, c2]
  simp
theorem ins_perm {α : Type} (gs : List α) (j : Nat) (g : α) : (gs.take j ++ [g] ++ gs.drop j).Perm (g :: gs) := by
  have h : (gs.take j ++ [g] ++ gs.drop j) = gs.take j ++ g :: gs.drop j := by simp
  rw [h]
  have p := List.perm_middle (a := g) (l₁ := gs.take j) (l₂ := gs.drop j)
  rw [List.take_append_drop] at p
  exact p
theorem five_nodup : five.Nodup := by decide +kernel
theorem five_new {i : Nat} {q : Str} (h : five[i]? = some q) : q ∉ five.take i := by
  intro hm
  obtain ⟨j, e⟩ := List.getElem?_of_mem hm
  have hj2 : j < i := by
    have h1 := (List.getElem?_eq_some_iff.mp e).1
    have := List.length_take_le i five
    omega
  rw [List.getElem?_take_of_lt hj2] at e
  have := nd_ix five_nodup h e
  omega
section
variable {P : Program} {w : World} {K : PySem.W.Frag} {mg : Str → Option Value} {base : Heap}
abbrev nRs : List Str := ["_law_row", "_law_most", "_law_all_made", "_law_found", "_law_made"]
theorem scRulesL : FnScope nRs ["_law_row", "_law_most"] (defScope sRulesL) := ⟨rfl, rfl, rfl, by decide +kernel, rfl, by decide +kernel, by decide +kernel⟩
/-- a drawn tuple of rules -/
def RsAt (H : Hp) (xs : List V) (gs : List (Str × PyData)) : Prop := Paired (Good H) xs gs ∧ (gs.map (·.1)).Nodup ∧ gs.length ≤ 5
def spRulesL : Sp := fun vs H Q _ => ∃ r, vs = [.ref r, .int 5] ∧ Row K H r ∧ ∀ p xs gs G, Dr K r H G → H p = none → G p = some (.tup xs) → RsAt G xs gs → 1 ≤ gs.length → Q (.ref p) G
/-- between the turns -/
def RInv (K : PySem.W.Frag) (r A D l : Addr) (H0 : Hp) (L : List V) (i : Nat) (σ : L2.St) (G : Hp) : Prop :=
  ∃ (vs : List V) (gs : List (Str × PyData)) (u : Option V), σ = [some (.ref r), some (.int 5), some (.ref A), some (.ref D), u] ∧ G D = some (.lst vs) ∧ G l = some (.lst L) ∧ G A = some (.lst (five.map V.str)) ∧
    Paired (Good G) vs gs ∧ (gs.map (·.1)).Nodup ∧ (∀ g ∈ gs, g.1 ∈ five.take i) ∧ gs.length = i ∧ Dr K r H0 G
theorem ok_rulesL {f : Addr} {fd : FuncData} (F : Fun K "_law_rules" "_law_rules" sRulesL f fd) (T : Gv mg) (cT : Cal P w K mg base CX0 1 "_law_taken" ["_law_row", "_law_many"] (spTaken (K := K)))
    (cR : Cal P w K mg base CX0 3 "_law_rule" ["_law_row", "_law_made", "_law_all_made"] (spRuleL (K := K))) : FnOk P w K mg base CX0 4 f fd ["_law_row", "_law_most"] (spRulesL (K := K)) := by
  refine F.ok scRulesL (fun vs H Q E h => ?_) (fun cdv A outer s H vs Q E hr h => ?_)
  · obtain ⟨r, rfl, _⟩ := h
    rfl
  · obtain ⟨r, rfl, row, k⟩ := h
    have hr1 : Room 1 _ := hr.mono (by decide)
    refine ⟨_, pss_cons (ps_par (i := 2) (j := 3) rfl scRulesL.nd rfl rfl (by decide) rfl rfl (pa_cons (pe_slice sl_list (pe_lst (pa_cons pe_str (pa_cons pe_str (pa_cons pe_str (pa_cons pe_str (pa_cons pe_str (pa_cons pe_str (pa_cons pe_str (pa_cons pe_str pa_nil))))))))) po_none
        (po_some (pe_callB (call_max2 rfl) (by rfl) T.max (by decide +kernel) (pa_cons pe_int (pa_cons (pv 1) pa_nil))))) (pa_cons (pe_lst pa_nil) pa_nil)) (by rfl))
      (pss_cons (ps_for PassesOwn.never rfl (pi_list (pe_slice sl_list (pv 2) po_none (po_some (pe_op op_add pe_int (pe_call cT.F hr1 (by rfl) cT.g cT.kp cT.b .nil pass0 (pa_cons (pv 0) (pa_cons (pv 1) pa_nil))))))) (pg_name (i := 4) scRulesL.nd rfl (Or.inl rfl))
        (pss_one (ps_expr (pe_bm PySem.F.plainAttrs_list PySem.F.slot_list_insert PySem.F.type_list_insert mt_insert (pv 3) (pa_cons (pe_call cT.F hr1 (by rfl) cT.g cT.kp cT.b .nil pass0 (pa_cons (pv 0) (pa_cons (pe_op op_add (pe_callB call_len_seq (by rfl) T.len PySem.boot_len (pa_cons (pv 3) pa_nil)) pe_int) pa_nil)))
          (pa_cons (pe_call cR.F hr (by rfl) cR.g cR.kp cR.b .nil pass0 (pa_cons (pv 0) (pa_cons (pv 4) (pa_cons (pv 2) pa_nil)))) pa_nil))))))
      (pss_one (ps_ret (pe_callTy call_tuple_of (by rfl) T.tup (by decide +kernel) (pa_cons (pv 3) pa_nil))))), ?_⟩
    refine ⟨by show 8 ≤ sizeLine; decide, fun q hq => ?_⟩
    refine ⟨_, rfl, 5, 5, rfl, _, rfl, q, eight.map V.str, rfl, sq_of upd_same, fun A' hA => ⟨by show 0 ≤ sizeLine; decide, fun D hD => ⟨_, _, rfl, ?_⟩⟩⟩
    have e0 : Ex H (upd (upd (upd H q (.lst (eight.map V.str))) A' (.lst (five.map V.str))) D (.lst [])) := (Ex.new (o := .lst (eight.map V.str)) hq).trans ((Ex.new (o := .lst (five.map V.str)) hA).trans (Ex.new (o := .lst []) hD))
    have hAt : (upd (upd (upd H q (.lst (eight.map V.str))) A' (.lst (five.map V.str))) D (.lst [])) A' = some (.lst (five.map V.str)) := (Ex.new hD) _ _ upd_same
    have hDt : (upd (upd (upd H q (.lst (eight.map V.str))) A' (.lst (five.map V.str))) D (.lst [])) D = some (.lst []) := upd_same
    have row0 : Row K (upd (upd (upd H q (.lst (eight.map V.str))) A' (.lst (five.map V.str))) D (.lst [])) r := row.ex e0
    have neD : D ≠ r := (row.ex ((Ex.new (o := .lst (eight.map V.str)) hq).trans (Ex.new (o := .lst (five.map V.str)) hA))).ne_new hD
    have neA : A' ≠ r := (row.ex (Ex.new (o := .lst (eight.map V.str)) hq)).ne_new hA
    have neDA : D ≠ A' := (ne_of_none upd_same hD).symm
    have hD0 : H D = none := fresh_back ((Ex.new (o := .lst (eight.map V.str)) hq).trans (Ex.new (o := .lst (five.map V.str)) hA)) hD
    show tSeq _ _ _ ([some (.ref r), some (.int 5), some (.ref A'), some (.ref D), none] : L2.St) (upd (upd (upd H q (.lst (eight.map V.str))) A' (.lst (five.map V.str))) D (.lst []))
    generalize upd (upd (upd H q (.lst (eight.map V.str))) A' (.lst (five.map V.str))) D (.lst []) = H1 at e0 hAt hDt row0 ⊢
    refine ⟨_, rfl, draw (m := 5) (ev_var rfl) (ev_var rfl) row0 (by decide) (by decide) fun n G0 hn hm d0 => ?_⟩
    refine ⟨1, n, rfl, rfl, _, rfl, A', _, rfl, sq_of (d0.kp _ _ neA hAt), fun l hl => ?_⟩
    have hcut : cutV (five.map V.str) none (some (1 + n)) = (five.take (1 + n.toNat)).map V.str := by
      have e : (1 + n) = ((1 + n.toNat : Nat) : Int) := by omega
      rw [e, cut_to (by show 1 + n.toNat ≤ 5; omega), List.map_take]
    rw [hcut]
    have neL : l ≠ r := d0.row.ne_new hl
    have neLD : l ≠ D := (ne_of_none (d0.kp _ _ neD hDt) hl).symm
    have neLA : l ≠ A' := (ne_of_none (d0.kp _ _ neA hAt) hl).symm
    have d1 : Dr K r H (upd G0 l (.lst ((five.take (1 + n.toNat)).map V.str))) := Dr.pre e0 (d0.ex (Ex.new hl))
    have hlen : ((five.take (1 + n.toNat)).map V.str).length = 1 + n.toNat := by
      rw [List.length_map, List.length_take]
      show min (1 + n.toNat) 5 = _
      omega
    refine ⟨l, rfl, ⟨_, sq_of upd_same⟩, for_list (K := K) (xs := (five.take (1 + n.toNat)).map V.str) (RInv K r A' D l H ((five.take (1 + n.toNat)).map V.str)) ?_ (fun i σ' G' _ q => ?_) (fun i x σ' G' hi q => ?_) (fun σ' G' q => ?_)⟩
    · exact ⟨[], [], none, rfl, (Ex.new hl) _ _ (d0.kp _ _ neD hDt), upd_same, (Ex.new hl) _ _ (d0.kp _ _ neA hAt), .nil, List.nodup_nil, fun _ z => (by cases z), rfl, d1⟩
    · obtain ⟨vs, gs, u, _, _, hl', _⟩ := q
      exact sq_of hl'
    · obtain ⟨vs, gs, u, rfl, hGD, hGl, hGA, pf, nd, mem, hgl, d⟩ := q
      obtain ⟨q5, hq5, rfl⟩ : ∃ z, five[i]? = some z ∧ x = V.str z := by
        rw [List.getElem?_map] at hi
        cases e : (five.take (1 + n.toNat))[i]? with
        | none => rw [e] at hi; cases hi
        | some z =>
          rw [e] at hi
          have hi2 : i < 1 + n.toNat := by
            have := (List.getElem?_eq_some_iff.mp e).1
            rw [List.length_take] at this
            omega
          rw [List.getElem?_take_of_lt hi2] at e
          exact ⟨z, e, (Option.some.inj hi).symm⟩
      have hi5 : i < 5 := (List.getElem?_eq_some_iff.mp hq5).1
      have pl := pr_len pf
      refine ⟨_, rfl, .inl ⟨rfl, vs, sq_of hGD⟩, draw (m := (gs.length : Int) + 1) (ev_var rfl) (ev_op (ev_is (ev_len (ev_var rfl) (sq_of hGD)) (by rw [pl])) ev_c rv_I0) d.row (by omega) (by omega) fun j G1 hj hjm d1 => ?_⟩
      refine ⟨_, rfl, _, rfl, _, rfl, r, A', q5, rfl, d1.row, neA, d1.kp _ _ neA hGA, List.mem_of_getElem? hq5, fun a dd G2 d2 hg => ?_⟩
      have hGD2 : G2 D = some (.lst vs) := d2.kp _ _ neD (d1.kp _ _ neD hGD)
      refine ⟨D, vs, j, .ref a, rfl, rfl, hGD2, sz_lt (by omega), hj, by omega, ?_⟩
      have d12 := d1.trans d2
      have pf2 : Paired (Good G2) vs gs := pr_mono pf fun _ _ z => z.dr d.row d12
      refine ⟨vs.take j.toNat ++ [.ref a] ++ vs.drop j.toNat, gs.take j.toNat ++ [(q5, dd)] ++ gs.drop j.toNat, _, rfl, upd_same, ?_, ?_, ?_, ?_, ?_, ?_, ?_⟩
      · rw [upd_ne neLD]
        exact d12.kp _ _ neL hGl
      · rw [upd_ne neDA.symm]
        exact d12.kp _ _ neA hGA
      · exact pr_app (pr_app (pr_take (pr_mono pf2 fun _ _ z => z.updL hGD2) _) (.cons (hg.updL hGD2) .nil)) (pr_drop (pr_mono pf2 fun _ _ z => z.updL hGD2) _)
      · have pm := (ins_perm gs j.toNat (q5, dd)).map (·.1)
        rw [pm.nodup_iff]
        refine List.nodup_cons.mpr ⟨fun hm => ?_, nd⟩
        obtain ⟨g, hg1, hg2⟩ := List.mem_map.mp hm
        have := mem g hg1
        rw [show g.1 = q5 from hg2] at this
        exact five_new hq5 this
      · intro g hg1
        rw [List.take_succ, hq5]
        rcases List.mem_cons.mp ((ins_perm gs j.toNat (q5, dd)).mem_iff.mp hg1) with rfl | hg1
        · exact List.mem_append_right _ (by simp)
        · exact List.mem_append_left _ (mem g hg1)
      · rw [(ins_perm gs j.toNat (q5, dd)).length_eq, List.length_cons, hgl]
      · exact (d.trans d12).updL hD0 hGD2 neD
    · obtain ⟨vs, gs, u, rfl, hGD, hGl, hGA, pf, nd, mem, hgl, d⟩ := q
      rw [hlen] at hgl
      refine ⟨_, rfl, D, vs, rfl, .inl ⟨sq_of hGD, fun p hp => ?_⟩⟩
      exact k p vs gs _ (d.ex (Ex.new hp)) (d.free row hp) upd_same ⟨pr_mono pf fun _ _ z => z.mono (Ex.new hp), nd, by omega⟩ (by omega)
end
end Bl
namespace Bl
open PySem PySem.Spec PyProof.Rows L2 Bk Bm Evl Be Cr Bp TL
section
variable {K : PySem.W.Frag} {H G : Hp} {r : Addr} {v : V}
theorem Kd.kp {n : String} {xs0 ys0 : List V} (h : Kd K H v n) (hr : H r = some (.lst xs0)) (hr' : G r = some (.lst ys0)) (kp : Kp r H G) : Kd K G v n := by
  obtain ⟨t, k⟩ := h
  refine ⟨?_, k⟩
  cases t with
  | base t =>
    refine .base ?_
    cases t with
    | non => exact .non
    | bl b => exact .bl b
    | int i => exact .int i
    | str x => exact .str x
    | flt x => exact .flt x
    | @lst a xs h =>
      by_cases c : a = r
      · subst c; exact .lst hr'
      · exact .lst (kp _ _ c h)
    | frz h => exact .frz (kp _ _ (ne_of h hr (by intro z; cases z)) h)
    | tup h => exact .tup (kp _ _ (ne_of h hr (by intro z; cases z)) h)
    | dK h => exact .dK (kp _ _ (ne_of h hr (by intro z; cases z)) h)
    | dT h => exact .dT (kp _ _ (ne_of h hr (by intro z; cases z)) h)
  | byt b => exact .byt b
  | set h => exact .set (kp _ _ (ne_of h hr (by intro z; cases z)) h)
  | kList h c => exact .kList h c
  | kTuple h c => exact .kTuple h c
  | kDict h c => exact .kDict h c
  | fTuple h => exact .fTuple (kp _ _ (ne_of h hr (by intro z; cases z)) h)
  | fDict h => exact .fDict (kp _ _ (ne_of h hr (by intro z; cases z)) h)
theorem Sc.ex {a : Addr} {ns : List Int} (h : Sc K H a ns) (e : Ex H G) : Sc K G a ns := by
  rcases h with ⟨o, h⟩ | h
  · exact .inl ⟨o, e _ _ h⟩
  · exact .inr h
theorem Th.kp {o : Option (List V)} {xs0 ys0 : List V} (h : Th K H v o) (hr : H r = some (.lst xs0)) (hx0 : xs0.length ≠ 1) (hr' : G r = some (.lst ys0)) (kp : Kp r H G) : Th K G v o := by
  cases h with
  | sm h k hn => exact .sm (Sm.kp h hr hx0 kp) (Kd.kp k hr hr' kp) hn
  | tu h hx hl => exact .tu (kp _ _ (ne_of h hr (by intro z; cases z)) h) (fun x hh => Sm.kp (hx x hh) hr hx0 kp) hl
theorem Ru.kp {b : Bool} {xs0 ys0 : List V} (h : Ru K H v b) (hr : H r = some (.lst xs0)) (hx0 : xs0.length ≠ 1) (hr' : G r = some (.lst ys0)) (kp : Kp r H G) : Ru K G v b := by
  cases h with
  | no k h => exact .no (Kd.kp k hr hr' kp) h
  | short h hl => exact .short (kp _ _ (ne_of h hr (by intro z; cases z)) h) hl
  | long h h0 h1 hk hp hl hf => exact .long (kp _ _ (ne_of h hr (by intro z; cases z)) h) (Sm.kp h0 hr hx0 kp) (Sm.kp h1 hr hx0 kp) hk (pr_mono hp fun _ _ z => Th.kp z hr hx0 hr' kp) hl fun z x hx => Sm.kp (hf z x hx) hr hx0 kp
theorem Itr.kp {o : Option Str} {xs0 ys0 : List V} (h : Itr K H v o) (hr : H r = some (.lst xs0)) (hx0 : xs0.length ≠ 1) (hr' : G r = some (.lst ys0)) (kp : Kp r H G) : Itr K G v o := by
  cases o with
  | some p =>
    obtain ⟨h1, ⟨a, ts, h2, h3⟩, h4⟩ := h
    exact ⟨Ru.kp h1 hr hx0 hr' kp, ⟨a, ts, h2, kp _ _ (ne_of h3 hr (by intro z; cases z)) h3⟩, h4⟩
  | none => exact Ru.kp h hr hx0 hr' kp
theorem Itr.dr {o : Option Str} (h : Itr K H v o) (row : Row K H r) (d : Dr K r H G) : Itr K G v o := by
  obtain ⟨a, i, s, z, ns, hr, _⟩ := row
  obtain ⟨rl', hr'⟩ := d.row.at
  exact Itr.kp h hr (by show 4 ≠ 1; decide) hr' d.kp
/-! sorted made paths are one list -/
def ix (z : Str) : Nat := five.findIdx fun y => decide (y = z)
theorem ix_lt : ∀ x ∈ five, ∀ y ∈ five, ltCps x.cps.toList y.cps.toList = decide (ix x < ix y) := by decide +kernel
theorem ix_inj : ∀ x ∈ five, ∀ y ∈ five, ix x = ix y → x = y := by decide +kernel
theorem ris_pw : ∀ (l : List Str) (p : Str), (∀ z ∈ p :: l, z ∈ five) → risingS p l = true → (p :: l).Pairwise fun a b => ix a ≤ ix b
  | [], p, _, _ => List.pairwise_singleton _ _
  | x :: r, p, hm, h => by
    have h' : (!ltCps x.cps.toList p.cps.toList) = true ∧ risingS x r = true := by
      have h0 : (!ltCps x.cps.toList p.cps.toList && risingS x r) = true := h
      simpa using h0
    have ih := ris_pw r x (fun z hz => hm z (List.mem_cons_of_mem _ hz)) h'.2
    have hx := hm x (List.mem_cons_of_mem _ List.mem_cons_self)
    have hp := hm p List.mem_cons_self
    have le : ix p ≤ ix x := by
      have h1 := h'.1
      rw [ix_lt x hx p hp] at h1
      have h2 : ¬ ix x < ix p := by simpa using h1
      omega
    refine List.pairwise_cons.mpr ⟨fun z hz => ?_, ih⟩
    rcases List.mem_cons.mp hz with rfl | hz
    · exact le
    · exact Nat.le_trans le ((List.pairwise_cons.mp ih).1 z hz)
theorem srt_pw {l : List Str} (hm : ∀ z ∈ l, z ∈ five) (h : sortedS l = true) : l.Pairwise fun a b => ix a ≤ ix b := by
  cases l with
  | nil => exact List.Pairwise.nil
  | cons x r => exact ris_pw r x hm h
theorem uniq : ∀ l m : List Str, l.Pairwise (fun a b => ix a ≤ ix b) → m.Pairwise (fun a b => ix a ≤ ix b) → l.Perm m → (∀ z ∈ l, z ∈ five) → l = m
  | [], m, _, _, p, _ => (List.nil_perm.mp p).symm
  | x :: r, [], _, _, p, _ => absurd p.length_eq (by simp)
  | x :: r, y :: t, hl, hm, p, h5 => by
    have hx : x ∈ y :: t := p.mem_iff.mp List.mem_cons_self
    have hy : y ∈ x :: r := p.mem_iff.mpr List.mem_cons_self
    have le1 : ix x ≤ ix y := by
      rcases List.mem_cons.mp hy with h | h
      · rw [h]; exact Nat.le_refl _
      · exact (List.pairwise_cons.mp hl).1 y h
    have le2 : ix y ≤ ix x := by
      rcases List.mem_cons.mp hx with h | h
      · rw [h]; exact Nat.le_refl _
      · exact (List.pairwise_cons.mp hm).1 x h
    have e : x = y := ix_inj x (h5 x List.mem_cons_self) y (h5 y hy) (by omega)
    subst e
    rw [uniq r t (List.pairwise_cons.mp hl).2 (List.pairwise_cons.mp hm).2 p.cons_inv fun z hz => h5 z (List.mem_cons_of_mem _ hz)]
/-! drawn rules as data -/
theorem Good.dp {md : Str × PyData} (h : Good H v md) : Dp K H v md.2 := by
  obtain ⟨a, k, ts, ods, rfl, h1, h2, h3, h4, h5, h6, h7, h8⟩ := h
  rw [h8]
  refine .tup (SqT.of h1) (.cons (.str _) (.cons (.str _) ?_))
  clear h1 h3 h5 h7 h8
  induction h2 with
  | nil => exact .nil
  | cons r _ ih =>
    refine .cons ?_ ih
    cases r with
    | s x h => exact .str x
    | @t b ys h hy hl =>
      refine .tup (SqT.of h) ?_
      clear h hy hl
      induction ys with
      | nil => exact .nil
      | cons y r ih => exact .cons (.str y) ih
theorem lay_strs : ∀ {ys : List Str}, (∀ y ∈ ys, okS y) → PyData.canLayAll0 (ys.map PyData.str) = true ∧ PyData.depthAll (ys.map PyData.str) ≤ 1
  | [], _ => ⟨rfl, by simp [PyData.depthAll]⟩
  | y :: r, h => by
    obtain ⟨i1, i2⟩ := lay_strs (ys := r) fun z hz => h z (List.mem_cons_of_mem _ hz)
    refine ⟨?_, ?_⟩
    · show (PyData.strOk y && PyData.canLayAll0 (r.map PyData.str)) = true
      rw [(h y List.mem_cons_self).2, i1]
      rfl
    · simp only [List.map_cons, PyData.depthAll, PyData.depth] at i2 ⊢
      omega
theorem Good.lay {md : Str × PyData} (h : Good H v md) : md.2.canLay0 = true ∧ md.2.depth ≤ 4 := by
  obtain ⟨a, k, ts, ods, rfl, h1, h2, h3, h4, h5, h6, h7, h8⟩ := h
  rw [h8]
  have rest : PyData.canLayAll0 (ods.map (·.2)) = true ∧ PyData.depthAll (ods.map (·.2)) ≤ 3 := by
    clear h1 h3 h5 h7 h8
    induction h2 with
    | nil => exact ⟨rfl, by simp [PyData.depthAll]⟩
    | cons r _ ih =>
      cases r with
      | s x h =>
        refine ⟨?_, ?_⟩
        · show (PyData.strOk x && PyData.canLayAll0 _) = true
          rw [h.2, ih.1]
          rfl
        · have := ih.2
          simp only [List.map_cons, PyData.depthAll, PyData.depth]
          omega
      | @t b ys h hy hl =>
        obtain ⟨l1, l2⟩ := lay_strs hy
        refine ⟨?_, ?_⟩
        · show (PyData.canLayAll0 (ys.map PyData.str) && PyData.canLayAll0 _) = true
          rw [l1, ih.1]
          rfl
        · have := ih.2
          simp only [List.map_cons, PyData.depthAll, PyData.depth]
          omega
  have m1 := (ten_ok _ (five_ten _ h6)).1.2
  have k1 := (knds_ok k h4).1.2
  refine ⟨?_, ?_⟩
  · show (PyData.strOk md.1 && (PyData.strOk k && PyData.canLayAll0 (ods.map (·.2)))) = true
    rw [m1, k1, rest.1]
    rfl
  · have := rest.2
    simp only [PyData.depthAll, PyData.depth]
    omega
theorem dp_rs {xs : List V} {gs : List (Str × PyData)} (h : Paired (Good H) xs gs) : DpAll K H xs (gs.map (·.2)) := by
  induction h with
  | nil => exact .nil
  | cons r _ ih => exact .cons r.dp ih
theorem lay_rs {xs : List V} {gs : List (Str × PyData)} (h : Paired (Good H) xs gs) : PyData.canLayAll0 (gs.map (·.2)) = true ∧ PyData.depthAll (gs.map (·.2)) ≤ 5 := by
  induction h with
  | nil => exact ⟨rfl, by simp [PyData.depthAll]⟩
  | @cons x g l m r _ ih =>
    obtain ⟨l1, l2⟩ := r.lay
    refine ⟨?_, ?_⟩
    · show (PyData.canLay0 g.2 && PyData.canLayAll0 (m.map (·.2))) = true
      rw [l1, ih.1]
      rfl
    · have := ih.2
      simp only [List.map_cons, PyData.depthAll]
      omega
def dRs (gs : List (Str × PyData)) : PyData := .tuple (gs.map (·.2))
theorem sh_rs {xs : List V} {gs : List (Str × PyData)} (h : Paired (Good H) xs gs) : SeqAt.shaped (dRs gs) = true := by
  obtain ⟨l1, l2⟩ := lay_rs h
  show (PyData.canLayAll0 (gs.map (·.2)) && decide (PyData.depth (.tuple (gs.map (·.2))) ≤ 64)) = true
  rw [l1, decide_eq_true (by simp only [PyData.depth]; omega)]
  rfl
theorem eq_self {d : PyData} (h : SeqAt.shaped d = true) : PyData.eqv d d = true := by
  have h0 : (PyData.canLay0 d && decide (PyData.depth d ≤ 64)) = true := h
  simp only [Bool.and_eq_true] at h0
  exact SeqAt.eqv_refl_plain d (PyData.plain_of_canLay0 d h0.1)
theorem eq_len : ∀ (xs ys : List PyData), xs.length ≠ ys.length → PyData.eqvAll xs ys = false
  | [], [], h => absurd rfl h
  | [], _ :: _, _ => rfl
  | _ :: _, [], _ => rfl
  | x :: xs, y :: ys, h => by
    rw [PyData.eqvAll, eq_len xs ys (by simpa using h), Bool.and_false]
end
end Bl
namespace Bl
open PySem PySem.Spec PyProof.Rows L2 Bk Bm Evl Be Cr Bp TL
abbrev sRef : Stmt := top 33
/-! where a tuple of rules is wrong -/
theorem way_five : ∀ p ∈ five, ∀ q ∈ five, p ≠ q → way p q = false := by decide +kernel
theorem fb_good : ∀ (ps acc : List Str) (rest : List (Option Str)), (acc ++ ps).Nodup → (∀ z ∈ acc ++ ps, z ∈ five) → fb acc (ps.map some ++ rest) = fb (acc ++ ps) rest
  | [], acc, rest, _, _ => by simp
  | p :: r, acc, rest, nd, h5 => by
    have hn : acc.any (way p) = false := by
      rw [List.any_eq_false]
      intro q hq
      have hp5 := h5 p (List.mem_append_right _ List.mem_cons_self)
      have hq5 := h5 q (List.mem_append_left _ hq)
      have hne : p ≠ q := fun e => by
        subst e
        exact (List.nodup_append.mp nd).2.2 p hq p List.mem_cons_self rfl
      rw [way_five p hp5 q hq5 hne]
      decide
    show (if acc.any (way p) = true then some acc.length else fb (acc ++ [p]) (r.map some ++ rest)) = _
    rw [if_neg (by rw [hn]; decide)]
    have e : acc ++ p :: r = acc ++ [p] ++ r := by simp
    rw [e] at nd h5 ⊢
    exact fb_good r (acc ++ [p]) rest nd h5
section
variable {K : PySem.W.Frag} {H G : Hp} {r : Addr} {v : V}
theorem rs_five {xs : List V} {gs : List (Str × PyData)} (h : Paired (Good H) xs gs) : ∀ z ∈ gs.map (·.1), z ∈ five := by
  induction h with
  | nil => intro z hz; cases hz
  | cons r _ ih =>
    intro z hz
    rcases List.mem_cons.mp hz with rfl | hz
    · obtain ⟨a, k, ts, ods, _, _, _, _, _, _, h6, _⟩ := r
      exact h6
    · exact ih z hz
theorem itr_rs {xs : List V} {gs : List (Str × PyData)} (h : Paired (Good H) xs gs) : Paired (Itr K H) xs (gs.map fun g => some g.1) := by
  induction h with
  | nil => exact .nil
  | cons r _ ih => exact .cons r.itr ih
theorem heads_rs {xs : List V} {gs : List (Str × PyData)} (h : Paired (Good H) xs gs) : Heads H xs (gs.map (·.1)) := by
  induction h with
  | nil => exact .nil
  | cons r _ ih =>
    obtain ⟨a, k, ts, ods, h0, h1, _⟩ := r
    exact .cons ⟨a, _, h0, h1⟩ ih
theorem RsAt.mono {xs : List V} {gs : List (Str × PyData)} (e : Ex H G) (h : RsAt H xs gs) : RsAt G xs gs := ⟨pr_mono h.1 fun _ _ z => z.mono e, h.2⟩
theorem RsAt.dr {xs : List V} {gs : List (Str × PyData)} (h : RsAt H xs gs) (row : Row K H r) (d : Dr K r H G) : RsAt G xs gs := ⟨pr_mono h.1 fun _ _ z => z.dr row d, h.2⟩
/-- drawn rules are good ones -/
theorem rl_good {a : Addr} {xs : List V} {gs : List (Str × PyData)} (ha : H a = some (.tup xs)) (h : RsAt H xs gs) : Rl K H (.ref a) none := by
  obtain ⟨h1, h2, h3⟩ := h
  have hl := pr_len h1
  have t := Rl.tup (K := K) ha (by omega) (itr_rs h1)
  have e : (gs.map fun g => some g.1) = (gs.map (·.1)).map some ++ [] := by simp
  rw [e, fb_good (gs.map (·.1)) [] [] (by simpa using h2) (by simpa using rs_five h1)] at t
  exact t
/-- what breaks a tuple of rules behind those that make ps -/
def Bd (K : PySem.W.Frag) (ps : List Str) (H : Hp) (v : V) : Prop := Itr K H v none ∨ ∃ p, Itr K H v (some p) ∧ ps.any (way p) = true
theorem Bd.mono {ps : List Str} (e : Ex H G) (h : Bd K ps H v) : Bd K ps G v := by
  rcases h with h | ⟨p, h, z⟩
  · exact .inl (h.mono e)
  · exact .inr ⟨p, h.mono e, z⟩
theorem Bd.dr {ps : List Str} (h : Bd K ps H v) (row : Row K H r) (d : Dr K r H G) : Bd K ps G v := by
  rcases h with h | ⟨p, h, z⟩
  · exact .inl (Itr.dr h row d)
  · exact .inr ⟨p, Itr.dr h row d, z⟩
theorem Bd.kp {ps : List Str} {xs0 ys0 : List V} (h : Bd K ps H v) (hr : H r = some (.lst xs0)) (hx0 : xs0.length ≠ 1) (hr' : G r = some (.lst ys0)) (kp : Kp r H G) : Bd K ps G v := by
  rcases h with h | ⟨p, h, z⟩
  · exact .inl (Itr.kp h hr hx0 hr' kp)
  · exact .inr ⟨p, Itr.kp h hr hx0 hr' kp, z⟩
theorem rl_bad {a : Addr} {xs : List V} {gs : List (Str × PyData)} {i : Nat} (h : RsAt H xs gs) (hi : i ≤ gs.length) (hb : Bd K ((gs.map (·.1)).take i) H v) (ha : H a = some (.tup (xs.take i ++ [v] ++ xs.drop i))) : Rl K H (.ref a) (some (.int (i : Int))) := by
  obtain ⟨h1, h2, h3⟩ := h
  have hl := pr_len h1
  obtain ⟨o, ho, hx⟩ : ∃ o, Itr K H v o ∧ ∀ rest, fb ((gs.map (·.1)).take i) (o :: rest) = some i := by
    have hlen : ((gs.map (·.1)).take i).length = i := by rw [List.length_take, List.length_map]; omega
    rcases hb with hb | ⟨p, hb, z⟩
    · exact ⟨none, hb, fun rest => by show some _ = some i; rw [hlen]⟩
    · refine ⟨some p, hb, fun rest => ?_⟩
      show (if ((gs.map (·.1)).take i).any (way p) = true then some _ else _) = some i
      rw [if_pos z, hlen]
  have it := itr_rs (K := K) h1
  have t := Rl.tup (K := K) (os := (gs.map fun g => some g.1).take i ++ [o] ++ (gs.map fun g => some g.1).drop i) ha (by
    simp only [List.length_append, List.length_take, List.length_drop, List.length_singleton]
    omega) (pr_app (pr_app (pr_take it i) (.cons ho .nil)) (pr_drop it i))
  have e : (gs.map fun g => some g.1).take i = ((gs.map (·.1)).take i).map some := by rw [← List.map_take, ← List.map_take, List.map_map]; rfl
  have nd : ((gs.map (·.1)).take i).Nodup := h2.sublist (List.take_sublist _ _)
  have h5 : ∀ z ∈ (gs.map (·.1)).take i, z ∈ five := fun z hz => rs_five h1 z (List.mem_of_mem_take hz)
  have e2 : fb [] ((gs.map fun g => some g.1).take i ++ [o] ++ (gs.map fun g => some g.1).drop i) = some i := by
    rw [e, List.append_assoc, fb_good _ [] _ (by simpa using nd) (by simpa using h5)]
    exact hx _
  rw [e2] at t
  exact t
end
section
variable {X : Cx} {CX : CXT} {k : Nat} {f C : Addr} {fd : FuncData} {ps : List Str} {sp : Sp} {E : L2.St → XK} {x : Str} {p pos : Pos} {e : Expr} {es : List Expr} {t : TA}
/-- C(e, ..) within a try -/
def tMakeS (C : Addr) (sp : Sp) (E : L2.St → XK) (t : TA) : TE := fun τ G Q => t τ G fun vs G1 => ∀ y dy, G1 y = none → G1 dy = none → dy ≠ y → sp (.ref y :: vs) (upd (upd G1 dy (.own y)) y (.ins C dy [])) (fun v G2 => v = .non ∧ Q (.ref y) G2) (E τ)
theorem make_run {pins : List (Addr × Obj)} {τ : L2.St} {G : Hp} {s : Shared} {Q : VK} {us : List Value} {vs : List V} (mk : Mk X.K C f) (fo : FnOk X.prog X.w X.K X.mg X.base CX k f fd ps sp) (hr : Room (k + 1) X.A) (hb : Binds X.K fd ps [])
    (ha : PassesAt CX X τ (E τ)) (J : Inv X pins τ G s) (rv : Vals vs us)
    (h : ∀ y dy, G y = none → G dy = none → dy ≠ y → sp (.ref y :: vs) (upd (upd G dy (.own y)) y (.ins C dy [])) (fun v G2 => v = .non ∧ Q (.ref y) G2) (E τ)) : wpAny (model X.prog X.w) X.A (call (.ref C) us) (EP X pins τ Q) X.xe s := by
  have promised := h (s.heap.objs.size + 1) s.heap.objs.size (J.hok.fresh (Nat.le_succ _)) (J.hok.fresh (Nat.le_refl _)) (Nat.ne_of_lt (Nat.lt_succ_self _))
  have J2 := Inv.made (C := C) J
  have all : Vals (V.ref (s.heap.objs.size + 1) :: vs) (Value.ref (s.heap.objs.size + 1) :: us) := .cons rfl rv
  have count : (Value.ref (s.heap.objs.size + 1) :: us).length = ps.length := by
    have c1 := all.length
    rw [fo.len _ _ _ _ promised] at c1
    exact c1.symm
  have bound := hb _ (Value.ref (s.heap.objs.size + 1) :: us) J2.kIn (by rw [List.append_nil]; exact count)
  rw [List.append_nil] at bound
  refine wpAny_call (make_map (f := f) J.kIn mk.makes mk.init (beq_iff_eq.mp mk.fn) (codeAny_mono (fo.run _ X.stack _ _ ⟨Value.ref (s.heap.objs.size + 1) :: us, []⟩ (Value.ref (s.heap.objs.size + 1) :: us) _ _ (E τ) (hr.make C us []) (J2.env0.make C us []) bound all promised) fun out s' got => ?_))
  cases out with
  | error er => exact ha pins _ _ er s' J2 got
  | ok fl =>
    cases fl with
    | ret u =>
      obtain ⟨v, G3, J3, ru, rfl, q3⟩ := J2.after got
      exact ⟨ru, ⟨V.ref (s.heap.objs.size + 1), G3, J3, rfl, q3⟩⟩
    | next => exact got.elim
    | brk => exact got.elim
    | cont => exact got.elim
theorem pe_makeS (mk : Mk X.K C f) (fo : FnOk X.prog X.w X.K X.mg X.base CX k f fd ps sp) (hr : Room (k + 1) X.A) (hg : Gl X x) (hm : X.mg x = some (.ref C)) (hb : Binds X.K fd ps []) (ha : ∀ τ, PassesAt CX X τ (E τ)) (hs : PA X (e :: es) t)
    (hdb : (x == ("__debug__" : Str)) = false := by decide) (h1 : starEach (e :: es) X.env = (false, eval e X.env) :: starEach es X.env := by rfl) (h2 : (backTo pos (starEach es X.env)).any (·.1) = false := by rfl) :
    PE X (.Call (.Name x p) (e :: es) [] pos) (tMakeS C sp E t) := by
  refine ⟨fun pins s τ G Q J h => wpAny_Call_Name_kw (ld_glob J hg hm (PySem.W.callWith_K (h₀ := X.base) J.ok.mod.kin mk.kp (thn (hs.run pos pins s τ G _ J h) fun us s1 got => ?_) h1 h2) hdb)⟩
  obtain ⟨vs, G1, J1, rv, q⟩ := got
  exact ⟨J1.kIn, make_run mk fo hr hb (ha τ) J1 rv q⟩
end
section
variable {P : Program} {w : World} {K : PySem.W.Frag} {mg : Str → Option Value} {base : Heap} {C fI pR fG fL fE : Addr}
abbrev nRef : List Str := ["_law_rules_here", "_law_found", "e"]
theorem scRef : FnScope nRef ["_law_rules_here"] (defScope sRef) := ⟨rfl, rfl, rfl, by decide +kernel, rfl, by decide +kernel, by decide +kernel⟩
def spRefB : Sp := fun vs H Q _ => ∃ v u, vs = [v] ∧ Rl K H v (some u) ∧ ∀ l G, Ex H G → G l = some (.lst [u]) → Q (.ref l) G
/-- the suite -/
def tSui (Cx : Addr) : Addr → Value → Option Addr → TS := fun a cls d => tAsg (tLst (tCons (tXf a cls d Cx "index" (tVar 2)) tNil)) (gName 1)
def cls1 (Cx : Addr) : List Cl := [(.ref Cx, some 2, tSui Cx)]
theorem ok_ref {f Cx fX : Addr} {fd fdI : FuncData} (F : Fun K "_law_refused" "_law_refused" sRef f fd) (B : Bks K mg C fI pR fG fL fE) (X : Xi K mg "BadRules" Cx fX) (xx : PySem.W.exmOne K (.ref Cx) (.ref Cx) = some true)
    (FI : FnOk P w K mg base (L2.CX P w) 7 fI fdI ["self", "rules"] (spInit (K := K) C Cx)) (bI : Binds K fdI ["self", "rules"] []) : FnOk P w K mg base CX0 9 f fd ["_law_rules_here"] (spRefB (K := K)) := by
  refine F.ok scRef (fun vs H Q E h => ?_) (fun cdv A outer s H vs Q E hr h => ?_)
  · obtain ⟨v, u, rfl, _⟩ := h
    rfl
  · obtain ⟨v, u, rfl, rl, k⟩ := h
    refine ⟨_, pss_cons (ps_set (i := 1) scRef.nd rfl (Or.inl rfl) pe_non)
      (pss_cons (ps_try_mix (l := cls1 Cx) (Wo := fun _ _ _ _ => False) (tb := fun W => tDrop (tMakeS C (spInit (K := K) C Cx) (WE W) (tCons (tVar 0) tNil))) rfl rfl scRef.nd takes0
        (fun W pn xe tk _ => pss_one (ps_expr (pe_makeS B.mkr FI hr (by rfl) B.g bI (fun σ => passAt tk σ) (by exact (pa_cons (pv 0) pa_nil)))))
        (.named ⟨rfl, by decide, .inl X.g⟩ rfl rfl (fun a oe cls d pn hz hf => pss_one (ps_set (i := 1) scRef.nd rfl (Or.inl rfl) (by exact (pe_lst (pa_cons (pe_xf X.f X.n hz hf (pv 2)) pa_nil))))) .nil))
      (pss_one (ps_ret (pv 1)))), ?_⟩
    refine q_asg ev_c fun H1 e1 => ?_
    refine ⟨_, rfl, fun y dy hy hdy ne => ?_⟩
    have eG : Ex H (upd (upd H1 dy (.own y)) y (.ins C dy [])) := e1.trans ((Ex.new hdy).trans (Ex.new (by rw [upd_ne ne.symm]; exact hy)))
    refine ⟨y, dy, v, some u, rfl, upd_same, rl.mono eG, fun z => (by cases z), fun u' hu' => ?_⟩
    cases hu'
    intro d G' e' hd hn
    refine ⟨true, xx, fun _ a ha => ?_, fun z => by cases z⟩
    refine ⟨_, rfl, rfl, rfl, d, [(("index" : Str), u)], u, rfl, hd, by simp [List.lookup], by show 1 ≤ sizeLine; decide, fun l hl => ?_⟩
    exact ⟨_, rfl, k l _ ((eG.trans e').trans (Ex.new hl)) upd_same⟩
end
end Bl
namespace Bl
open PySem PySem.Spec PyProof.Rows L2 Bk Bm Evl Be Cr Bp TL
theorem mul9 : MulOk (Str.ofString "x") 9 := by
  refine ⟨by decide, fun _ _ => by decide +kernel, fun _ _ => by decide +kernel⟩
theorem mul9_bad : (Txt.mul (Str.ofString "x") 9).length ≤ 1000 ∧ wordB (Txt.mul (Str.ofString "x") 9) = false := by decide +kernel
/-! things that are no rules -/
def BadL (vs : List V) : Prop := match vs with
  | x0 :: x1 :: rest => (∀ z, x1 = .str z → z ∈ kinds9) ∧ ∀ (K : PySem.W.Frag) (H : Hp) (os : List (Option (List V))), Paired (Th K H) rest os → ruleB x0 x1 rest os = false
  | _ => True
theorem bl_head {x0 : V} {k : Str} {rest : List V} (hk : k ∈ kinds9) (h : isPathV x0 = false) : BadL (x0 :: .str k :: rest) := by
  refine ⟨fun z hz => by cases hz; exact hk, fun K H os _ => ?_⟩
  unfold ruleB
  rw [h]
  rfl
theorem bl_none {x0 : V} {k : Str} {rest : List V} (hk : k ∈ kinds9) (h : formOf k = none) : BadL (x0 :: .str k :: rest) := by
  refine ⟨fun z hz => by cases hz; exact hk, fun K H os _ => ?_⟩
  unfold ruleB
  simp only [h]
  simp
theorem bl_len {x0 : V} {k : Str} {fs : List Str} {rest : List V} (hk : k ∈ kinds9) (hf : formOf k = some fs) (h : rest.length ≠ fs.length) : BadL (x0 :: .str k :: rest) := by
  refine ⟨fun z hz => by cases hz; exact hk, fun K H os _ => ?_⟩
  unfold ruleB
  simp only [hf, decide_eq_false h]
  simp
theorem bl_int {x0 : V} {i : Int} {rest : List V} : BadL (x0 :: .int i :: rest) := by
  refine ⟨fun z hz => (by cases hz), fun K H os _ => ?_⟩
  unfold ruleB
  simp
theorem rb_fit {x0 : V} {k : Str} {fs : List Str} {rest : List V} {os : List (Option (List V))} {i : Nat} {f : Str} {v : V} {o : Option (List V)} (hf : formOf k = some fs) (h1 : fs[i]? = some f) (h2 : rest[i]? = some v) (h3 : os[i]? = some o) (h4 : fitsV f v o = false) :
    ruleB x0 (.str k) rest os = false := by
  have z2 : (rest.zip os)[i]? = some (v, o) := List.getElem?_zip_eq_some.mpr ⟨h2, h3⟩
  have z3 : (fs.zip (rest.zip os))[i]? = some (f, (v, o)) := List.getElem?_zip_eq_some.mpr ⟨h1, z2⟩
  have z4 : ((fs.zip (rest.zip os)).all fun p => fitsV p.1 p.2.1 p.2.2) = false := by
    rw [List.all_eq_false]
    exact ⟨_, List.mem_of_getElem? z3, by rw [h4]; decide⟩
  unfold ruleB
  simp only [hf, z4]
  simp
theorem bl_fit {x0 : V} {k : Str} {fs : List Str} {rest : List V} (i : Nat) (f : Str) (v : V) (hk : k ∈ kinds9) (hf : formOf k = some fs) (h1 : fs[i]? = some f) (h2 : rest[i]? = some v) (h3 : ∀ (K : PySem.W.Frag) (H : Hp) o, Th K H v o → fitsV f v o = false) : BadL (x0 :: .str k :: rest) := by
  refine ⟨fun z hz => by cases hz; exact hk, fun K H os hp => ?_⟩
  obtain ⟨o, ho, th⟩ := pr_get hp h2
  exact rb_fit hf h1 h2 ho (h3 K H o th)
section
variable {K : PySem.W.Frag} {ps : List Str} {σ : L2.St} {H : Hp} {te tb : TE} {ta : TA} {n : Nat}
def EvB (K : PySem.W.Frag) (ps : List Str) (te : TE) (σ : L2.St) (H : Hp) : Prop := ∀ H1, Ex H H1 → ∀ Q : VK, (∀ v H2, Ex H1 H2 → Bd K ps H2 v → Q v H2) → te σ H1 Q
def EvBs (K : PySem.W.Frag) (ps : List Str) (ta : TA) (σ : L2.St) (H : Hp) (n : Nat) : Prop := ∀ H1, Ex H H1 → ∀ Q : List V → Hp → Prop, (∀ vs H2, Ex H1 H2 → (∀ v ∈ vs, Bd K ps H2 v) → vs.length = n → Q vs H2) → ta σ H1 Q
def EvBL (K : PySem.W.Frag) (ps : List Str) (te : TE) (σ : L2.St) (H : Hp) (n : Nat) : Prop :=
  ∀ H1, Ex H H1 → ∀ Q : VK, (∀ p xs H2, H1 p = none → Ex H1 H2 → H2 p = some (.lst xs) → (∀ x ∈ xs, Bd K ps H2 x) → xs.length = n → Q (.ref p) H2) → te σ H1 Q
theorem eb_nil : EvBs K ps tNil σ H 0 := fun H1 e Q q => q [] H1 (Ex.refl _) (fun _ z => by cases z) rfl
theorem eb_cons (h : EvB K ps te σ H) (hr : EvBs K ps ta σ H n) : EvBs K ps (tCons te ta) σ H (n + 1) := fun H1 e Q q => h H1 e _ fun v H2 e2 b => hr H2 (e.trans e2) _ fun vs H3 e3 bs hl => q (v :: vs) H3 (e2.trans e3) (fun x hx => by
  rcases List.mem_cons.mp hx with rfl | hx
  · exact b.mono e3
  · exact bs x hx) (by rw [List.length_cons, hl])
theorem eb_lst (h : EvBs K ps ta σ H n) (hn : n ≤ 1000) : EvBL K ps (tLst ta) σ H n := fun H1 e Q q => h H1 e _ fun vs H2 e2 bs hl => ⟨sz_of (by omega), fun p hp => q p vs _ (fresh_back e2 hp) (e2.trans (Ex.new hp)) upd_same (fun x hx => (bs x hx).mono (Ex.new hp)) hl⟩
/-- xs + ys -/
theorem eb_cat {m : Nat} (h1 : EvBL K ps te σ H n) (h2 : EvBL K ps tb σ H m) (hn : n + m ≤ 1000) : EvBL K ps (tOp rCat te tb) σ H (n + m) := fun H1 e Q q =>
  h1 H1 e _ fun p xs H2 hp e2 hx bx lx => h2 H2 (e.trans e2) _ fun p2 ys H3 hp2 e3 hy by_ ly => ⟨p, p2, xs, ys, rfl, rfl, e3 _ _ hx, hy, sz_of (by omega), fun l hl => q l _ _ (fresh_back (e2.trans e3) hl) ((e2.trans e3).trans (Ex.new hl)) upd_same (fun x hm => by
    rcases List.mem_append.mp hm with hm | hm
    · exact ((bx x hm).mono e3).mono (Ex.new hl)
    · exact (by_ x hm).mono (Ex.new hl)) (by rw [List.length_append, lx, ly])⟩
/-- the list in a slot -/
theorem eb_old {i : Nat} {l : Addr} {xs : List V} {m : Nat} (hi : σ[i]? = some (some (.ref l))) (hl : H l = some (.lst xs)) (hx : ∀ x ∈ xs, Bd K ps H x) (hn : xs.length + m ≤ 1000) (h2 : EvBL K ps tb σ H m) : EvBL K ps (tOp rCat (tVar i) tb) σ H (xs.length + m) := fun H1 e Q q =>
  ⟨_, hi, h2 H1 e _ fun p2 ys H3 hp2 e3 hy by_ ly => ⟨l, p2, xs, ys, rfl, rfl, (e.trans e3) _ _ hl, hy, sz_of (by omega), fun p hp => q p _ _ (fresh_back e3 hp) (e3.trans (Ex.new hp)) upd_same (fun x hm => by
    rcases List.mem_append.mp hm with hm | hm
    · exact ((hx x hm).mono (e.trans e3)).mono (Ex.new hp)
    · exact (by_ x hm).mono (Ex.new hp)) (by rw [List.length_append, ly])⟩⟩
/-- [x] * k -/
theorem eb_rep {k : Nat} (h : EvBL K ps te σ H 1) (hk : k ≤ 5) : EvBL K ps (tOp rRep te (tC (.int (k : Int)))) σ H k := fun H1 e Q q =>
  h H1 e _ fun p xs H2 hp e2 hx bx lx => ⟨p, (k : Int), xs, rfl, rfl, hx, by omega, by omega, sz_of (by rw [lx]; omega), fun l hl => q l _ _ (fresh_back e2 hl) (e2.trans (Ex.new hl)) upd_same (fun x hm => by
    obtain ⟨ys, hy, hxy⟩ := List.mem_flatten.mp hm
    rw [(List.mem_replicate.mp hy).2] at hxy
    exact (bx x hxy).mono (Ex.new hl)) (by simp [lx])⟩
theorem eb_non : EvB K ps (tC .non) σ H := fun H1 e Q q => q .non H1 (Ex.refl _) (.inl (.no kd_non (by decide)))
theorem eb_int {i : Int} : EvB K ps (tC (.int i)) σ H := fun H1 e Q q => q (.int i) H1 (Ex.refl _) (.inl (.no (kd_int i) (by decide)))
/-- a list -/
theorem eb_l {vs : List V} (h : EvA ta σ H vs) (hl : vs.length ≤ 1000) : EvB K ps (tLst ta) σ H := fun H1 e Q q => h H1 e _ fun H2 e2 => ⟨sz_of (by omega), fun p hp => q (.ref p) _ (e2.trans (Ex.new hp)) (.inl (.no (kd_lst upd_same) (by decide)))⟩
theorem th_all : ∀ {rest : List V}, (∀ x ∈ rest, Sm H x) → ∃ os, Paired (Th K H) rest os
  | [], _ => ⟨[], .nil⟩
  | x :: r, h => by
    obtain ⟨o, ho, _⟩ := th_of (K := K) (h x List.mem_cons_self)
    obtain ⟨os, hos⟩ := th_all (rest := r) fun y hy => h y (List.mem_cons_of_mem _ hy)
    exact ⟨o :: os, .cons ho hos⟩
/-- a tuple of small things -/
theorem eb_t {vs : List V} (h : EvA ta σ H vs) (hs : ∀ x ∈ vs, Sm H x) (hl : vs.length ≤ 100) (hb : BadL vs) : EvB K ps (tTup ta) σ H := fun H1 e Q q => h H1 e _ fun H2 e2 => ⟨sz_of (by omega), fun p hp => q (.ref p) _ (e2.trans (Ex.new hp)) (.inl (by
  have eG := (e.trans e2).trans (Ex.new (o := .tup vs) hp)
  match vs, hs, hl, hb with
  | [], _, _, _ => exact .short upd_same (by decide)
  | [_], _, _, _ => exact .short upd_same (by show 1 < 2; decide)
  | x0 :: x1 :: rest, hs, hl, hb =>
    obtain ⟨os, hos⟩ := th_all (K := K) (H := upd H2 p (.tup (x0 :: x1 :: rest))) (rest := rest) fun x hx => (hs x (List.mem_cons_of_mem _ (List.mem_cons_of_mem _ hx))).mono eG
    have r := Ru.long (K := K) (H := upd H2 p (.tup (x0 :: x1 :: rest))) upd_same ((hs x0 List.mem_cons_self).mono eG) ((hs x1 (List.mem_cons_of_mem _ List.mem_cons_self)).mono eG) hb.1 hos (by simp only [List.length_cons] at hl; omega) fun _ x hx => (hs x (List.mem_cons_of_mem _ (List.mem_cons_of_mem _ hx))).mono eG
    rw [hb.2 K _ os hos] at r
    exact r))⟩
theorem zS : Sm H (.str (Str.ofString "z")) := .str _ (by decide)
theorem jS : Sm H (.str (Str.ofString "join")) := .str _ (by decide)
theorem jk : Str.ofString "join" ∈ kinds9 := by decide +kernel
theorem jn : (V.str (Str.ofString "join")) ≠ .str (Str.ofString "names") := by
  intro z
  injection z with z
  exact absurd z (by decide +kernel)
/-- ('z', 'join', ['a']) -/
theorem eb_jl : EvB K ps (tTup (tCons (tC (.str (Str.ofString "z"))) (tCons (tC (.str (Str.ofString "join"))) (tCons (tLst (tCons (tC (.str (Str.ofString "a"))) tNil)) tNil)))) σ H := fun H1 e Q q =>
  ⟨by show 1 ≤ sizeLine; decide, fun l hl => ⟨by show 3 ≤ sizeLine; decide, fun p hp => q (.ref p) _ ((Ex.new hl).trans (Ex.new hp)) (.inl (by
    have h1 : (upd (upd H1 l (.lst [.str (Str.ofString "a")])) p (.tup [.str (Str.ofString "z"), .str (Str.ofString "join"), .ref l])) l = some (.lst [.str (Str.ofString "a")]) := (Ex.new hp) _ _ upd_same
    have r := Ru.long (K := K) (os := [none]) (upd_same (a := p) (H := upd H1 l (.lst [.str (Str.ofString "a")]))) zS jS (fun z hz => by cases hz; exact jk) (.cons (.sm (.l1 h1) (kd_lst h1) (by decide)) .nil) (by show 1 ≤ 100; decide) fun z => absurd z jn
    rw [rb_fit (i := 0) f_join rfl rfl rfl fit_pathsN] at r
    exact r))⟩⟩
/-- ('z', 'join', ('a',) * 5) -/
theorem eb_j5 : EvB K ps (tTup (tCons (tC (.str (Str.ofString "z"))) (tCons (tC (.str (Str.ofString "join"))) (tCons (tOp (rRepT K) (tTup (tCons (tC (.str (Str.ofString "a"))) tNil)) (tC (.int 5))) tNil)))) σ H := fun H1 e Q q =>
  ⟨by show 1 ≤ sizeLine; decide, fun t ht => ⟨t, 5, _, rfl, rfl, SqT.of upd_same, by simp, by decide, by decide, by show 1 ≤ 1000; decide, fun l hl => ⟨by show 3 ≤ sizeLine; decide, fun p hp => q (.ref p) _ ((Ex.new ht).trans ((Ex.new hl).trans (Ex.new hp))) (.inl (by
    have h1 := (Ex.new (o := .tup [.str (Str.ofString "z"), .str (Str.ofString "join"), .ref l]) hp) _ _ (upd_same (a := l) (o := .tup (List.replicate (5 : Int).toNat [V.str (Str.ofString "a")]).flatten) (H := upd H1 t (.tup [.str (Str.ofString "a")])))
    have r := Ru.long (K := K) (os := [some (List.replicate (5 : Int).toNat [V.str (Str.ofString "a")]).flatten]) (upd_same (a := p) (o := .tup [.str (Str.ofString "z"), .str (Str.ofString "join"), .ref l])) zS jS (fun z hz => by cases hz; exact jk)
      (.cons (.tu h1 (fun x hx => by
        obtain ⟨ys, hy, hxy⟩ := List.mem_flatten.mp hx
        rw [(List.mem_replicate.mp hy).2] at hxy
        rw [List.mem_singleton.mp hxy]
        exact .str _ (by decide)) (by decide)) .nil) (by show 1 ≤ 100; decide) fun z => absurd z jn
    rw [rb_fit (i := 0) f_join rfl rfl rfl (by rw [fit_paths]; rfl)] at r
    exact r))⟩⟩⟩
/-- ('z', 'join', ('a', odd)) -/
theorem eb_jo {i : Nat} {o : V} (hi : σ[i]? = some (some o)) (ho : Sm H o) (hb : isPathV o = false) : EvB K ps (tTup (tCons (tC (.str (Str.ofString "z"))) (tCons (tC (.str (Str.ofString "join"))) (tCons (tTup (tCons (tC (.str (Str.ofString "a"))) (tCons (tVar i) tNil))) tNil)))) σ H := fun H1 e Q q =>
  ⟨_, hi, by show 2 ≤ sizeLine; decide, fun l hl => ⟨by show 3 ≤ sizeLine; decide, fun p hp => q (.ref p) _ ((Ex.new hl).trans (Ex.new hp)) (.inl (by
    have eG := e.trans ((Ex.new (o := .tup [.str (Str.ofString "a"), o]) hl).trans (Ex.new (o := .tup [.str (Str.ofString "z"), .str (Str.ofString "join"), .ref l]) hp))
    have h1 := (Ex.new (o := .tup [.str (Str.ofString "z"), .str (Str.ofString "join"), .ref l]) hp) _ _ (upd_same (a := l) (o := .tup [.str (Str.ofString "a"), o]) (H := H1))
    have r := Ru.long (K := K) (os := [some [.str (Str.ofString "a"), o]]) (upd_same (a := p) (o := .tup [.str (Str.ofString "z"), .str (Str.ofString "join"), .ref l])) zS jS (fun z hz => by cases hz; exact jk)
      (.cons (.tu h1 (fun x hx => by
        rcases List.mem_cons.mp hx with rfl | hx
        · exact .str _ (by decide)
        · rw [List.mem_singleton.mp hx]
          exact ho.mono eG) (by show 2 ≤ 1000; decide)) .nil) (by show 1 ≤ 100; decide) fun z => absurd z jn
    rw [rb_fit (i := 0) f_join rfl rfl rfl (by rw [fit_paths]; simp [hb])] at r
    exact r))⟩⟩
/-- (a path that is in the way, 'join', ()) -/
theorem eb_way {p0 : Str} (h : Ev te σ H (.str p0)) (hl : p0.length ≤ 1000) (hp : pathB p0 = true) (hw : ps.any (way p0) = true) : EvB K ps (tTup (tCons te (tCons (tC (.str (Str.ofString "join"))) (tCons (tTup tNil) tNil)))) σ H := fun H1 e Q q =>
  h H1 e _ fun H2 e2 => ⟨by show 0 ≤ sizeLine; decide, fun l hl' => ⟨by show 3 ≤ sizeLine; decide, fun a ha => q (.ref a) _ (e2.trans ((Ex.new hl').trans (Ex.new ha))) (.inr (by
    have h1 := (Ex.new (o := .tup [.str p0, .str (Str.ofString "join"), .ref l]) ha) _ _ (upd_same (a := l) (o := .tup []) (H := H2))
    have r := Ru.long (K := K) (os := [some []]) (upd_same (a := a) (o := .tup [.str p0, .str (Str.ofString "join"), .ref l])) (.str p0 hl) jS (fun z hz => by cases hz; exact jk) (.cons (.tu h1 (fun x hx => (by cases hx)) (by decide)) .nil) (by show 1 ≤ 100; decide) fun z => absurd z jn
    rw [ruleB_of hp f_join rfl (by show (fitsV _ (.ref l) (some []) && true) = true; rw [fit_paths]; rfl)] at r
    exact ⟨p0, ⟨r, ⟨a, _, rfl, upd_same⟩, hl⟩, hw⟩))⟩⟩
end
end Bl
namespace Bl
open PySem PySem.Spec PyProof.Rows L2 Bk Bm Evl Be Cr Bp TL
section
variable {K : PySem.W.Frag} {H G : Hp} {r C Cx : Addr} {v : V}
theorem if_raw {tt : TT} {tu tw : TS} {De : Ends} {σ : L2.St} (h : tt σ G fun b H1 => if b = true then tu De σ H1 else tw De σ H1) : tIfS tt tu tw De σ G := h
theorem test_raw {te : TE} {σ : L2.St} {Q : Bool → Hp → Prop} (h : te σ G fun x H1 => ∃ k, x = .bl k ∧ Q k H1) : tTest te σ G Q := h
theorem call_raw {sp : Sp} {E : XK} {ta : TA} {σ : L2.St} {Q : VK} (h : ta σ G fun vs H1 => sp vs H1 Q E) : tCall sp [] E ta σ G Q := by
  show ta σ G fun vs H1 => sp (vs ++ []) H1 Q E
  simpa using h
theorem cons_raw {te : TE} {ta : TA} {σ : L2.St} {Q : List V → Hp → Prop} (h : te σ G fun x H1 => ta σ H1 fun xs H2 => Q (x :: xs) H2) : tCons te ta σ G Q := h
theorem seq_raw {t u : TS} {De : Ends} {σ : L2.St} (h : t { De with nx := u De } σ G) : tSeq t u De σ G := h
theorem make_raw {sp : Sp} {E : XK} {ta : TA} {σ : L2.St} {Q : VK} (h : ta σ G fun vs H1 => ∀ x dx, H1 x = none → H1 dx = none → dx ≠ x → sp (.ref x :: (vs ++ [])) (upd (upd H1 dx (.own x)) x (.ins C dx [])) (fun v H2 => v = .non ∧ Q (.ref x) H2) E) : tMake C sp [] E ta σ G Q := h
theorem par3_raw {i j l : Nat} {ta : TA} {De : Ends} {σ : L2.St} (h : ta σ G fun vs H1 => ∃ u v w, vs = [u, v, w] ∧ De.nx (((σ.set i (some u)).set j (some v)).set l (some w)) H1) : tPar3 i j l ta De σ G := h
theorem drop_raw {te : TE} {De : Ends} {σ : L2.St} (h : te σ G fun _ H1 => De.nx σ H1) : tDrop te De σ G := h
theorem dp_strs (G : Hp) : ∀ zs : List Str, DpAll K G (zs.map V.str) (zs.map PyData.str)
  | [] => .nil
  | z :: r => .cons (.str z) (dp_strs G r)
theorem sh_strs {zs : List Str} (h : ∀ z ∈ zs, okS z) : SeqAt.shaped (.list (zs.map PyData.str)) = true := by
  obtain ⟨l1, l2⟩ := lay_strs h
  show (PyData.canLayAll0 (zs.map PyData.str) && decide (PyData.depth (.list (zs.map PyData.str)) ≤ 64)) = true
  rw [l1, decide_eq_true (by simp only [PyData.depth]; omega)]
  rfl
theorem eqv_less {gs : List (Str × PyData)} (h : 1 ≤ gs.length) : PyData.eqv (dRs gs) (dRs (gs.drop 1)) = false := by
  unfold dRs
  rw [PyData.eqv]
  exact eq_len _ _ (by simp only [List.length_map, List.length_drop]; omega)
theorem sm_nil : ∀ y ∈ ([] : List V), Sm H y := fun _ h => by cases h
theorem sm_cons {x : V} {xs : List V} (h : Sm H x) (hr : ∀ y ∈ xs, Sm H y) : ∀ y ∈ x :: xs, Sm H y := fun y hy => by
  rcases List.mem_cons.mp hy with rfl | hy
  · exact h
  · exact hr y hy
def hdP (q : Str) : Str := (partsOf q).getD 0 (Str.ofString "")
theorem five_ok : ∀ q ∈ five, (pathB q = true ∧ q.length ≤ 1000 ∧ way q q = true) ∧ (pathB (hdP q) = true ∧ (hdP q).length ≤ 1000 ∧ way (hdP q) q = true ∧ (partsOf q)[0]? = some (hdP q)) ∧
    (partsOf q).length < 3 ∧ (pathB (q ++ Str.ofString "/z") = true ∧ (q ++ Str.ofString "/z").length ≤ 1000 ∧ way (q ++ Str.ofString "/z") q = true) := by decide +kernel
theorem f_size : formOf (Str.ofString "size") = some [Str.ofString "path"] := by decide +kernel
theorem f_pick : formOf (Str.ofString "pick") = some [Str.ofString "path", Str.ofString "word"] := by decide +kernel
theorem f_need : formOf (Str.ofString "need") = some [Str.ofString "path", Str.ofString "word"] := by decide +kernel
theorem k9 : Str.ofString "size" ∈ kinds9 ∧ Str.ofString "Size" ∈ kinds9 ∧ Str.ofString "pick" ∈ kinds9 ∧ Str.ofString "need" ∈ kinds9 ∧ Str.ofString "choose" ∈ kinds9 ∧ Str.ofString "names" ∈ kinds9 := by decide +kernel
theorem ev_mul9 {σ : L2.St} : Ev (tOp rMulS (tC (.str (Str.ofString "x"))) (tC (.int 9))) σ H (.str (Txt.mul (Str.ofString "x") 9)) := ev_op ev_c ev_c fun H1 e Q q => ⟨_, _, rfl, rfl, mul9, q H1 (Ex.refl _)⟩
/-- a book of drawn rules -/
theorem make_go {t : Addr} {xs : List V} {gs : List (Str × PyData)} {Q : VK} (ht : H t = some (.tup xs)) (rs : RsAt H xs gs) (k : ∀ x G, Ex H G → H x = none → BkAt G C x (.ref t) → Q (.ref x) G) :
    ∀ x dx, H x = none → H dx = none → dx ≠ x → spInit (K := K) C Cx [.ref x, .ref t] (upd (upd H dx (.own x)) x (.ins C dx [])) (fun v H2 => v = .non ∧ Q (.ref x) H2) E0 := by
  intro x dx hx hdx ne
  have e1 : Ex H (upd (upd H dx (.own x)) x (.ins C dx [])) := (Ex.new hdx).trans (Ex.new (by rw [upd_ne ne.symm]; exact hx))
  exact ⟨x, dx, .ref t, none, rfl, upd_same, (rl_good ht rs).mono e1, fun _ G1 e2 => ⟨rfl, k x _ ((e1.trans e2).mut hx) hx ⟨dx, upd_same⟩⟩, fun u z => by cases z⟩
theorem make_ev {σ : L2.St} {te : TE} {t : Addr} {xs : List V} {gs : List (Str × PyData)} {Q : VK} (h : Ev te σ H (.ref t)) (ht : H t = some (.tup xs)) (rs : RsAt H xs gs) (k : ∀ x G, Ex H G → BkAt G C x (.ref t) → Q (.ref x) G) :
    tMake C (spInit (K := K) C Cx) [] E0 (tCons te tNil) σ H Q := h H (Ex.refl _) _ fun H1 e => make_go (e _ _ ht) (rs.mono e) fun x G eG _ hb => k x G (e.trans eG) hb
theorem make_sl {σ : L2.St} {ts : TE} {xs : List V} {gs : List (Str × PyData)} {Q : VK} (hs : ∀ Q : VK, (∀ p H2, Ex H H2 → H2 p = some (.tup xs) → Q (.ref p) H2) → ts σ H Q) (rs : RsAt H xs gs)
    (k : ∀ p x G, Ex H G → G p = some (.tup xs) → BkAt G C x (.ref p) → Q (.ref x) G) : tMake C (spInit (K := K) C Cx) [] E0 (tCons ts tNil) σ H Q := hs _ fun p H1 e hp => make_go hp (rs.mono e) fun x G eG _ hb => k p x G (e.trans eG) (eG _ _ hp) hb
theorem slice_toU {σ : L2.St} {te ti : TE} {a : Addr} {xs : List V} {i : Nat} (h : Ev te σ H (.ref a)) (hi : Ev ti σ H (.int (i : Int))) (hx : H a = some (.tup xs)) (hl : i ≤ xs.length) :
    ∀ H1, Ex H H1 → ∀ Q : VK, (∀ p H2, Ex H1 H2 → H2 p = some (.tup (xs.take i)) → Q (.ref p) H2) → tSl (rSlA K) te tNoPart (tPart ti) σ H1 Q := fun H1 e Q q =>
  h H1 e _ fun H2 e2 => hi H2 (e.trans e2) _ fun H3 e3 => ⟨(i : Int), rfl, a, xs, rfl, st_of (((e.trans e2).trans e3) _ _ hx), by
    have c1 : HT.sIx xs.length 0 none = 0 := HT.sIx_none _ _
    have c2 : HT.sIx xs.length xs.length (some (i : Int)) = i := by rw [HT.sIx_nat]; omega
    rw [cut_to hl, c1, c2]
    refine ⟨fun z => ?_, fun z p hp => q p _ ((e2.trans e3).trans (Ex.new hp)) upd_same⟩
    have z2 : xs.take i = xs := by rw [z.2]; exact List.take_length
    refine q a H3 (e2.trans e3) ?_
    rw [z2]
    exact ((e.trans e2).trans e3) _ _ hx⟩
theorem slice_fromU {σ : L2.St} {te ti : TE} {a : Addr} {xs : List V} {i : Nat} (h : Ev te σ H (.ref a)) (hi : Ev ti σ H (.int (i : Int))) (hx : H a = some (.tup xs)) (hl : i ≤ xs.length) :
    ∀ H1, Ex H H1 → ∀ Q : VK, (∀ p H2, Ex H1 H2 → H2 p = some (.tup (xs.drop i)) → Q (.ref p) H2) → tSl (rSlA K) te (tPart ti) tNoPart σ H1 Q := fun H1 e Q q =>
  h H1 e _ fun H2 e2 => hi H2 (e.trans e2) _ fun H3 e3 => ⟨(i : Int), rfl, a, xs, rfl, st_of (((e.trans e2).trans e3) _ _ hx), by
    have c1 : HT.sIx xs.length 0 (some (i : Int)) = i := by rw [HT.sIx_nat]; omega
    have c2 : HT.sIx xs.length xs.length none = xs.length := HT.sIx_none _ _
    have c3 : cutV xs (some (i : Int)) none = xs.drop i := by
      unfold cutV
      rw [c1, c2]
      exact List.take_of_length_le (by rw [List.length_drop]; omega)
    rw [c1, c2]
    refine ⟨fun z => ?_, fun z p hp => q p _ ((e2.trans e3).trans (Ex.new hp)) (by rw [c3]; exact upd_same)⟩
    have z2 : xs.drop i = xs := by rw [z.1]; rfl
    refine q a H3 (e2.trans e3) ?_
    rw [z2]
    exact ((e.trans e2).trans e3) _ _ hx⟩
theorem catU_go {a b : Addr} {xs ys : List V} {Q : VK} (ha : G a = some (.tup xs)) (hb : G b = some (.tup ys)) (hz : xs.length + ys.length ≤ 100000) (k : ∀ p G', Ex G G' → G' p = some (.tup (xs ++ ys)) → Q (.ref p) G') : rCatA K (.ref a) (.ref b) G Q := by
  refine ⟨a, b, xs, ys, rfl, rfl, st_of ha, st_of hb, sz_of hz, fun z => k b G (Ex.refl _) (by rw [z]; exact hb), fun _ z => k a G (Ex.refl _) (by rw [z, List.append_nil]; exact ha), fun _ _ p hp => k p _ (Ex.new hp) upd_same⟩
theorem sh_1 {d : PyData} (h : d.canLay0 = true) (hd : d.depth ≤ 1) : SeqAt.shaped (.list [d]) = true := by
  show (PyData.canLayAll0 [d] && decide (PyData.depth (.list [d]) ≤ 64)) = true
  have h1 : PyData.canLayAll0 [d] = true := by
    show (d.canLay0 && true) = true
    rw [h]
    rfl
  rw [h1, decide_eq_true (by simp only [PyData.depth, PyData.depthAll]; omega)]
  rfl
theorem Rl.dr {o : Option V} (h : Rl K H v o) (row : Row K H r) (d : Dr K r H G) : Rl K G v o := by
  obtain ⟨rl, hr⟩ := row.at
  obtain ⟨rl', hr'⟩ := d.row.at
  cases h with
  | no k h => exact .no (Kd.kp k hr hr' d.kp) h
  | big h hl => exact .big (d.kp _ _ (ne_of h hr (by intro z; cases z)) h) hl
  | tup h hl hp => exact .tup (d.kp _ _ (ne_of h hr (by intro z; cases z)) h) hl (pr_mono hp fun _ _ z => Itr.dr z row d)
theorem RsAt.drop {xs : List V} {gs : List (Str × PyData)} (h : RsAt H xs gs) (n : Nat) : RsAt H (xs.drop n) (gs.drop n) :=
  ⟨pr_drop h.1 n, by rw [List.map_drop]; exact h.2.1.sublist (List.drop_sublist _ _), by have := h.2.2; rw [List.length_drop]; omega⟩
/-- the last question of a turn -/
theorem last_ok {σ : L2.St} {De : Ends} {t l : Addr} {xs bs : List V} {gs : List (Str × PyData)} {j : Nat} (s1 : σ[1]? = some (some (.ref r))) (s3 : σ[3]? = some (some (.ref t))) (s7 : σ[7]? = some (some (.int (j : Int)))) (s10 : σ[10]? = some (some (.ref l)))
    (row : Row K G r) (ht : G t = some (.tup xs)) (rs : RsAt G xs gs) (hj : j ≤ gs.length) (hl : G l = some (.lst bs)) (nl : l ≠ r) (hb : ∀ x ∈ bs, Bd K ((gs.map (·.1)).take j) G x) (b0 : 0 < bs.length) (b1 : bs.length ≤ 1000) (k : ∀ G', Row K G' r → De.nx σ G') :
    tIfS (tTest (tOp (rNeD K) (tCall (spRefB (K := K)) [] E0 (tCons (tOp (rCatA K) (tOp (rCatA K) (tSl (rSlA K) (tVar 3) tNoPart (tPart (tVar 7))) (tTup (tCons (tCall (spOne (K := K)) [] E0 (tCons (tVar 1) (tCons (tVar 10) tNil))) tNil))) (tSl (rSlA K) (tVar 3) (tPart (tVar 7)) tNoPart)) tNil))
      (tLst (tCons (tVar 7) tNil)))) (tRet (tC (.bl false))) tNext De σ G := by
  have hlen := pr_len rs.1
  have h5 := rs.2.2
  obtain ⟨rl0, hr0⟩ := row.at
  refine if_raw (test_raw (op_raw (call_raw (cons_raw (op_raw (op_raw (slice_toU (i := j) (ev_var s3) (ev_var s7) ht (by omega) G (Ex.refl _) _ fun p1 G1 e1 hp1 => ?_)))))))
  refine tup_raw (cons_raw (drawL (r := r) (t := l) (xs := bs) (ev_var s1) (ev_var s10) (row.ex e1) nl (e1 _ _ hl) b0 (by omega) fun v G2 hv d2 => ?_))
  refine ⟨by show 1 ≤ sizeLine; decide, fun q hq => ?_⟩
  have row1 := row.ex e1
  have hbv : Bd K ((gs.map (·.1)).take j) G2 v := Bd.dr ((hb v hv).mono e1) row1 d2
  have np1 : p1 ≠ r := by
    obtain ⟨rl1, hr1⟩ := row1.at
    exact ne_of hp1 hr1 (by intro z; cases z)
  have nt : t ≠ r := ne_of ht hr0 (by intro z; cases z)
  have rs2 : RsAt G2 xs gs := (rs.mono e1).dr row1 d2
  have ht2 : G2 t = some (.tup xs) := d2.kp _ _ nt (e1 _ _ ht)
  have eq1 := Ex.new (o := .tup [v]) hq
  refine catU_go (eq1 _ _ (d2.kp _ _ np1 hp1)) upd_same (by rw [List.length_take]; show _ + 1 ≤ _; omega) fun p2 G3 e3 hp2 => ?_
  refine slice_fromU (i := j) (ev_var s3) (ev_var s7) ((eq1.trans e3) _ _ ht2) (by omega) G3 (Ex.refl _) _ fun p3 G4 e4 hp3 => ?_
  refine catU_go (e4 _ _ hp2) hp3 (by simp only [List.length_append, List.length_take, List.length_drop, List.length_singleton]; omega) fun p4 G5 e5 hp4 => ?_
  have eG : Ex G2 G5 := ((eq1.trans e3).trans e4).trans e5
  refine ⟨.ref p4, .int (j : Int), rfl, rl_bad (rs2.mono eG) hj (hbv.mono eG) hp4, fun l1 G6 e6 hl1 => ?_⟩
  refine ⟨_, s7, by show 1 ≤ sizeLine; decide, fun l2 hl2 => ?_⟩
  have e7 := Ex.new (o := .lst [V.int (j : Int)]) hl2
  have sh := sh_1 (d := .int (j : Int)) rfl (by simp [PyData.depth])
  refine ⟨.list [.int (j : Int)], .list [.int (j : Int)], .lst (SqL.of (e7 _ _ hl1)) (.cons (.int _) .nil), .lst (SqL.of upd_same) (.cons (.int _) .nil), sh, sh, _, rfl, ?_⟩
  rw [eq_self sh]
  exact k _ (d2.row.ex ((eG.trans e6).trans e7))
end
end Bl
namespace Bl
open PySem PySem.Spec PyProof.Rows L2 Bk Bm Evl Be Cr Bp TL
abbrev sLaw : Stmt := top 34
abbrev nLaw : List Str := ["_law_script", "_law_row", "_law_turn", "_law_rules_here", "_law_book", "_law_many", "_law_k", "_law_at", "_law_odd", "_law_one_here", "_law_bad", "_law_path", "_law_rule_here"]
section
variable {P : Program} {w : World} {K : PySem.W.Frag} {mg : Str → Option Value} {base : Heap} {C fI pR fG fL fE : Addr}
theorem scLaw : FnScope nLaw ["_law_script"] (defScope sLaw) := ⟨rfl, rfl, rfl, by decide +kernel, rfl, by decide +kernel, by decide +kernel⟩
def spLaw (K : PySem.W.Frag) : Sp := fun vs H Q _ => ∃ (a : Addr) (ns : List Int), vs = [.ref a] ∧ Sc K H a ns ∧ ∀ H', Q (.bl true) H'
theorem ok_law {f Cx : Addr} {fd fdI fdG fdL fdE : FuncData} (F : Fun K "law" "law" sLaw f fd) (T : Gv mg) (B : Bks K mg C fI pR fG fL fE)
    (FI : FnOk P w K mg base (L2.CX P w) 7 fI fdI ["self", "rules"] (spInit (K := K) C Cx)) (bI : Binds K fdI ["self", "rules"] [])
    (FG : FnOk P w K mg base CX0 1 fG fdG ["self"] (spGet C)) (bG : Binds K fdG ["self"] [])
    (FL : FnOk P w K mg base CX0 1 fL fdL ["self"] (spLen (K := K) C)) (bL : Binds K fdL ["self"] [])
    (FE : FnOk P w K mg base CX0 1 fE fdE ["self", "other"] (spEqB (K := K) C)) (bE : Binds K fdE ["self", "other"] [])
    (cT : Cal P w K mg base CX0 1 "_law_taken" ["_law_row", "_law_many"] (spTaken (K := K))) (cO : Cal P w K mg base CX0 2 "_law_one" ["_law_row", "_law_things"] (spOne (K := K)))
    (cRs : Cal P w K mg base CX0 4 "_law_rules" ["_law_row", "_law_most"] (spRulesL (K := K))) (cP : Cal P w K mg base CX0 2 "_law_odd_path" ["_law_row"] (spOdd (K := K) isPathV))
    (cM : Cal P w K mg base CX0 3 "made_paths" ["book"] (spMade (K := K) C)) (cR : Cal P w K mg base CX0 9 "_law_refused" ["_law_rules_here"] (spRefB (K := K))) : FnOk P w K mg base CX0 10 f fd ["_law_script"] (spLaw K) := by
  refine F.ok scLaw (fun vs H Q E h => ?_) (fun cdv A outer s H vs Q E hr h => ?_)
  · obtain ⟨a, ns, rfl, _⟩ := h
    rfl
  · obtain ⟨a, ns, rfl, sc, k⟩ := h
    have hr1 : Room 1 _ := hr.mono (by decide)
    have hr2 : Room 2 _ := hr.mono (by decide)
    have hr3 : Room 3 _ := hr.mono (by decide)
    have hr4 : Room 4 _ := hr.mono (by decide)
    have hr8 : Room 8 _ := hr.mono (by decide)
    have hu : (A.deeper (envOfC "law" (defScope sLaw) s.heap.objs.size f cdv)).units + 64 < cLine := by have := hr.un; omega
    refine ⟨_, (pss_cons (ps_set (i := 1) scLaw.nd rfl (Or.inl rfl) (pe_lst (pa_cons (pv 0) (pa_cons pe_int (pa_cons pe_int (pa_cons pe_int pa_nil))))))
        (pss_cons (ps_for PassesOwn.never rfl (pi_range1 (by rfl) T.rng (pa_cons pe_int pa_nil)) (pg_name (i := 2) scLaw.nd rfl (Or.inl rfl)) (pss_cons (ps_set (i := 3) scLaw.nd rfl (Or.inl rfl) (pe_call cRs.F hr4 (by rfl) cRs.g cRs.kp cRs.b .nil pass0 (pa_cons (pv 1) (pa_cons pe_int pa_nil))))
        (pss_cons (ps_set (i := 4) scLaw.nd rfl (Or.inl rfl) (pe_make B.mkr FI hr8 (by rfl) B.g bI .nil (lets (E := E0) takes0) (pa_cons (pv 3) pa_nil)))
        (pss_cons (ps_if (pw_or (pt_cmpR (op_neD hu) (pe_prop (pv 4) B.cls B.prop FG hr2 bG .nil pass0 (by rfl)) (pv 3) (nomark _))
            (pw_or (pt_cmpR op_ne (pe_callB (call_lenI FL B.len B.lenF bL hr2) (by rfl) T.len PySem.boot_len (pa_cons (pv 4) pa_nil)) (pe_callB call_len_seq (by rfl) T.len PySem.boot_len (pa_cons (pv 3) pa_nil)) (nomark _))
            (pw_or (pt_not (pt_cmpR (op_eqI FE B.eq B.eqF bE hr1) (pv 4) (pe_make B.mkr FI hr8 (by rfl) B.g bI .nil (lets (E := E0) takes0) (pa_cons (pv 3) pa_nil)) (nomark _)))
            (pw_or1 (pt_cmpR (op_eqI FE B.eq B.eqF bE hr1) (pv 4) (pv 3) (nomark _)))))).pt (pss_one (ps_ret pe_bl)) pss_nil)
        (pss_cons (ps_if (pw_or (pt_cmpR (op_neD hu) (pe_call cM.F hr3 (by rfl) cM.g cM.kp cM.b .nil pass0 (pa_cons (pv 4) pa_nil))
              (pe_callB cr_sortedS (by rfl) T.srt (by decide +kernel) (pa_cons (pe_lc (own := [("_law_rule_here", 12)]) (g := gName 12) (tt := tYes) rfl scLaw.nd (pi_tup (pv 3)) (blkOk_by (N := nLaw) (sc := defScope sLaw) (by decide +kernel))
                (fun _ _ _ _ _ => pg_name (i := 12) scLaw.nd rfl (Or.inl rfl)) (fun _ _ _ _ _ => pts_nil) (fun _ _ _ _ _ => pe_ix (r := rIxT K) ix_tup (pv 12) pe_int (fun _ _ => rfl))) pa_nil)) (nomark _))
            (pw_or1 (pt_cmpR (op_eqI FE B.eq B.eqF bE hr1) (pv 4) (pe_make B.mkr FI hr8 (by rfl) B.g bI .nil (lets (E := E0) takes0) (pa_cons (pe_slice sl_tupA (pv 3) (po_some pe_int) po_none) pa_nil)) (nomark _)))).pt (pss_one (ps_ret pe_bl)) pss_nil)
        (pss_cons (ps_set (i := 5) scLaw.nd rfl (Or.inl rfl) (pe_callTy call_tuple_of (by rfl) T.tup (by decide +kernel) (pa_cons (pe_lc (own := [("_law_k", 6)]) (g := gName 6) (tt := tYes) rfl scLaw.nd
            (pi_range1 (by rfl) T.rng (pa_cons pe_int pa_nil)) (blkOk_by (N := nLaw) (sc := defScope sLaw) (by decide +kernel)) (fun _ _ _ _ _ => pg_name (i := 6) scLaw.nd rfl (Or.inl rfl)) (fun _ _ _ _ _ => pts_nil)
            (fun _ _ _ _ _ => (pe_tup (pa_cons (pe_op op_add_str pe_str (pe_callTy call_str_int (by rfl) T.str (by decide +kernel) (pa_cons (pv 6) pa_nil))) (pa_cons pe_str (pa_cons (pe_tup pa_nil) pa_nil)))))) pa_nil)))
        (pss_cons (ps_if (pt_cmpR (op_neD hu) (pe_call cR.F hr (by rfl) cR.g cR.kp cR.b .nil pass0 (pa_cons (pe_ix ix_list (pe_lst (pa_cons pe_non (pa_cons (pe_callTy call_list_of (by rfl) T.lst (by decide +kernel) (pa_cons (pv 3) pa_nil)) (pa_cons pe_int (pa_cons (pv 5) (pa_cons pe_str (pa_cons pe_dnewK (pa_cons pe_bl pa_nil)))))))) (pe_call cT.F hr1 (by rfl) cT.g cT.kp cT.b .nil pass0 (pa_cons (pv 1) (pa_cons pe_int pa_nil))) (fun _ _ => rfl)) pa_nil)) (pe_lst (pa_cons pe_non pa_nil)) (nomark _)) (pss_one (ps_ret pe_bl)) pss_nil)
        (pss_cons (ps_par3 (i := 7) (j := 8) (l := 9) rfl scLaw.nd rfl rfl rfl (by decide) (by decide) (by decide) rfl rfl rfl (pa_cons (pe_call cT.F hr1 (by rfl) cT.g cT.kp cT.b .nil pass0 (pa_cons (pv 1) (pa_cons (pe_op op_add (pe_callB call_len_seq (by rfl) T.len PySem.boot_len (pa_cons (pv 3) pa_nil)) pe_int) pa_nil))) (pa_cons (pe_call cP.F hr2 (by rfl) cP.g cP.kp cP.b .nil pass0 (pa_cons (pv 1) pa_nil)) (pa_cons (pe_call cP.F hr2 (by rfl) cP.g cP.kp cP.b .nil pass0 (pa_cons (pv 1) pa_nil)) pa_nil))) (by rfl))
        (pss_cons (ps_set (i := 10) scLaw.nd rfl (Or.inl rfl) (pe_lst (pa_cons pe_non (pa_cons pe_int (pa_cons (pe_tup (pa_cons pe_str pa_nil)) (pa_cons (pe_tup (pa_cons pe_str (pa_cons pe_str pa_nil))) (pa_cons (pe_lst (pa_cons pe_str (pa_cons pe_str (pa_cons pe_str pa_nil)))) (pa_cons (pe_tup (pa_cons pe_str (pa_cons pe_str (pa_cons pe_str pa_nil)))) (pa_cons (pe_tup (pa_cons pe_str (pa_cons pe_str (pa_cons pe_str (pa_cons pe_str pa_nil))))) pa_nil)))))))))
        (pss_cons (ps_expr (pe_bm PySem.F.plainAttrs_list PySem.F.slot_list_append PySem.F.type_list_append mt_append (pv 10) (pa_cons (pe_tup (pa_cons (pv 8) (pa_cons pe_str (pa_cons pe_str pa_nil)))) pa_nil)))
        (pss_cons (ps_set (i := 10) scLaw.nd rfl (Or.inl rfl) (pe_op op_cat (pv 10) (pe_lst (pa_cons (pe_tup (pa_cons pe_str (pa_cons pe_str (pa_cons (pv 8) pa_nil)))) (pa_cons (pe_tup (pa_cons pe_str (pa_cons pe_str (pa_cons (pe_lst (pa_cons pe_str pa_nil)) pa_nil)))) (pa_cons (pe_tup (pa_cons pe_str (pa_cons pe_str (pa_cons (pe_op op_repT (pe_tup (pa_cons pe_str pa_nil)) pe_int) pa_nil)))) (pa_cons (pe_tup (pa_cons pe_str (pa_cons pe_str (pa_cons (pe_tup (pa_cons pe_str (pa_cons (pv 8) pa_nil))) pa_nil)))) pa_nil)))))))
        (pss_cons (ps_set (i := 10) scLaw.nd rfl (Or.inl rfl) (pe_op op_cat (pv 10) (pe_lst (pa_cons (pe_tup (pa_cons pe_str (pa_cons pe_str (pa_cons pe_str pa_nil)))) (pa_cons (pe_tup (pa_cons pe_str (pa_cons pe_str (pa_cons pe_str pa_nil)))) (pa_cons (pe_tup (pa_cons pe_str (pa_cons pe_str (pa_cons pe_str (pa_cons pe_str pa_nil))))) (pa_cons (pe_tup (pa_cons pe_str (pa_cons pe_str (pa_cons pe_str (pa_cons (pe_op op_mulS pe_str pe_int) pa_nil))))) pa_nil)))))))
        (pss_cons (ps_set (i := 10) scLaw.nd rfl (Or.inl rfl) (pe_op op_cat (pv 10) (pe_lst (pa_cons (pe_tup (pa_cons pe_str (pa_cons pe_str (pa_cons pe_str (pa_cons pe_str pa_nil))))) (pa_cons (pe_tup (pa_cons pe_str (pa_cons pe_str (pa_cons (pv 8) (pa_cons pe_str pa_nil))))) (pa_cons (pe_tup (pa_cons pe_str (pa_cons pe_str (pa_cons pe_str (pa_cons pe_str pa_nil))))) pa_nil))))))
        (pss_cons (ps_set (i := 10) scLaw.nd rfl (Or.inl rfl) (pe_op op_cat (pv 10) (pe_lst (pa_cons (pe_tup (pa_cons pe_str (pa_cons pe_str (pa_cons pe_str (pa_cons (pv 9) (pa_cons pe_str pa_nil)))))) (pa_cons (pe_tup (pa_cons pe_str (pa_cons pe_str (pa_cons pe_str (pa_cons pe_str (pa_cons (pv 8) pa_nil)))))) (pa_cons (pe_tup (pa_cons pe_str (pa_cons pe_str (pa_cons pe_non pa_nil)))) pa_nil))))))
        (pss_cons (ps_set (i := 10) scLaw.nd rfl (Or.inl rfl) (pe_op op_cat (pv 10) (pe_lst (pa_cons (pe_tup (pa_cons pe_str (pa_cons pe_str (pa_cons pe_str pa_nil)))) (pa_cons (pe_tup (pa_cons pe_str (pa_cons pe_int (pa_cons pe_str pa_nil)))) (pa_cons (pe_tup (pa_cons pe_str (pa_cons pe_str (pa_cons pe_str (pa_cons pe_int pa_nil))))) pa_nil))))))
        (pss_cons (ps_if (pt_cmpR op_gt (pv 7) pe_int (nomark _)) (pss_cons (ps_set (i := 11) scLaw.nd rfl (Or.inl rfl) (pe_ix ix_tup (pe_ix ix_tup (pv 3) (pe_call cT.F hr1 (by rfl) cT.g cT.kp cT.b .nil pass0 (pa_cons (pv 1) (pa_cons (pv 7) pa_nil))) (fun _ _ => rfl)) pe_int (fun _ _ => rfl)))
        (pss_cons (ps_set (i := 10) scLaw.nd rfl (Or.inl rfl) (pe_op op_cat (pe_op op_cat (pv 10) (pe_op op_rep (pe_lst (pa_cons (pe_tup (pa_cons (pv 11) (pa_cons pe_str (pa_cons (pe_tup pa_nil) pa_nil)))) pa_nil)) pe_int)) (pe_op op_rep (pe_lst (pa_cons (pe_tup (pa_cons (pe_ix ix_list (pe_split (pv 11) pe_str) pe_int (fun _ _ => rfl)) (pa_cons pe_str (pa_cons (pe_tup pa_nil) pa_nil)))) pa_nil)) pe_int)))
        (pss_one (ps_if (pt_cmpR op_lt (pe_callB call_len_seq (by rfl) T.len PySem.boot_len (pa_cons (pe_split (pv 11) pe_str) pa_nil)) pe_int (nomark _)) (pss_one (ps_set (i := 10) scLaw.nd rfl (Or.inl rfl) (pe_op op_cat (pv 10) (pe_op op_rep (pe_lst (pa_cons (pe_tup (pa_cons (pe_op op_add_str (pv 11) pe_str) (pa_cons pe_str (pa_cons (pe_tup pa_nil) pa_nil)))) pa_nil)) pe_int)))) pss_nil)))) pss_nil)
        (pss_one (ps_if (pt_cmpR (op_neD hu) (pe_call cR.F hr (by rfl) cR.g cR.kp cR.b .nil pass0 (pa_cons (pe_op op_catA (pe_op op_catA (pe_slice sl_tupA (pv 3) po_none (po_some (pv 7))) (pe_tup (pa_cons (pe_call cO.F hr2 (by rfl) cO.g cO.kp cO.b .nil pass0 (pa_cons (pv 1) (pa_cons (pv 10) pa_nil))) pa_nil))) (pe_slice sl_tupA (pv 3) (po_some (pv 7)) po_none)) pa_nil)) (pe_lst (pa_cons (pv 7) pa_nil)) (nomark _)) (pss_one (ps_ret pe_bl)) pss_nil))))))))))))))))))
        (pss_one (ps_ret pe_bl)))), ?_⟩
    refine q_asgL (xs := rowL a 0 1002 0) (el_lst (ea_cons (ev_var rfl) (ea_cons ev_c (ea_cons ev_c (ea_cons ev_c ea_nil)))) (by show 4 ≤ 100000; decide)) fun r H1 hr0 e1 h1 => ?_
    have row1 : Row K H1 r := ⟨a, 0, 1002, 0, ns, h1, sc.ex e1, Int.le_refl _⟩
    refine ⟨5, rfl, by decide, by decide, for_range (lo := 0) (n := (5 : Int).toNat) (fun i τ G => ∃ (u2 u3 u4 u5 u7 u8 u9 u10 u11 : Option V), τ = [some (.ref a), some (.ref r), u2, u3, u4, u5, none, u7, u8, u9, u10, u11, none] ∧ Row K G r) ⟨none, none, none, none, none, none, none, none, none, rfl, row1⟩ ?_ (fun τ G _ => k G)⟩
    rintro i τ G0 hi ⟨u2, u3, u4, u5, u7, u8, u9, u10, u11, rfl, row⟩
    -- rules, a book
    refine ⟨_, rfl, r, rfl, row, fun t xs gs G1 d1 hfree ht rs hpos => ?_⟩
    have hlen := pr_len rs.1
    have h5 := rs.2.2
    refine q_raw (make_ev (ev_var rfl) ht rs fun bk G2 e2 hb => ?_)
    have ht2 := e2 _ _ ht
    have rs2 := rs.mono e2
    have row2 := d1.row.ex e2
    clear e2 ht rs d1 hfree
    show tSeq _ _ _ ([some (.ref a), some (.ref r), some (.int (0 + (i : Nat))), some (.ref t), some (.ref bk), u5, none, u7, u8, u9, u10, u11, none] : L2.St) G2
    have dpt : ∀ {G : Hp}, Ex G2 G → Dp K G (.ref t) (dRs gs) := fun e => .tup (SqT.of (e _ _ ht2)) (dp_rs (rs2.mono e).1)
    have shd := sh_rs rs2.1
    have eqd := eq_self shd
    refine q_when (b := false) (et_is (et_or (a := false) (b := false) ?_ fun _ => et_is (et_or (a := false) (b := false) ?_ fun _ => et_is (et_or (a := false) (b := false) ?_ fun _ => ?_) rfl) rfl) rfl) (fun z => by cases z) (fun _ G3 e3 => ?_)
    · refine et_test (ev_op (ev_prop (ev_var rfl) hb) (ev_var rfl) fun G e Q q => ⟨_, _, dpt e, dpt e, shd, shd, ?_⟩)
      rw [eqd]
      exact q G (Ex.refl _)
    · refine et_is (et_test (ev_op (x := .int (xs.length : Int)) (y := .int (xs.length : Int)) (fun G e Q q => ?_) (ev_lenT (ev_var rfl) (st_of ht2)) (rv_ne rfl))) (by simp)
      obtain ⟨dx, hdx⟩ := id (hb.mono e)
      exact ⟨_, rfl, bk, dx, _, rfl, hdx, bk, t, xs, rfl, hb.mono e, st_of (e _ _ ht2), fun G' e' => ⟨_, rfl, by omega, by omega, q G' e'⟩⟩
    · refine et_is (et_not (a := true) fun G e Q q => ?_) rfl
      refine ⟨_, rfl, make_ev (ev_var rfl) (e _ _ ht2) (rs2.mono e) fun x G' eG hbx => ?_⟩
      obtain ⟨dx, hdx⟩ := id (hb.mono (e.trans eG))
      obtain ⟨dy, hdy⟩ := id hbx
      refine ⟨bk, dx, _, x, rfl, hdx, rfl, .ins hdy, bk, x, .ref t, rfl, hb.mono (e.trans eG), .inr ⟨.ref t, dRs gs, dRs gs, hbx, fun G'' e'' => ⟨dpt ((e.trans eG).trans e''), dpt ((e.trans eG).trans e'')⟩, shd, shd, fun G'' e'' => ⟨_, rfl, _, rfl, ?_⟩⟩⟩
      rw [eqd]
      exact q G'' (eG.trans e'')
    · refine fun G e Q q => ⟨_, rfl, _, rfl, ?_⟩
      obtain ⟨dx, hdx⟩ := id (hb.mono e)
      exact ⟨bk, dx, _, t, rfl, hdx, rfl, .tup (e _ _ ht2) B.nf, bk, t, .ref t, rfl, hb.mono e, .inl ⟨xs, e _ _ ht2, fun G' e' => ⟨_, rfl, _, rfl, q G' e'⟩⟩⟩
    have hb3 := hb.mono e3
    have ht3 := e3 _ _ ht2
    have rs3 := rs2.mono e3
    have row3 := row2.ex e3
    have dp3 : ∀ {G : Hp}, Ex G3 G → Dp K G (.ref t) (dRs gs) := fun e => dpt (e3.trans e)
    clear ht2 rs2 row2 hb
    refine q_when (b := false) (et_is (et_or (a := false) (b := false) ?_ fun _ => ?_) rfl) (fun z => by cases z) (fun _ G4 e4 => ?_)
    · refine fun G e Q q => ⟨_, rfl, bk, t, xs, gs.map (·.1), rfl, hb3.mono e, st_of (e _ _ ht3), (heads_rs rs3.1).mono e, by rw [List.length_map]; omega, fun ys pm so p G5 hp e5 h5' => ?_⟩
      refine srt_heads (j := 12) (by show 12 < 13; decide) (ev_var rfl) (st_of ((e.trans e5) _ _ ht3)) ((heads_rs rs3.1).mono (e.trans e5)) (by rw [List.length_map]; omega) fun zs pm2 so2 p2 G6 hp2 e6 h6 => ?_
      have m5 : ∀ z ∈ ys, z ∈ five := fun z hz => rs_five rs3.1 z (pm.mem_iff.mp hz)
      have m6 : ∀ z ∈ zs, z ∈ five := fun z hz => rs_five rs3.1 z (pm2.mem_iff.mp hz)
      have ez : zs = ys := uniq zs ys (srt_pw m6 so2) (srt_pw m5 so) (pm2.trans pm.symm) m6
      subst ez
      have sh := sh_strs (zs := zs) fun z hz => (ten_ok z (five_ten z (m5 z hz))).1
      refine ⟨_, _, .lst (SqL.of (e6 _ _ h5')) (dp_strs _ _), .lst (SqL.of h6) (dp_strs _ _), sh, sh, _, rfl, ?_⟩
      rw [eq_self sh]
      exact q G6 (e5.trans e6)
    · refine fun G e Q q => ⟨_, rfl, ?_⟩
      refine make_sl (fun Q' q' => slice_fromU (i := 1) (ev_var rfl) ev_c (e _ _ ht3) (by omega) G (Ex.refl _) Q' q') ((rs3.mono e).drop 1) fun p x G6 e6 hp hbx => ?_
      obtain ⟨dx, hdx⟩ := id (hb3.mono (e.trans e6))
      obtain ⟨dy, hdy⟩ := id hbx
      have rsd := (rs3.mono (e.trans e6)).drop 1
      refine ⟨bk, dx, _, x, rfl, hdx, rfl, .ins hdy, bk, x, .ref t, rfl, hb3.mono (e.trans e6), .inr ⟨.ref p, dRs gs, dRs (gs.drop 1), hbx, fun G'' e'' => ⟨dp3 ((e.trans e6).trans e''), .tup (SqT.of (e'' _ _ hp)) (dp_rs (rsd.mono e'').1)⟩, shd, sh_rs rsd.1, fun G'' e'' => ⟨_, rfl, _, rfl, ?_⟩⟩⟩
      rw [eqv_less hpos]
      exact q G'' (e6.trans e'')
    have ht4 := e4 _ _ ht3
    have rs4 := rs3.mono e4
    have row4 := row3.ex e4
    clear ht3 rs3 row3 hb3 dp3 dpt
    -- nine rules
    refine q_raw ?_
    refine ⟨9, rfl, by decide, by decide, fun D hD => ?_⟩
    refine lc_range (lo := 0) (n := 9) (fun n G => Ex G4 G ∧ ∃ bs : List V, bs.length = n ∧ G D = some (.lst bs)) ⟨Ex.new hD, [], rfl, upd_same⟩ ?_ ?_
    · rintro n G hn ⟨eG, bs, hbl, hGD⟩
      refine ⟨rfl, ?_⟩
      unfold tYes
      dsimp only
      rw [if_pos rfl]
      have n9 : n = 0 ∨ n = 1 ∨ n = 2 ∨ n = 3 ∨ n = 4 ∨ n = 5 ∨ n = 6 ∨ n = 7 ∨ n = 8 := by omega
      refine ⟨_, rfl, _, rfl, ?_, _, _, rfl, rfl, ?_, ?_⟩
      · rcases n9 with rfl | rfl | rfl | rfl | rfl | rfl | rfl | rfl | rfl <;> decide +kernel
      · rcases n9 with rfl | rfl | rfl | rfl | rfl | rfl | rfl | rfl | rfl <;> exact sz_of (by decide +kernel)
      · refine ⟨by show 0 ≤ sizeLine; decide, fun e0 he0 => ⟨by show 3 ≤ sizeLine; decide, fun T hT => ?_⟩⟩
        have e' := (Ex.new (o := .tup []) he0).trans (Ex.new (o := .tup [V.str (Str.ofString "z" ++ toString ((0 : Int) + (n : Nat))), V.str (Str.ofString "join"), V.ref e0]) hT)
        exact ⟨bs, e' _ _ hGD, sz_lt (by omega), (eG.trans e').mut hD, bs ++ [.ref T], by simp [hbl], upd_same⟩
    rintro G5 ⟨e5, bs9, hbl, hGD⟩
    refine ⟨D, bs9, rfl, .inl ⟨sq_of hGD, fun m9 hm9 => ?_⟩⟩
    have e6 := e5.trans (Ex.new (o := .tup bs9) hm9)
    have hm : (upd G5 m9 (.tup bs9)) m9 = some (.tup bs9) := upd_same
    have ht6 := e6 _ _ ht4
    have rs6 := rs4.mono e6
    have row6 := row4.ex e6
    show tSeq _ _ _ ([some (.ref a), some (.ref r), some (.int (0 + (i : Nat))), some (.ref t), some (.ref bk), some (.ref m9), none, u7, u8, u9, u10, u11, none] : L2.St) (upd G5 m9 (.tup bs9))
    generalize upd G5 m9 (.tup bs9) = G6 at hm ht6 rs6 row6 ⊢
    clear ht4 rs4 row4 e6 e5 hGD
    -- what is no tuple of rules, or too long
    refine seq_raw (if_raw (test_raw (op_raw (call_raw (cons_raw (op_raw ?_))))))
    refine ⟨_, rfl, t, xs, rfl, .inr (st_of ht6), fun ll hll => ⟨_, rfl, fun dd hdd => ⟨by show 7 ≤ sizeLine; decide, fun o ho => ?_⟩⟩⟩
    have eo := (Ex.new (o := .lst xs) hll).trans ((Ex.new (o := .dK []) hdd).trans (Ex.new (o := .lst [.non, .ref ll, .int 0, .ref m9, .str (Str.ofString "rules"), .ref dd, .bl true]) ho))
    have hll2 := ((Ex.new (o := .dK []) hdd).trans (Ex.new (o := .lst [.non, .ref ll, .int 0, .ref m9, .str (Str.ofString "rules"), .ref dd, .bl true]) ho)) _ _ (upd_same (a := ll) (o := .lst xs) (H := G6))
    have hdd2 := (Ex.new (o := .lst [.non, .ref ll, .int 0, .ref m9, .str (Str.ofString "rules"), .ref dd, .bl true]) ho) _ _ (upd_same (a := dd) (o := .dK []))
    have nor : o ≠ r := (row6.ex ((Ex.new (o := .lst xs) hll).trans (Ex.new (o := .dK []) hdd))).ne_new ho
    have rowo := row6.ex eo
    have hv : ∀ v ∈ [V.non, .ref ll, .int 0, .ref m9, .str (Str.ofString "rules"), .ref dd, .bl true], Rl K (upd (upd (upd G6 ll (.lst xs)) dd (.dK [])) o (.lst [.non, .ref ll, .int 0, .ref m9, .str (Str.ofString "rules"), .ref dd, .bl true])) v (some .non) := by
      intro v hv
      simp only [List.mem_cons, List.not_mem_nil, or_false] at hv
      rcases hv with rfl | rfl | rfl | rfl | rfl | rfl | rfl
      · exact .no kd_non (by decide)
      · exact .no (kd_lst hll2) (by decide)
      · exact .no (kd_int _) (by decide)
      · exact .big (eo _ _ hm) (by omega)
      · exact .no (kd_str _) (by decide)
      · exact .no (kd_dK hdd2) (by decide)
      · exact .no (kd_bl _) (by decide)
    refine draw (m := 7) (ev_var rfl) ev_c rowo (by decide) (by decide) fun n G7 hn hn7 d7 => ?_
    have hin : n.toNat < [V.non, .ref ll, .int 0, .ref m9, .str (Str.ofString "rules"), .ref dd, .bl true].length := by
      show n.toNat < 7
      omega
    refine ⟨o, _, n, _, rfl, rfl, sq_of (d7.kp _ _ nor upd_same), at_of (j := n.toNat) (by omega) (List.getElem?_eq_getElem hin), ?_⟩
    refine ⟨_, .non, rfl, Rl.dr (hv _ (List.getElem_mem hin)) rowo d7, fun l1 G8 e8 hl1 => ⟨by show 1 ≤ sizeLine; decide, fun l2 hl2 => ?_⟩⟩
    have e9 := Ex.new (o := .lst [V.non]) hl2
    have shn := sh_1 (d := .none) rfl (by simp [PyData.depth])
    refine ⟨.list [.none], .list [.none], .lst (SqL.of (e9 _ _ hl1)) (.cons .non .nil), .lst (SqL.of upd_same) (.cons .non .nil), shn, shn, _, rfl, ?_⟩
    rw [eq_self shn]
    refine iteF ?_
    have dall : Dr K r G6 (upd G8 l2 (.lst [V.non])) := (Dr.pre eo d7).ex (e8.trans e9)
    have ntr : t ≠ r := by
      obtain ⟨rl6, hr6⟩ := row6.at
      exact ne_of ht6 hr6 (by intro z; cases z)
    have ht9 := dall.kp _ _ ntr ht6
    have rs9 := rs6.dr row6 dall
    have row9 := dall.row
    show tSeq _ _ _ ([some (.ref a), some (.ref r), some (.int (0 + (i : Nat))), some (.ref t), some (.ref bk), some (.ref m9), none, u7, u8, u9, u10, u11, none] : L2.St) (upd G8 l2 (.lst [V.non]))
    generalize upd G8 l2 (.lst [V.non]) = Gs at ht9 rs9 row9 ⊢
    clear hv hll2 hdd2 eo rowo ht6 rs6 row6 dall
    -- where, and two odd paths
    refine seq_raw (par3_raw (cons_raw (draw (m := (xs.length : Int) + 1) (ev_var rfl) (ev_op (ev_lenT (ev_var rfl) (st_of ht9)) ev_c rv_I0) row9 (by omega) (by omega) fun at_ Ga h0 hm da => ?_)))
    refine ⟨_, rfl, r, rfl, da.row, fun odd Gb db so bo => ⟨_, rfl, r, rfl, db.row, fun on G8 dc sn bn => ⟨_, _, _, rfl, ?_⟩⟩⟩
    obtain ⟨j, rfl⟩ := Int.eq_ofNat_of_zero_le h0
    have so := Sm.dr so db.row dc
    have dabc := (da.trans db).trans dc
    have ht := dabc.kp _ _ ntr ht9
    have rs := rs9.dr row9 dabc
    have row := dabc.row
    have hj : j ≤ gs.length := by omega
    show tSeq _ _ _ ([some (.ref a), some (.ref r), some (.int (0 + (i : Nat))), some (.ref t), some (.ref bk), some (.ref m9), none, some (.int (j : Int)), some odd, some on, u10, u11, none] : L2.St) G8
    clear ht9 rs9 row9 dabc da db dc
    -- the bad rules
    refine q_raw (eb_lst (K := K) (ps := (gs.map (·.1)).take j) (eb_cons eb_non
        (eb_cons (eb_int (i := 0))
        (eb_cons (eb_t (ea_cons (ev_c (v := .str (Str.ofString "z"))) ea_nil) (sm_cons (.str _ (by decide)) sm_nil) (by show 1 ≤ 100; decide) trivial)
        (eb_cons (eb_t (ea_cons (ev_c (v := .str (Str.ofString "z"))) (ea_cons (ev_c (v := .str (Str.ofString "size"))) ea_nil)) (sm_cons (.str _ (by decide)) (sm_cons (.str _ (by decide)) sm_nil)) (by show 2 ≤ 100; decide) (bl_len k9.1 f_size (by show 0 ≠ 1; decide)))
        (eb_cons (eb_l (ea_cs [.str (Str.ofString "z"), .str (Str.ofString "size"), .str (Str.ofString "a")]) (by show 3 ≤ 1000; decide))
        (eb_cons (eb_t (ea_cons (ev_c (v := .str (Str.ofString "z"))) (ea_cons (ev_c (v := .str (Str.ofString "Size"))) (ea_cons (ev_c (v := .str (Str.ofString "a"))) ea_nil))) (sm_cons (.str _ (by decide)) (sm_cons (.str _ (by decide)) (sm_cons (.str _ (by decide)) sm_nil))) (by show 3 ≤ 100; decide) (bl_none k9.2.1 (by decide +kernel)))
        (eb_cons (eb_t (ea_cons (ev_c (v := .str (Str.ofString "z"))) (ea_cons (ev_c (v := .str (Str.ofString "size"))) (ea_cons (ev_c (v := .str (Str.ofString "a"))) (ea_cons (ev_c (v := .str (Str.ofString "b"))) ea_nil)))) (sm_cons (.str _ (by decide)) (sm_cons (.str _ (by decide)) (sm_cons (.str _ (by decide)) (sm_cons (.str _ (by decide)) sm_nil)))) (by show 4 ≤ 100; decide) (bl_len k9.1 f_size (by show 2 ≠ 1; decide)))
        eb_nil))))))) (by decide) G8 (Ex.refl _) _ fun l bs G9 hl9 e9 h9 all9 len9 => ?_)
    refine seq_raw (drop_raw ?_)
    refine ⟨_, rfl, .inl ⟨rfl, bs, sq_of h9⟩, ((eb_t (ea_cons (ev_var (i := 8) rfl) (ea_cons (ev_c (v := .str (Str.ofString "size"))) (ea_cons (ev_c (v := .str (Str.ofString "a"))) ea_nil))) (sm_cons so (sm_cons (.str _ (by decide)) (sm_cons (.str _ (by decide)) sm_nil))) (by show 3 ≤ 100; decide) (bl_head k9.1 bo)) : EvB K ((gs.map (·.1)).take j) _ _ G8) G9 e9 _ fun v9 G10 e10 b9 => ⟨l, bs, v9, rfl, rfl, e10 _ _ h9, sz_lt (by omega), ?_⟩⟩
    have eA : Ex G8 (upd G10 l (.lst (bs ++ [v9]))) := (e9.trans e10).mut hl9
    have allA : ∀ x ∈ bs ++ [v9], Bd K ((gs.map (·.1)).take j) (upd G10 l (.lst (bs ++ [v9]))) x := by
      intro x hx
      rcases List.mem_append.mp hx with hx | hx
      · exact Bd.kp ((all9 x hx).mono e10) (e10 _ _ h9) (by omega) upd_same ((Kp.refl l G10).up)
      · rw [List.mem_singleton.mp hx]
        exact Bd.kp b9 (e10 _ _ h9) (by omega) upd_same ((Kp.refl l G10).up)
    have hA : (upd G10 l (.lst (bs ++ [v9]))) l = some (.lst (bs ++ [v9])) := upd_same
    have lenA : (bs ++ [v9]).length = 8 := by rw [List.length_append, len9]; rfl
    show tSeq _ _ _ ([some (.ref a), some (.ref r), some (.int (0 + (i : Nat))), some (.ref t), some (.ref bk), some (.ref m9), none, some (.int (j : Int)), some odd, some on, some (.ref l), u11, none] : L2.St) (upd G10 l (.lst (bs ++ [v9])))
    generalize upd G10 l (.lst (bs ++ [v9])) = Ga at eA allA hA ⊢
    generalize bs ++ [v9] = ba at allA hA lenA
    clear all9 b9 h9 e10 e9 hl9 len9
    have row := row.ex eA
    have ht := eA _ _ ht
    have rs := rs.mono eA
    have so := so.mono eA
    have sn := sn.mono eA
    clear eA
    refine q_raw (eb_old (i := 10) rfl hA allA (m := 4) (by omega) (eb_lst (K := K) (ps := (gs.map (·.1)).take j) (eb_cons (eb_t (ea_cons (ev_c (v := .str (Str.ofString "z"))) (ea_cons (ev_c (v := .str (Str.ofString "size"))) (ea_cons (ev_var (i := 8) rfl) ea_nil))) (sm_cons (.str _ (by decide)) (sm_cons (.str _ (by decide)) (sm_cons so sm_nil))) (by show 3 ≤ 100; decide) (bl_fit 0 (Str.ofString "path") _ k9.1 f_size rfl rfl (fun _ _ _ th => (by rw [fit_path]; exact bo))))
        (eb_cons eb_jl
        (eb_cons eb_j5
        (eb_cons (eb_jo (i := 8) rfl so bo)
        eb_nil)))) (by decide)) Ga (Ex.refl _) _ fun l0 bb0 Gb0 hn0 ee0 hb0b all0b len0b => ?_)
    rw [lenA] at len0b
    show tSeq _ _ _ ([some (.ref a), some (.ref r), some (.int (0 + (i : Nat))), some (.ref t), some (.ref bk), some (.ref m9), none, some (.int (j : Int)), some odd, some on, some (.ref l0), u11, none] : L2.St) Gb0
    have nr0 : l0 ≠ r := row.ne_new hn0
    have row := row.ex ee0
    have ht := ee0 _ _ ht
    have rs := rs.mono ee0
    have so := so.mono ee0
    have sn := sn.mono ee0
    clear hA allA lenA ee0 hn0
    refine q_raw (eb_old (i := 10) rfl hb0b all0b (m := 4) (by omega) (eb_lst (K := K) (ps := (gs.map (·.1)).take j) (eb_cons (eb_t (ea_cons (ev_c (v := .str (Str.ofString "z"))) (ea_cons (ev_c (v := .str (Str.ofString "join"))) (ea_cons (ev_c (v := .str (Str.ofString "a"))) ea_nil))) (sm_cons (.str _ (by decide)) (sm_cons (.str _ (by decide)) (sm_cons (.str _ (by decide)) sm_nil))) (by show 3 ≤ 100; decide) (bl_fit 0 (Str.ofString "paths") _ jk f_join rfl rfl (fun _ _ _ th => (by cases th; exact fit_pathsN))))
        (eb_cons (eb_t (ea_cons (ev_c (v := .str (Str.ofString "z"))) (ea_cons (ev_c (v := .str (Str.ofString "pick"))) (ea_cons (ev_c (v := .str (Str.ofString "a"))) ea_nil))) (sm_cons (.str _ (by decide)) (sm_cons (.str _ (by decide)) (sm_cons (.str _ (by decide)) sm_nil))) (by show 3 ≤ 100; decide) (bl_len k9.2.2.1 f_pick (by show 1 ≠ 2; decide)))
        (eb_cons (eb_t (ea_cons (ev_c (v := .str (Str.ofString "z"))) (ea_cons (ev_c (v := .str (Str.ofString "pick"))) (ea_cons (ev_c (v := .str (Str.ofString "a"))) (ea_cons (ev_c (v := .str (Str.ofString ""))) ea_nil)))) (sm_cons (.str _ (by decide)) (sm_cons (.str _ (by decide)) (sm_cons (.str _ (by decide)) (sm_cons (.str _ (by decide)) sm_nil)))) (by show 4 ≤ 100; decide) (bl_fit 1 (Str.ofString "word") _ k9.2.2.1 f_pick rfl rfl (fun _ _ _ th => (by rw [fit_word]; decide +kernel))))
        (eb_cons (eb_t (ea_cons (ev_c (v := .str (Str.ofString "z"))) (ea_cons (ev_c (v := .str (Str.ofString "need"))) (ea_cons (ev_c (v := .str (Str.ofString "a"))) (ea_cons ev_mul9 ea_nil)))) (sm_cons (.str _ (by decide)) (sm_cons (.str _ (by decide)) (sm_cons (.str _ (by decide)) (sm_cons (.str _ mul9_bad.1) sm_nil)))) (by show 4 ≤ 100; decide) (bl_fit 1 (Str.ofString "word") _ k9.2.2.2.1 f_need rfl rfl (fun _ _ _ th => (by rw [fit_word]; exact mul9_bad.2))))
        eb_nil)))) (by decide)) Gb0 (Ex.refl _) _ fun l1 bb1 Gb1 hn1 ee1 hb1b all1b len1b => ?_)
    rw [len0b] at len1b
    show tSeq _ _ _ ([some (.ref a), some (.ref r), some (.int (0 + (i : Nat))), some (.ref t), some (.ref bk), some (.ref m9), none, some (.int (j : Int)), some odd, some on, some (.ref l1), u11, none] : L2.St) Gb1
    have nr1 : l1 ≠ r := row.ne_new hn1
    have row := row.ex ee1
    have ht := ee1 _ _ ht
    have rs := rs.mono ee1
    have so := so.mono ee1
    have sn := sn.mono ee1
    clear hb0b all0b len0b ee1 hn1
    refine q_raw (eb_old (i := 10) rfl hb1b all1b (m := 3) (by omega) (eb_lst (K := K) (ps := (gs.map (·.1)).take j) (eb_cons (eb_t (ea_cons (ev_c (v := .str (Str.ofString "z"))) (ea_cons (ev_c (v := .str (Str.ofString "need"))) (ea_cons (ev_c (v := .str (Str.ofString "a"))) (ea_cons (ev_c (v := .str (Str.ofString "x\n"))) ea_nil)))) (sm_cons (.str _ (by decide)) (sm_cons (.str _ (by decide)) (sm_cons (.str _ (by decide)) (sm_cons (.str _ (by decide)) sm_nil)))) (by show 4 ≤ 100; decide) (bl_fit 1 (Str.ofString "word") _ k9.2.2.2.1 f_need rfl rfl (fun _ _ _ th => (by rw [fit_word]; decide +kernel))))
        (eb_cons (eb_t (ea_cons (ev_c (v := .str (Str.ofString "z"))) (ea_cons (ev_c (v := .str (Str.ofString "pick"))) (ea_cons (ev_var (i := 8) rfl) (ea_cons (ev_c (v := .str (Str.ofString "x"))) ea_nil)))) (sm_cons (.str _ (by decide)) (sm_cons (.str _ (by decide)) (sm_cons so (sm_cons (.str _ (by decide)) sm_nil)))) (by show 4 ≤ 100; decide) (bl_fit 0 (Str.ofString "path") _ k9.2.2.1 f_pick rfl rfl (fun _ _ _ th => (by rw [fit_path]; exact bo))))
        (eb_cons (eb_t (ea_cons (ev_c (v := .str (Str.ofString "z"))) (ea_cons (ev_c (v := .str (Str.ofString "choose"))) (ea_cons (ev_c (v := .str (Str.ofString "a"))) (ea_cons (ev_c (v := .str (Str.ofString "b"))) ea_nil)))) (sm_cons (.str _ (by decide)) (sm_cons (.str _ (by decide)) (sm_cons (.str _ (by decide)) (sm_cons (.str _ (by decide)) sm_nil)))) (by show 4 ≤ 100; decide) (bl_len k9.2.2.2.2.1 f_choose (by show 2 ≠ 3; decide)))
        eb_nil))) (by decide)) Gb1 (Ex.refl _) _ fun l2 bb2 Gb2 hn2 ee2 hb2b all2b len2b => ?_)
    rw [len1b] at len2b
    show tSeq _ _ _ ([some (.ref a), some (.ref r), some (.int (0 + (i : Nat))), some (.ref t), some (.ref bk), some (.ref m9), none, some (.int (j : Int)), some odd, some on, some (.ref l2), u11, none] : L2.St) Gb2
    have nr2 : l2 ≠ r := row.ne_new hn2
    have row := row.ex ee2
    have ht := ee2 _ _ ht
    have rs := rs.mono ee2
    have so := so.mono ee2
    have sn := sn.mono ee2
    clear hb1b all1b len1b ee2 hn2
    refine q_raw (eb_old (i := 10) rfl hb2b all2b (m := 3) (by omega) (eb_lst (K := K) (ps := (gs.map (·.1)).take j) (eb_cons (eb_t (ea_cons (ev_c (v := .str (Str.ofString "z"))) (ea_cons (ev_c (v := .str (Str.ofString "choose"))) (ea_cons (ev_c (v := .str (Str.ofString "a"))) (ea_cons (ev_var (i := 9) rfl) (ea_cons (ev_c (v := .str (Str.ofString "b"))) ea_nil))))) (sm_cons (.str _ (by decide)) (sm_cons (.str _ (by decide)) (sm_cons (.str _ (by decide)) (sm_cons sn (sm_cons (.str _ (by decide)) sm_nil))))) (by show 5 ≤ 100; decide) (bl_fit 1 (Str.ofString "path") _ k9.2.2.2.2.1 f_choose rfl rfl (fun _ _ _ th => (by rw [fit_path]; exact bn))))
        (eb_cons (eb_t (ea_cons (ev_c (v := .str (Str.ofString "z"))) (ea_cons (ev_c (v := .str (Str.ofString "choose"))) (ea_cons (ev_c (v := .str (Str.ofString "a"))) (ea_cons (ev_c (v := .str (Str.ofString "b"))) (ea_cons (ev_var (i := 8) rfl) ea_nil))))) (sm_cons (.str _ (by decide)) (sm_cons (.str _ (by decide)) (sm_cons (.str _ (by decide)) (sm_cons (.str _ (by decide)) (sm_cons so sm_nil))))) (by show 5 ≤ 100; decide) (bl_fit 2 (Str.ofString "path") _ k9.2.2.2.2.1 f_choose rfl rfl (fun _ _ _ th => (by rw [fit_path]; exact bo))))
        (eb_cons (eb_t (ea_cons (ev_c (v := .str (Str.ofString "z"))) (ea_cons (ev_c (v := .str (Str.ofString "names"))) (ea_cons (ev_c (v := .non)) ea_nil))) (sm_cons (.str _ (by decide)) (sm_cons (.str _ (by decide)) (sm_cons .non sm_nil))) (by show 3 ≤ 100; decide) (bl_fit 0 (Str.ofString "folder") _ k9.2.2.2.2.2 f_names rfl rfl (fun _ _ _ th => (by rw [fit_fold]; rfl))))
        eb_nil))) (by decide)) Gb2 (Ex.refl _) _ fun l3 bb3 Gb3 hn3 ee3 hb3b all3b len3b => ?_)
    rw [len2b] at len3b
    show tSeq _ _ _ ([some (.ref a), some (.ref r), some (.int (0 + (i : Nat))), some (.ref t), some (.ref bk), some (.ref m9), none, some (.int (j : Int)), some odd, some on, some (.ref l3), u11, none] : L2.St) Gb3
    have nr3 : l3 ≠ r := row.ne_new hn3
    have row := row.ex ee3
    have ht := ee3 _ _ ht
    have rs := rs.mono ee3
    have so := so.mono ee3
    have sn := sn.mono ee3
    clear hb2b all2b len2b ee3 hn3
    refine q_raw (eb_old (i := 10) rfl hb3b all3b (m := 3) (by omega) (eb_lst (K := K) (ps := (gs.map (·.1)).take j) (eb_cons (eb_t (ea_cons (ev_c (v := .str (Str.ofString "z"))) (ea_cons (ev_c (v := .str (Str.ofString "names"))) (ea_cons (ev_c (v := .str (Str.ofString "A"))) ea_nil))) (sm_cons (.str _ (by decide)) (sm_cons (.str _ (by decide)) (sm_cons (.str _ (by decide)) sm_nil))) (by show 3 ≤ 100; decide) (bl_fit 0 (Str.ofString "folder") _ k9.2.2.2.2.2 f_names rfl rfl (fun _ _ _ th => (by rw [fit_fold]; decide +kernel))))
        (eb_cons (eb_t (ea_cons (ev_c (v := .str (Str.ofString "z"))) (ea_cons (ev_c (v := .int 1)) (ea_cons (ev_c (v := .str (Str.ofString "a"))) ea_nil))) (sm_cons (.str _ (by decide)) (sm_cons (.int _) (sm_cons (.str _ (by decide)) sm_nil))) (by show 3 ≤ 100; decide) bl_int)
        (eb_cons (eb_t (ea_cons (ev_c (v := .str (Str.ofString "z"))) (ea_cons (ev_c (v := .str (Str.ofString "pick"))) (ea_cons (ev_c (v := .str (Str.ofString "a"))) (ea_cons (ev_c (v := .int 1)) ea_nil)))) (sm_cons (.str _ (by decide)) (sm_cons (.str _ (by decide)) (sm_cons (.str _ (by decide)) (sm_cons (.int _) sm_nil)))) (by show 4 ≤ 100; decide) (bl_fit 1 (Str.ofString "word") _ k9.2.2.1 f_pick rfl rfl (fun _ _ _ th => (by rw [fit_word]; rfl))))
        eb_nil))) (by decide)) Gb3 (Ex.refl _) _ fun l4 bb4 Gb4 hn4 ee4 hb4b all4b len4b => ?_)
    rw [len3b] at len4b
    show tSeq _ _ _ ([some (.ref a), some (.ref r), some (.int (0 + (i : Nat))), some (.ref t), some (.ref bk), some (.ref m9), none, some (.int (j : Int)), some odd, some on, some (.ref l4), u11, none] : L2.St) Gb4
    have nr4 : l4 ≠ r := row.ne_new hn4
    have row := row.ex ee4
    have ht := ee4 _ _ ht
    have rs := rs.mono ee4
    have so := so.mono ee4
    have sn := sn.mono ee4
    clear hb3b all3b len3b ee4 hn4
    have len4 : bb4.length = 24 + 1 - 0 := by omega
    refine q_when (b := decide ((0 : Int) < (j : Int))) (et_test (ev_op (ev_var rfl) ev_c rv_I0)) (fun hb G9 e9 => ?_) (fun hb G9 e9 => ?_)
    · have j0 : 0 < j := by
        have : (0 : Int) < (j : Int) := by simpa using hb
        omega
      refine q_raw (op_raw (op_raw ⟨_, rfl, draw (m := (j : Int)) (ev_var rfl) (ev_var rfl) (row.ex e9) (by omega) (by omega) fun n Gd n0 nj dd => ?_⟩))
      have row9 := row.ex e9
      have htd := dd.kp _ _ ntr (e9 _ _ ht)
      have rsd := (rs.mono e9).dr row9 dd
      have hld : Gd l4 = some (.lst bb4) := dd.kp _ _ nr4 (e9 _ _ hb4b)
      have alld : ∀ x ∈ bb4, Bd K ((gs.map (·.1)).take j) Gd x := fun x hx => Bd.dr ((all4b x hx).mono e9) row9 dd
      have hin : n.toNat < xs.length := by omega
      obtain ⟨q, hq, b, ts, hxb, hbt⟩ := pr_get (heads_rs rsd.1) (List.getElem?_eq_getElem hin)
      have hq5 : q ∈ five := rs_five rsd.1 q (List.mem_of_getElem? hq)
      have hqj : q ∈ (gs.map (·.1)).take j := by
        have h0 : ((gs.map (·.1)).take j)[n.toNat]? = some q := by rw [List.getElem?_take_of_lt (by omega)]; exact hq
        exact List.mem_of_getElem? h0
      obtain ⟨⟨q1, q2, q3⟩, ⟨p1, p2, p3, p4⟩, pl, ⟨z1, z2, z3⟩⟩ := five_ok q hq5
      have wy : ∀ p0, way p0 q = true → ((gs.map (·.1)).take j).any (way p0) = true := fun p0 h => List.any_eq_true.mpr ⟨q, hqj, h⟩
      refine ⟨t, xs, n, .ref b, rfl, rfl, st_of htd, ?_, b, _, 0, .str q, rfl, rfl, st_of hbt, atI_nat (j := 0) rfl, ?_⟩
      · exact at_of (j := n.toNat) (by omega) (by rw [List.getElem?_eq_getElem hin, hxb])
      show tSeq _ _ _ ([some (.ref a), some (.ref r), some (.int (0 + (i : Nat))), some (.ref t), some (.ref bk), some (.ref m9), none, some (.int (j : Int)), some odd, some on, some (.ref l4), some (.str q), none] : L2.St) Gd
      have spl : ∀ {G : Hp}, EvL (tM1 (fun x xs H Q => ∃ a b, x = .str a ∧ xs = [.str b] ∧ (b.length == 0) = false ∧ a.length + 2 ≤ sizeLine ∧ rNewStrs (Txt.split a b) H Q) (tVar 11) (tC (.str (Str.ofString "/"))))
          ([some (.ref a), some (.ref r), some (.int (0 + (i : Nat))), some (.ref t), some (.ref bk), some (.ref m9), none, some (.int (j : Int)), some odd, some on, some (.ref l4), some (.str q), none] : L2.St) G ((partsOf q).map V.str) := el_split (ev_var rfl) ev_c (by decide) (by omega)
      refine q_raw (eb_cat (K := K) (ps := (gs.map (·.1)).take j) (eb_old (i := 10) rfl hld alld (m := 3) (by omega) (eb_rep (k := 3) (eb_lst (eb_cons (eb_way (ev_var (i := 11) rfl) q2 q1 (wy q q3)) eb_nil) (by decide)) (by decide)))
        (eb_rep (k := 2) (eb_lst (eb_cons (eb_way (p0 := hdP q) (ev_opL1 spl (fun _ _ => ev_c) (fun p H1 h _ => rv_ixL (sq_of h) (atI_nat (j := 0) (by rw [List.getElem?_map, p4]; rfl)))) p2 p1 (wy _ p3)) eb_nil) (by decide)) (by decide)) (by omega) Gd (Ex.refl _) _ fun l5 b5 G5 hn5 e5 h5' all5 n5 => ?_)
      show tIfS _ _ _ _ ([some (.ref a), some (.ref r), some (.int (0 + (i : Nat))), some (.ref t), some (.ref bk), some (.ref m9), none, some (.int (j : Int)), some odd, some on, some (.ref l5), some (.str q), none] : L2.St) G5
      have spl5 : ∀ {G : Hp}, EvL (tM1 (fun x xs H Q => ∃ a b, x = .str a ∧ xs = [.str b] ∧ (b.length == 0) = false ∧ a.length + 2 ≤ sizeLine ∧ rNewStrs (Txt.split a b) H Q) (tVar 11) (tC (.str (Str.ofString "/"))))
          ([some (.ref a), some (.ref r), some (.int (0 + (i : Nat))), some (.ref t), some (.ref bk), some (.ref m9), none, some (.int (j : Int)), some odd, some on, some (.ref l5), some (.str q), none] : L2.St) G ((partsOf q).map V.str) := el_split (ev_var rfl) ev_c (by decide) (by omega)
      refine s_when (b := true) (et_is (et_test (ev_op (ev_lenN spl5) ev_c rv_I0)) (by rw [List.length_map]; simp; omega)) (fun _ G6 e6 => ?_) (fun z => by cases z)
      refine s_raw (eb_old (K := K) (ps := (gs.map (·.1)).take j) (i := 10) rfl (e6 _ _ h5') (fun x hx => (all5 x hx).mono e6) (m := 3) (by omega) (eb_rep (k := 3) (eb_lst (eb_cons (eb_way (p0 := q ++ Str.ofString "/z") (ev_op (ev_var (v := .str q) rfl) (ev_c (v := .str (Str.ofString "/z"))) fun H1 e Q q' => ⟨_, _, rfl, rfl, sz_of (by have : (Str.ofString "/z").length = 2 := rfl; omega), q' H1 (Ex.refl _)⟩) z2 z1 (wy _ z3)) eb_nil) (by decide)) (by decide)) G6 (Ex.refl _) _ fun l7 b7 G7 hn7 e7 h7 all7 n7 => ?_)
      have eL := (e5.trans e6).trans e7
      refine last_ok (j := j) (gs := gs) (xs := xs) (t := t) (l := l7) (r := r) rfl rfl rfl rfl (dd.row.ex eL) (eL _ _ htd) (rsd.mono eL) hj h7 ((dd.row.ex (e5.trans e6)).ne_new hn7) all7 (by omega) (by omega) fun G' row' => ?_
      exact ⟨_, _, _, _, _, _, _, _, _, rfl, row'⟩
    · refine last_ok (j := j) (gs := gs) (xs := xs) (t := t) (l := l4) (r := r) rfl rfl rfl rfl (row.ex e9) (e9 _ _ ht) (rs.mono e9) hj (e9 _ _ hb4b) nr4 (fun x hx => (all4b x hx).mono e9) (by omega) (by omega) fun G' row' => ?_
      exact ⟨_, _, _, _, _, _, _, _, _, rfl, row'⟩
end
end Bl
namespace Bl
open PySem PySem.Spec PyProof.Rows L2 Bk Bm Evl Be Cr Bp TL
theorem exm_at {K : PySem.W.Frag} {S T : Addr} {b : Bool} (h1 : PySem.W.subIn K (.ref T) (.type "BaseException") = some true) (h2 : PySem.W.isClsIn K T = true) (h3 : PySem.W.typeIn K (.ref T) = some (.type "type")) (h4 : PySem.W.subIn K (.ref S) (.ref T) = some b) :
    PySem.W.exmOne K (.ref S) (.ref T) = some b := by
  have e1 : (PySem.W.subIn K (.ref T) (.type "BaseException") == some true) = true := by
    rw [h1]
    rfl
  have e2 : ((PySem.W.clsIn K T).isSome && PySem.W.typeIn K (.ref T) == some (.type "type")) = true := by
    have h2' : (PySem.W.clsIn K T).isSome = true := h2
    rw [h2', h3]
    rfl
  show (if (PySem.W.subIn K (.ref T) (.type "BaseException") == some true) = true then (if ((PySem.W.clsIn K T).isSome && PySem.W.typeIn K (.ref T) == some (.type "type")) = true then PySem.W.subIn K (.ref S) (.ref T) else none) else none) = some b
  rw [if_pos e1, if_pos e2]
  exact h4
theorem kt_at {K : PySem.W.Frag} {T : Addr} (h2 : PySem.W.isClsIn K T = true) (h3 : PySem.W.typeIn K (.ref T) = some (.type "type")) (h4 : PySem.W.subIn K (.type "tuple") (.ref T) = some false) : PySem.W.kitOne K (.type "tuple") (.ref T) = some false := by
  have e2 : ((PySem.W.clsIn K T).isSome && PySem.W.typeIn K (.ref T) == some (.type "type")) = true := by
    have h2' : (PySem.W.clsIn K T).isSome = true := h2
    rw [h2', h3]
    rfl
  show (if (Value.type "tuple" == Value.ref T) = true then some true else (if ((PySem.W.clsIn K T).isSome && PySem.W.typeIn K (.ref T) == some (.type "type")) = true then PySem.W.subIn K (.type "tuple") (.ref T) else none)) = some false
  rw [if_neg (by simp), if_pos e2]
  exact h4
theorem nf_at {K : PySem.W.Frag} {T : Addr} (h4 : PySem.W.subIn K (.type "tuple") (.ref T) = some false) : PySem.W.notFirst K T (.type "tuple") = true := by
  unfold PySem.W.notFirst
  rw [h4]
  simp
/-- a written tuple of texts -/
theorem sqK {K : PySem.W.Frag} {t : Addr} {od : Option Addr} {its : Array Value} {n : Nat} {sl : Array (Option Value)} {fs : List Str} (h : K.lookup t = some ⟨.type "tuple", od, .seq its n, sl⟩) (hv : Vals (fs.map V.str) its.toList) (hl : fs.length ≤ 100) : ∀ H, SqT K H t (fs.map V.str) := fun H => by
  refine .inr ⟨_, its, n, h, rfl, rfl, sz_of ?_, hv⟩
  have := hv.length
  rw [List.length_map] at this
  have e : its.size = its.toList.length := by simp
  omega
section
variable {l : PySem.W.OpenLaw} {w : World} {K : PySem.W.Frag} {h : Heap} {mg : Str → Option Value}
theorem all_mk {fa C Cx pR fI fG fL fE fX D fHS f0 f1 f2 f3 f4 f5 f6 f7 f8 f9 f10 f11 f12 f13 f14 f15 f16 f17 f18 t0 t1 t2 t3 t4 t5 t6 t7 : Addr} {odI anI odG anG odL anL odE anE odX anX odHS anHS od0 an0 od1 an1 od2 an2 od3 an3 od4 an4 od5 an5 od6 an6 od7 an7 od8 an8 od9 an9 od10 an10 od11 an11 od12 an12 od13 an13 od14 an14 od15 an15 od16 an16 od17 an17 od18 an18 td0 td1 td2 td3 td4 td5 td6 td7 : Option Addr} {slI slG slL slE slX slHS sl0 sl1 sl2 sl3 sl4 sl5 sl6 sl7 sl8 sl9 sl10 sl11 sl12 sl13 sl14 sl15 sl16 sl17 sl18 ts0 ts1 ts2 ts3 ts4 ts5 ts6 ts7 : Array (Option Value)} {ocI kVI dcI pmI cdI ctI ocG kVG dcG pmG cdG ctG ocL kVL dcL pmL cdL ctL ocE kVE dcE pmE cdE ctE ocX kVX dcX pmX cdX ctX ocHS kVHS dcHS pmHS cdHS ctHS oc0 kV0 dc0 pm0 cd0 ct0 oc1 kV1 dc1 pm1 cd1 ct1 oc2 kV2 dc2 pm2 cd2 ct2 oc3 kV3 dc3 pm3 cd3 ct3 oc4 kV4 dc4 pm4 cd4 ct4 oc5 kV5 dc5 pm5 cd5 ct5 oc6 kV6 dc6 pm6 cd6 ct6 oc7 kV7 dc7 pm7 cd7 ct7 oc8 kV8 dc8 pm8 cd8 ct8 oc9 kV9 dc9 pm9 cd9 ct9 oc10 kV10 dc10 pm10 cd10 ct10 oc11 kV11 dc11 pm11 cd11 ct11 oc12 kV12 dc12 pm12 cd12 ct12 oc13 kV13 dc13 pm13 cd13 ct13 oc14 kV14 dc14 pm14 cd14 ct14 oc15 kV15 dc15 pm15 cd15 ct15 oc16 kV16 dc16 pm16 cd16 ct16 oc17 kV17 dc17 pm17 cd17 ct17 oc18 kV18 dc18 pm18 cd18 ct18 : Value} {nmT qT : Str} {NT : Addr} {bsT bmT restR : List Value} {snT : List Str} {subT : List Value} {abT : Bool} {colT : Option Bool} {ddT : Option Addr} {m0 m1 m2 m3 m5 : Option Value} {tk1 tk2 tk3 tk4 tk5 tk6 : Tok} {esD : Array DictEntry} {nD tn0 tn1 tn2 tn3 tn4 tn5 tn6 tn7 : Nat} {ti0 ti1 ti2 ti3 ti4 ti5 ti6 ti7 : Array Value} (X : K.In h) (G : h.Ns mainGlobals mg) (hfa : mg "law" = some (.ref fa))
    (aHS : PySem.W.nsIn K mainGlobals "has_signs" = some (some (.ref fHS)))
    (lHS : K.lookup fHS = some ⟨ocHS, odHS, .func (PySem.W.fnOf "has_signs" "has_signs" (defArgs sHas) (defBody sHas) (defScope sHas) .none kVHS dcHS pmHS anHS cdHS ctHS), slHS⟩)
    (cHS : PySem.W.codeIn K cdHS "has_signs" = true)
    (kHS : PySem.W.keepIn K (.ref fHS) = true)
    (a0 : PySem.W.nsIn K mainGlobals "is_name" = some (some (.ref f0)))
    (l0 : K.lookup f0 = some ⟨oc0, od0, .func (PySem.W.fnOf "is_name" "is_name" (defArgs sIsName) (defBody sIsName) (defScope sIsName) .none kV0 dc0 pm0 an0 cd0 ct0), sl0⟩)
    (c0 : PySem.W.codeIn K cd0 "is_name" = true)
    (k0 : PySem.W.keepIn K (.ref f0) = true)
    (a1 : PySem.W.nsIn K mainGlobals "is_path" = some (some (.ref f1)))
    (l1 : K.lookup f1 = some ⟨oc1, od1, .func (PySem.W.fnOf "is_path" "is_path" (defArgs sIsPath) (defBody sIsPath) (defScope sIsPath) .none kV1 dc1 pm1 an1 cd1 ct1), sl1⟩)
    (c1 : PySem.W.codeIn K cd1 "is_path" = true)
    (k1 : PySem.W.keepIn K (.ref f1) = true)
    (a2 : PySem.W.nsIn K mainGlobals "is_folder" = some (some (.ref f2)))
    (l2 : K.lookup f2 = some ⟨oc2, od2, .func (PySem.W.fnOf "is_folder" "is_folder" (defArgs sIsFolder) (defBody sIsFolder) (defScope sIsFolder) .none kV2 dc2 pm2 an2 cd2 ct2), sl2⟩)
    (c2 : PySem.W.codeIn K cd2 "is_folder" = true)
    (k2 : PySem.W.keepIn K (.ref f2) = true)
    (a3 : PySem.W.nsIn K mainGlobals "is_text" = some (some (.ref f3)))
    (l3 : K.lookup f3 = some ⟨oc3, od3, .func (PySem.W.fnOf "is_text" "is_text" (defArgs sIsText) (defBody sIsText) (defScope sIsText) .none kV3 dc3 pm3 an3 cd3 ct3), sl3⟩)
    (c3 : PySem.W.codeIn K cd3 "is_text" = true)
    (k3 : PySem.W.keepIn K (.ref f3) = true)
    (a4 : PySem.W.nsIn K mainGlobals "lies_within" = some (some (.ref f4)))
    (l4 : K.lookup f4 = some ⟨oc4, od4, .func (PySem.W.fnOf "lies_within" "lies_within" (defArgs sLies) (defBody sLies) (defScope sLies) .none kV4 dc4 pm4 an4 cd4 ct4), sl4⟩)
    (c4 : PySem.W.codeIn K cd4 "lies_within" = true)
    (k4 : PySem.W.keepIn K (.ref f4) = true)
    (a5 : PySem.W.nsIn K mainGlobals "in_the_way" = some (some (.ref f5)))
    (l5 : K.lookup f5 = some ⟨oc5, od5, .func (PySem.W.fnOf "in_the_way" "in_the_way" (defArgs sWay) (defBody sWay) (defScope sWay) .none kV5 dc5 pm5 an5 cd5 ct5), sl5⟩)
    (c5 : PySem.W.codeIn K cd5 "in_the_way" = true)
    (k5 : PySem.W.keepIn K (.ref f5) = true)
    (a6 : PySem.W.nsIn K mainGlobals "made_paths" = some (some (.ref f6)))
    (l6 : K.lookup f6 = some ⟨oc6, od6, .func (PySem.W.fnOf "made_paths" "made_paths" (defArgs sMade) (defBody sMade) (defScope sMade) .none kV6 dc6 pm6 an6 cd6 ct6), sl6⟩)
    (c6 : PySem.W.codeIn K cd6 "made_paths" = true)
    (k6 : PySem.W.keepIn K (.ref f6) = true)
    (a7 : PySem.W.nsIn K mainGlobals "is_word" = some (some (.ref f7)))
    (l7 : K.lookup f7 = some ⟨oc7, od7, .func (PySem.W.fnOf "is_word" "is_word" (defArgs sIsWord) (defBody sIsWord) (defScope sIsWord) .none kV7 dc7 pm7 an7 cd7 ct7), sl7⟩)
    (c7 : PySem.W.codeIn K cd7 "is_word" = true)
    (k7 : PySem.W.keepIn K (.ref f7) = true)
    (a8 : PySem.W.nsIn K mainGlobals "fits" = some (some (.ref f8)))
    (l8 : K.lookup f8 = some ⟨oc8, od8, .func (PySem.W.fnOf "fits" "fits" (defArgs sFits) (defBody sFits) (defScope sFits) .none kV8 dc8 pm8 an8 cd8 ct8), sl8⟩)
    (c8 : PySem.W.codeIn K cd8 "fits" = true)
    (k8 : PySem.W.keepIn K (.ref f8) = true)
    (a9 : PySem.W.nsIn K mainGlobals "is_rule" = some (some (.ref f9)))
    (l9 : K.lookup f9 = some ⟨oc9, od9, .func (PySem.W.fnOf "is_rule" "is_rule" (defArgs sIsRule) (defBody sIsRule) (defScope sIsRule) .none kV9 dc9 pm9 an9 cd9 ct9), sl9⟩)
    (c9 : PySem.W.codeIn K cd9 "is_rule" = true)
    (k9 : PySem.W.keepIn K (.ref f9) = true)
    (a10 : PySem.W.nsIn K mainGlobals "check_rules" = some (some (.ref f10)))
    (l10 : K.lookup f10 = some ⟨oc10, od10, .func (PySem.W.fnOf "check_rules" "check_rules" (defArgs sCkRules) (defBody sCkRules) (defScope sCkRules) .none kV10 dc10 pm10 an10 cd10 ct10), sl10⟩)
    (c10 : PySem.W.codeIn K cd10 "check_rules" = true)
    (k10 : PySem.W.keepIn K (.ref f10) = true)
    (a11 : PySem.W.nsIn K mainGlobals "check_book" = some (some (.ref f11)))
    (l11 : K.lookup f11 = some ⟨oc11, od11, .func (PySem.W.fnOf "check_book" "check_book" (defArgs sCkBook) (defBody sCkBook) (defScope sCkBook) .none kV11 dc11 pm11 an11 cd11 ct11), sl11⟩)
    (c11 : PySem.W.codeIn K cd11 "check_book" = true)
    (k11 : PySem.W.keepIn K (.ref f11) = true)
    (a12 : PySem.W.nsIn K mainGlobals "_law_taken" = some (some (.ref f12)))
    (l12 : K.lookup f12 = some ⟨oc12, od12, .func (PySem.W.fnOf "_law_taken" "_law_taken" (defArgs sTaken) (defBody sTaken) (defScope sTaken) .none kV12 dc12 pm12 an12 cd12 ct12), sl12⟩)
    (c12 : PySem.W.codeIn K cd12 "_law_taken" = true)
    (k12 : PySem.W.keepIn K (.ref f12) = true)
    (a13 : PySem.W.nsIn K mainGlobals "_law_one" = some (some (.ref f13)))
    (l13 : K.lookup f13 = some ⟨oc13, od13, .func (PySem.W.fnOf "_law_one" "_law_one" (defArgs sOne) (defBody sOne) (defScope sOne) .none kV13 dc13 pm13 an13 cd13 ct13), sl13⟩)
    (c13 : PySem.W.codeIn K cd13 "_law_one" = true)
    (k13 : PySem.W.keepIn K (.ref f13) = true)
    (a14 : PySem.W.nsIn K mainGlobals "_law_rule" = some (some (.ref f14)))
    (l14 : K.lookup f14 = some ⟨oc14, od14, .func (PySem.W.fnOf "_law_rule" "_law_rule" (defArgs sRuleL) (defBody sRuleL) (defScope sRuleL) .none kV14 dc14 pm14 an14 cd14 ct14), sl14⟩)
    (c14 : PySem.W.codeIn K cd14 "_law_rule" = true)
    (k14 : PySem.W.keepIn K (.ref f14) = true)
    (a15 : PySem.W.nsIn K mainGlobals "_law_rules" = some (some (.ref f15)))
    (l15 : K.lookup f15 = some ⟨oc15, od15, .func (PySem.W.fnOf "_law_rules" "_law_rules" (defArgs sRulesL) (defBody sRulesL) (defScope sRulesL) .none kV15 dc15 pm15 an15 cd15 ct15), sl15⟩)
    (c15 : PySem.W.codeIn K cd15 "_law_rules" = true)
    (k15 : PySem.W.keepIn K (.ref f15) = true)
    (a16 : PySem.W.nsIn K mainGlobals "_law_odd_path" = some (some (.ref f16)))
    (l16 : K.lookup f16 = some ⟨oc16, od16, .func (PySem.W.fnOf "_law_odd_path" "_law_odd_path" (defArgs sOddP) (defBody sOddP) (defScope sOddP) .none kV16 dc16 pm16 an16 cd16 ct16), sl16⟩)
    (c16 : PySem.W.codeIn K cd16 "_law_odd_path" = true)
    (k16 : PySem.W.keepIn K (.ref f16) = true)
    (a17 : PySem.W.nsIn K mainGlobals "_law_refused" = some (some (.ref f17)))
    (l17 : K.lookup f17 = some ⟨oc17, od17, .func (PySem.W.fnOf "_law_refused" "_law_refused" (defArgs sRef) (defBody sRef) (defScope sRef) .none kV17 dc17 pm17 an17 cd17 ct17), sl17⟩)
    (c17 : PySem.W.codeIn K cd17 "_law_refused" = true)
    (k17 : PySem.W.keepIn K (.ref f17) = true)
    (a18 : PySem.W.nsIn K mainGlobals "law" = some (some (.ref f18)))
    (l18 : K.lookup f18 = some ⟨oc18, od18, .func (PySem.W.fnOf "law" "law" (defArgs sLaw) (defBody sLaw) (defScope sLaw) .none kV18 dc18 pm18 an18 cd18 ct18), sl18⟩)
    (c18 : PySem.W.codeIn K cd18 "law" = true)
    (k18 : PySem.W.keepIn K (.ref f18) = true)
    (aT : PySem.W.nsIn K mainGlobals "BadRules" = some (some (.ref Cx)))
    (xT : K.lookup Cx = some (excClassObj nmT qT Cx NT bsT bmT true snT subT abT colT ddT m0 m1 m2 m3 m5 "ValueError.__new__"))
    (rT : PySem.HandSPX.refsVE bmT = true)
    (saT : PySem.W.findIn K (.ref Cx) "__setattr__" = some (some (.builtin "object.__setattr__")))
    (gaT : PySem.W.findIn K (.ref Cx) "__getattribute__" = some (some (.builtin "BaseException.__getattribute__")))
    (ggT : PySem.W.findIn K (.ref Cx) "__getattr__" = some none)
    (nbT : PySem.W.findIn K (.ref Cx) "index" = some none)
    (iT : PySem.W.findIn K (.ref Cx) "__init__" = some (some (.ref fX)))
    (tI : PySem.W.typeIn K (.ref fX) = some (.type "function"))
    (hdT : PySem.W.hasDictIn K Cx = true)
    (kkT : PySem.W.keepIn K (.ref Cx) = true)
    (bbT : PySem.W.subIn K (.ref Cx) (.type "BaseException") = some true)
    (tyT : PySem.W.typeIn K (.ref Cx) = some (.type "type"))
    (icT : PySem.W.isClsIn K Cx = true)
    (stt : PySem.W.subIn K (.ref Cx) (.ref Cx) = some true)
    (aB : PySem.W.nsIn K mainGlobals "Book" = some (some (.ref C)))
    (pgB : PySem.W.plainGet K C Str.empty = true)
    (hdB : PySem.W.hasDictIn K C = true)
    (poB : PySem.W.plainOver K C = true)
    (saB : PySem.W.findIn K (.ref C) "__setattr__" = some (some (.builtin "object.__setattr__")))
    (mkB : PySem.W.makesIn K C = true)
    (inB : PySem.W.findIn K (.ref C) "__init__" = some (some (.ref fI)))
    (fnB : PySem.W.isFn K (.ref fI) = true)
    (kpB : PySem.W.keepIn K (.ref C) = true)
    (naB : PySem.W.findIn K (.ref C) "_rules" = some none)
    (prB : PySem.W.findIn K (.ref C) "rules" = some (some (.ref pR)))
    (pgetB : PySem.W.specialIn K (.ref pR) "__get__" = some (some (.builtin "property.__get__")))
    (ptkB : PySem.W.takesIn K (.ref pR) = some true)
    (precB : PySem.W.recIn K pR "property" = some (.ref fG :: restR))
    (lnB : PySem.W.findIn K (.ref C) "__len__" = some (some (.ref fL)))
    (lfB : PySem.W.isFn K (.ref fL) = true)
    (eqB : PySem.W.findIn K (.ref C) "__eq__" = some (some (.ref fE)))
    (efB : PySem.W.isFn K (.ref fE) = true)
    (haB : PySem.W.findIn K (.ref C) "__class__" = some (some (.builtin "object.__class__")))
    (hnB : PySem.W.specialIn K (.builtin "object.__class__") "__get__" = some (some (.builtin "getset_descriptor.__get__")))
    (htB : PySem.W.takesIn K (.builtin "object.__class__") = some true)
    (hmB : PySem.W.mroIn K C (.type "object") = some true)
    (tyB : PySem.W.typeIn K (.ref C) = some (.type "type"))
    (icB : PySem.W.isClsIn K C = true)
    (stB : PySem.W.subIn K (.type "tuple") (.ref C) = some false)
    (lI : K.lookup fI = some ⟨ocI, odI, .func (PySem.W.fnOf "__init__" "Book.__init__" (defArgs sInit) (defBody sInit) (defScope sInit) .none kVI dcI pmI anI cdI ctI), slI⟩)
    (cI : PySem.W.codeIn K cdI "Book.__init__" = true)
    (kI : PySem.W.keepIn K (.ref fI) = true)
    (lG : K.lookup fG = some ⟨ocG, odG, .func (PySem.W.fnOf "rules" "Book.rules" (defArgs sGet) (defBody sGet) (defScope sGet) .none kVG dcG pmG anG cdG ctG), slG⟩)
    (cG : PySem.W.codeIn K cdG "Book.rules" = true)
    (kG : PySem.W.keepIn K (.ref fG) = true)
    (lL : K.lookup fL = some ⟨ocL, odL, .func (PySem.W.fnOf "__len__" "Book.__len__" (defArgs sLen) (defBody sLen) (defScope sLen) .none kVL dcL pmL anL cdL ctL), slL⟩)
    (cL : PySem.W.codeIn K cdL "Book.__len__" = true)
    (kL : PySem.W.keepIn K (.ref fL) = true)
    (lE : K.lookup fE = some ⟨ocE, odE, .func (PySem.W.fnOf "__eq__" "Book.__eq__" (defArgs sEq) (defBody sEq) (defScope sEq) .none kVE dcE pmE anE cdE ctE), slE⟩)
    (cE : PySem.W.codeIn K cdE "Book.__eq__" = true)
    (kE : PySem.W.keepIn K (.ref fE) = true)
    (lX : K.lookup fX = some ⟨ocX, odX, .func (PySem.W.fnOf "__init__" "BadRules.__init__" (defArgs sBtI) (defBody sBtI) (defScope sBtI) .none kVX dcX pmX anX cdX ctX), slX⟩)
    (cX : PySem.W.codeIn K cdX "BadRules.__init__" = true)
    (kX : PySem.W.keepIn K (.ref fX) = true)
    (aD : PySem.W.nsIn K mainGlobals "FORMS" = some (some (.ref D)))
    (lD : K.lookup D = some ⟨.type "dict", none, .dict esD nD, #[]⟩)
    (litD : PySem.W.KeysLit w.params esD.toList)
    (lowD : (D == sysModules) = false)
    (nD0 : PySem.W.nsIn K D "Size" = some none)
    (nz0 : PySem.W.nsIn K D "join" = some (some (.ref t0)))
    (lz0 : K.lookup t0 = some ⟨.type "tuple", td0, .seq ti0 tn0, ts0⟩)
    (vz0 : Vals (([Str.ofString "paths"] : List Str).map V.str) ti0.toList)
    (nz1 : PySem.W.nsIn K D "size" = some (some (.ref t1)))
    (lz1 : K.lookup t1 = some ⟨.type "tuple", td1, .seq ti1 tn1, ts1⟩)
    (vz1 : Vals (([Str.ofString "path"] : List Str).map V.str) ti1.toList)
    (nz2 : PySem.W.nsIn K D "sort" = some (some (.ref t2)))
    (lz2 : K.lookup t2 = some ⟨.type "tuple", td2, .seq ti2 tn2, ts2⟩)
    (vz2 : Vals (([Str.ofString "path"] : List Str).map V.str) ti2.toList)
    (nz3 : PySem.W.nsIn K D "pick" = some (some (.ref t3)))
    (lz3 : K.lookup t3 = some ⟨.type "tuple", td3, .seq ti3 tn3, ts3⟩)
    (vz3 : Vals (([Str.ofString "path", Str.ofString "word"] : List Str).map V.str) ti3.toList)
    (nz4 : PySem.W.nsIn K D "names" = some (some (.ref t4)))
    (lz4 : K.lookup t4 = some ⟨.type "tuple", td4, .seq ti4 tn4, ts4⟩)
    (vz4 : Vals (([Str.ofString "folder"] : List Str).map V.str) ti4.toList)
    (nz5 : PySem.W.nsIn K D "use" = some (some (.ref t5)))
    (lz5 : K.lookup t5 = some ⟨.type "tuple", td5, .seq ti5 tn5, ts5⟩)
    (vz5 : Vals (([Str.ofString "path"] : List Str).map V.str) ti5.toList)
    (nz6 : PySem.W.nsIn K D "choose" = some (some (.ref t6)))
    (lz6 : K.lookup t6 = some ⟨.type "tuple", td6, .seq ti6 tn6, ts6⟩)
    (vz6 : Vals (([Str.ofString "path", Str.ofString "path", Str.ofString "path"] : List Str).map V.str) ti6.toList)
    (nz7 : PySem.W.nsIn K D "need" = some (some (.ref t7)))
    (lz7 : K.lookup t7 = some ⟨.type "tuple", td7, .seq ti7 tn7, ts7⟩)
    (vz7 : Vals (([Str.ofString "path", Str.ofString "word"] : List Str).map V.str) ti7.toList)
    (z0 : PySem.W.nsIn K mainGlobals "len" = some none)
    (z1 : PySem.W.nsIn K mainGlobals "all" = some none)
    (z2 : PySem.W.nsIn K mainGlobals "any" = some none)
    (z3 : PySem.W.nsIn K mainGlobals "isinstance" = some none)
    (z4 : PySem.W.nsIn K mainGlobals "str" = some none)
    (z5 : PySem.W.nsIn K mainGlobals "tuple" = some none)
    (z6 : PySem.W.nsIn K mainGlobals "list" = some none)
    (z7 : PySem.W.nsIn K mainGlobals "int" = some none)
    (z8 : PySem.W.nsIn K mainGlobals "range" = some none)
    (z9 : PySem.W.nsIn K mainGlobals "enumerate" = some none)
    (z10 : PySem.W.nsIn K mainGlobals "zip" = some none)
    (z11 : PySem.W.nsIn K mainGlobals "sorted" = some none)
    (z12 : PySem.W.nsIn K mainGlobals "max" = some none)
    (v0 : PySem.W.nsIn K mainGlobals "MOST_NAMES" = some (some (.int 3 tk1)))
    (v1 : PySem.W.nsIn K mainGlobals "LONGEST_NAME" = some (some (.int 6 tk2)))
    (v2 : PySem.W.nsIn K mainGlobals "LONGEST_TEXT" = some (some (.int 200 tk3)))
    (v3 : PySem.W.nsIn K mainGlobals "MOST_RULES" = some (some (.int 8 tk4)))
    (v4 : PySem.W.nsIn K mainGlobals "MOST_JOINED" = some (some (.int 4 tk5)))
    (v5 : PySem.W.nsIn K mainGlobals "LONGEST_WORD" = some (some (.int 8 tk6)))
    : ∃ fd : FuncData, (∀ (s : Shared) (v : Value), BindsTo s fd ⟨[v], []⟩ [("_law_script", v)]) ∧ ∀ base : Heap, K.In base → base.Ns mainGlobals mg → FnOk l.prog w K mg base CX0 10 fa fd ["_law_script"] (spLaw K) := by
  have e := hfa.symm.trans (PySem.W.mg_of X G a18)
  cases e
  have T : Gv mg := ⟨PySem.W.mg_none_of X G z0, PySem.W.mg_none_of X G z1, PySem.W.mg_none_of X G z2, PySem.W.mg_none_of X G z3, PySem.W.mg_none_of X G z4, PySem.W.mg_none_of X G z5, PySem.W.mg_none_of X G z6, PySem.W.mg_none_of X G z7, PySem.W.mg_none_of X G z8, PySem.W.mg_none_of X G z9, ⟨_, PySem.W.mg_of X G v0⟩, ⟨_, PySem.W.mg_of X G v1⟩, ⟨_, PySem.W.mg_of X G v2⟩, PySem.W.mg_none_of X G z10, PySem.W.mg_none_of X G z11, PySem.W.mg_none_of X G z12, ⟨_, PySem.W.mg_of X G v3⟩, ⟨_, PySem.W.mg_of X G v4⟩, ⟨_, PySem.W.mg_of X G v5⟩⟩
  have FHS := fun_mk (st := sHas) lHS cHS kHS
  have bHS := FHS.binds (ps := ["value", "most"]) fun _ _ _ _ _ _ us hl => match us, hl with | [_, _], _ => rfl
  have F0 := fun_mk (st := sIsName) l0 c0 k0
  have b0 := F0.binds (ps := ["word"]) fun _ _ _ _ _ _ us hl => match us, hl with | [_], _ => rfl
  have F1 := fun_mk (st := sIsPath) l1 c1 k1
  have b1 := F1.binds (ps := ["value"]) fun _ _ _ _ _ _ us hl => match us, hl with | [_], _ => rfl
  have F2 := fun_mk (st := sIsFolder) l2 c2 k2
  have b2 := F2.binds (ps := ["value"]) fun _ _ _ _ _ _ us hl => match us, hl with | [_], _ => rfl
  have F3 := fun_mk (st := sIsText) l3 c3 k3
  have b3 := F3.binds (ps := ["value"]) fun _ _ _ _ _ _ us hl => match us, hl with | [_], _ => rfl
  have F4 := fun_mk (st := sLies) l4 c4 k4
  have b4 := F4.binds (ps := ["path", "folder"]) fun _ _ _ _ _ _ us hl => match us, hl with | [_, _], _ => rfl
  have F5 := fun_mk (st := sWay) l5 c5 k5
  have b5 := F5.binds (ps := ["one", "other"]) fun _ _ _ _ _ _ us hl => match us, hl with | [_, _], _ => rfl
  have F6 := fun_mk (st := sMade) l6 c6 k6
  have b6 := F6.binds (ps := ["book"]) fun _ _ _ _ _ _ us hl => match us, hl with | [_], _ => rfl
  have F7 := fun_mk (st := sIsWord) l7 c7 k7
  have b7 := F7.binds (ps := ["value"]) fun _ _ _ _ _ _ us hl => match us, hl with | [_], _ => rfl
  have F8 := fun_mk (st := sFits) l8 c8 k8
  have b8 := F8.binds (ps := ["form", "value"]) fun _ _ _ _ _ _ us hl => match us, hl with | [_, _], _ => rfl
  have F9 := fun_mk (st := sIsRule) l9 c9 k9
  have b9 := F9.binds (ps := ["value"]) fun _ _ _ _ _ _ us hl => match us, hl with | [_], _ => rfl
  have F10 := fun_mk (st := sCkRules) l10 c10 k10
  have b10 := F10.binds (ps := ["value"]) fun _ _ _ _ _ _ us hl => match us, hl with | [_], _ => rfl
  have F11 := fun_mk (st := sCkBook) l11 c11 k11
  have b11 := F11.binds (ps := ["value"]) fun _ _ _ _ _ _ us hl => match us, hl with | [_], _ => rfl
  have F12 := fun_mk (st := sTaken) l12 c12 k12
  have b12 := F12.binds (ps := ["_law_row", "_law_many"]) fun _ _ _ _ _ _ us hl => match us, hl with | [_, _], _ => rfl
  have F13 := fun_mk (st := sOne) l13 c13 k13
  have b13 := F13.binds (ps := ["_law_row", "_law_things"]) fun _ _ _ _ _ _ us hl => match us, hl with | [_, _], _ => rfl
  have F14 := fun_mk (st := sRuleL) l14 c14 k14
  have b14 := F14.binds (ps := ["_law_row", "_law_made", "_law_all_made"]) fun _ _ _ _ _ _ us hl => match us, hl with | [_, _, _], _ => rfl
  have F15 := fun_mk (st := sRulesL) l15 c15 k15
  have b15 := F15.binds (ps := ["_law_row", "_law_most"]) fun _ _ _ _ _ _ us hl => match us, hl with | [_, _], _ => rfl
  have F16 := fun_mk (st := sOddP) l16 c16 k16
  have b16 := F16.binds (ps := ["_law_row"]) fun _ _ _ _ _ _ us hl => match us, hl with | [_], _ => rfl
  have F17 := fun_mk (st := sRef) l17 c17 k17
  have b17 := F17.binds (ps := ["_law_rules_here"]) fun _ _ _ _ _ _ us hl => match us, hl with | [_], _ => rfl
  have F18 := fun_mk (st := sLaw) l18 c18 k18
  have b18 := F18.binds (ps := ["_law_script"]) fun _ _ _ _ _ _ us hl => match us, hl with | [_], _ => rfl
  have FI := fun_mk (st := sInit) lI cI kI
  have bI := FI.binds (ps := ["self", "rules"]) fun _ _ _ _ _ _ us hl => match us, hl with | [_, _], _ => rfl
  have FG := fun_mk (st := sGet) lG cG kG
  have bG := FG.binds (ps := ["self"]) fun _ _ _ _ _ _ us hl => match us, hl with | [_], _ => rfl
  have FL := fun_mk (st := sLen) lL cL kL
  have bL := FL.binds (ps := ["self"]) fun _ _ _ _ _ _ us hl => match us, hl with | [_], _ => rfl
  have FE := fun_mk (st := sEq) lE cE kE
  have bE := FE.binds (ps := ["self", "other"]) fun _ _ _ _ _ _ us hl => match us, hl with | [_, _], _ => rfl
  have FX := fun_mk (st := sBtI) lX cX kX
  have bX := FX.binds (ps := ["self", "index"]) fun _ _ _ _ _ _ us hl => match us, hl with | [_, _], _ => rfl
  have oT : OexC K Cx := ⟨⟨_, _, _, _, _, _, _, _, _, _, _, _, _, _, _, xT, rT⟩, saT, bbT, tyT, kkT⟩
  have xi : Xi K mg "BadRules" Cx fX := ⟨PySem.W.mg_of X G aT, oT, ⟨gaT, ggT, bbT, hdT⟩, nbT, iT, tI⟩
  have xx := exm_at bbT icT tyT stt
  have B : Bks K mg C fI pR fG fL fE := ⟨PySem.W.mg_of X G aB, ⟨pgB, hdB, poB, saB⟩, ⟨mkB, inB, fnB, kpB⟩, naB, ⟨prB, pgetB, ptkB, ⟨_, precB⟩⟩, lnB, lfB, eqB, efB, nf_at stB, haB, hnB, htB, hmB, kt_at icB tyB stB⟩
  have Fm : Fms K w mg D esD nD := ⟨PySem.W.mg_of X G aD, ⟨lD, litD, lowD⟩, fun z hz => by
    have hz' : z = Str.ofString "Size" ∨ z = Str.ofString "join" ∨ z = Str.ofString "size" ∨ z = Str.ofString "sort" ∨ z = Str.ofString "pick" ∨ z = Str.ofString "names" ∨ z = Str.ofString "use" ∨ z = Str.ofString "choose" ∨ z = Str.ofString "need" := by
      revert z
      decide +kernel
    rcases hz' with rfl | rfl | rfl | rfl | rfl | rfl | rfl | rfl | rfl
    · show PySem.W.nsIn K D _ = some none
      exact nD0
    · have e : formOf (Str.ofString "join") = some [Str.ofString "paths"] := by decide +kernel
      rw [e]
      exact ⟨t0, nz0, sqK lz0 vz0 (by show 1 ≤ 100; decide)⟩
    · have e : formOf (Str.ofString "size") = some [Str.ofString "path"] := by decide +kernel
      rw [e]
      exact ⟨t1, nz1, sqK lz1 vz1 (by show 1 ≤ 100; decide)⟩
    · have e : formOf (Str.ofString "sort") = some [Str.ofString "path"] := by decide +kernel
      rw [e]
      exact ⟨t2, nz2, sqK lz2 vz2 (by show 1 ≤ 100; decide)⟩
    · have e : formOf (Str.ofString "pick") = some [Str.ofString "path", Str.ofString "word"] := by decide +kernel
      rw [e]
      exact ⟨t3, nz3, sqK lz3 vz3 (by show 2 ≤ 100; decide)⟩
    · have e : formOf (Str.ofString "names") = some [Str.ofString "folder"] := by decide +kernel
      rw [e]
      exact ⟨t4, nz4, sqK lz4 vz4 (by show 1 ≤ 100; decide)⟩
    · have e : formOf (Str.ofString "use") = some [Str.ofString "path"] := by decide +kernel
      rw [e]
      exact ⟨t5, nz5, sqK lz5 vz5 (by show 1 ≤ 100; decide)⟩
    · have e : formOf (Str.ofString "choose") = some [Str.ofString "path", Str.ofString "path", Str.ofString "path"] := by decide +kernel
      rw [e]
      exact ⟨t6, nz6, sqK lz6 vz6 (by show 3 ≤ 100; decide)⟩
    · have e : formOf (Str.ofString "need") = some [Str.ofString "path", Str.ofString "word"] := by decide +kernel
      rw [e]
      exact ⟨t7, nz7, sqK lz7 vz7 (by show 2 ≤ 100; decide)⟩
    ⟩
  refine ⟨PySem.W.fnOf "law" "law" (defArgs sLaw) (defBody sLaw) (defScope sLaw) .none kV18 dc18 pm18 an18 cd18 ct18, fun s v => .of_eq rfl, fun base _ _ => ?_⟩
  have cName : Cal l.prog w K mg base CX0 1 "is_name" ["word"] spName := ⟨f0, _, ok_name F0 T, PySem.W.mg_of X G a0, k0, b0⟩
  have cPath : Cal l.prog w K mg base CX0 2 "is_path" ["value"] (spPath (K := K)) := ⟨f1, _, ok_path F1 T cName, PySem.W.mg_of X G a1, k1, b1⟩
  have cFolder : Cal l.prog w K mg base CX0 3 "is_folder" ["value"] spFolder := ⟨f2, _, ok_folder F2 cPath, PySem.W.mg_of X G a2, k2, b2⟩
  have cHas : Cal l.prog w K mg base CX0 1 "has_signs" ["value", "most"] (spHas (K := K)) := ⟨fHS, _, ok_has FHS T, PySem.W.mg_of X G aHS, kHS, bHS⟩
  have cText : Cal l.prog w K mg base CX0 2 "is_text" ["value"] (spText (K := K)) := ⟨f3, _, ok_text F3 T cHas, PySem.W.mg_of X G a3, k3, b3⟩
  have cLies : Cal l.prog w K mg base CX0 1 "lies_within" ["path", "folder"] spLies := ⟨f4, _, ok_lies F4, PySem.W.mg_of X G a4, k4, b4⟩
  have cWay : Cal l.prog w K mg base CX0 2 "in_the_way" ["one", "other"] spWay := ⟨f5, _, ok_way F5 cLies, PySem.W.mg_of X G a5, k5, b5⟩
  have cWord : Cal l.prog w K mg base CX0 3 "is_word" ["value"] (spWord (K := K)) := ⟨f7, _, ok_word F7 T cText, PySem.W.mg_of X G a7, k7, b7⟩
  have cFits : Cal l.prog w K mg base CX0 4 "fits" ["form", "value"] (spFits (K := K)) := ⟨f8, _, ok_fits F8 T cPath cWord cFolder, PySem.W.mg_of X G a8, k8, b8⟩
  have cRule : Cal l.prog w K mg base CX0 5 "is_rule" ["value"] (spRule (K := K)) := ⟨f9, _, ok_rule F9 T Fm cPath cFits, PySem.W.mg_of X G a9, k9, b9⟩
  have cCkR : Cal l.prog w K mg base (L2.CX l.prog w) 6 "check_rules" ["value"] (spCkRules (K := K) Cx) := ⟨f10, _, ok_ckRules F10 T xi (ok_btI FX) bX cRule cWay, PySem.W.mg_of X G a10, k10, b10⟩
  have gI := ok_init FI B cCkR
  have gG : FnOk l.prog w K mg base CX0 1 fG _ _ _ := ok_get FG B
  have gL : FnOk l.prog w K mg base CX0 1 fL _ _ _ := ok_len FL T B
  have gE : FnOk l.prog w K mg base CX0 1 fE _ _ _ := ok_eqB FE T B
  have cCkB : Cal l.prog w K mg base CX0 1 "check_book" ["value"] (spCkB C) := ⟨f11, _, ok_ckBook F11 T B, PySem.W.mg_of X G a11, k11, b11⟩
  have cMade : Cal l.prog w K mg base CX0 3 "made_paths" ["book"] (spMade (K := K) C) := ⟨f6, _, ok_made F6 T B gG bG cCkB, PySem.W.mg_of X G a6, k6, b6⟩
  have dT : Cal l.prog w K mg base CX0 1 "_law_taken" ["_law_row", "_law_many"] (spTaken (K := K)) := ⟨f12, _, Bl.ok_taken F12 T, PySem.W.mg_of X G a12, k12, b12⟩
  have dO : Cal l.prog w K mg base CX0 2 "_law_one" ["_law_row", "_law_things"] (spOne (K := K)) := ⟨f13, _, ok_one F13 T dT, PySem.W.mg_of X G a13, k13, b13⟩
  have dRu : Cal l.prog w K mg base CX0 3 "_law_rule" ["_law_row", "_law_made", "_law_all_made"] (spRuleL (K := K)) := ⟨f14, _, ok_ruleL F14 T dT dO, PySem.W.mg_of X G a14, k14, b14⟩
  have dRs : Cal l.prog w K mg base CX0 4 "_law_rules" ["_law_row", "_law_most"] (spRulesL (K := K)) := ⟨f15, _, ok_rulesL F15 T dT dRu, PySem.W.mg_of X G a15, k15, b15⟩
  have dOP : Cal l.prog w K mg base CX0 2 "_law_odd_path" ["_law_row"] (spOdd (K := K) isPathV) := ⟨f16, _, ok_oddP F16 T dT, PySem.W.mg_of X G a16, k16, b16⟩
  have dR : Cal l.prog w K mg base CX0 9 "_law_refused" ["_law_rules_here"] (spRefB (K := K)) := ⟨f17, _, ok_ref F17 B xi xx gI bI, PySem.W.mg_of X G a17, k17, b17⟩
  exact ok_law F18 T B gI bI gG bG gL bL gE bE dT dO dRs dOP cMade dR
end
theorem walk {l : PySem.W.OpenLaw} {q : Program} {loose : List Str} {XP : (Str → Option Value) → Heap → Prop} {YP : World → Heap → Prop} {d : DefRec} {K : Params → PySem.W.Frag} (hn : l.most = some 63) (hdf : d.params.defaults = [])
    (hY : ∀ (w : World) (h : Heap), YP w h → (K w.params).In h)
    (F : ∀ (w : World) (mg : Str → Option Value) (fa : Addr) (h : Heap), (K w.params).In h → h.Ns mainGlobals mg → mg d.name = some (.ref fa) →
      ∃ fd : FuncData, (∀ (s : Shared) (u : Value), BindsTo s fd ⟨[u], []⟩ [("_law_script", u)]) ∧ ∀ base : Heap, (K w.params).In base → base.Ns mainGlobals mg → FnOk l.prog w (K w.params) mg base CX0 10 fa fd ["_law_script"] (spLaw (K w.params))) :
    PySem.W.WalkO q loose XP YP l.row.toRowW d [] (fun f vs => PySem.call f vs) :=
  L2.walk_of (n := 63) (k := 10) (x := "_law_script") (CX := fun _ => CX0) (sp := fun w => spLaw (K w.params)) hn (by decide) hdf ⟨rfl, by decide, by decide⟩ hY F (fun _ H a ns hl hO hS => by
    refine ⟨a, ns, rfl, ?_, fun _ => rfl⟩
    rcases hS with (h | ⟨o, h⟩) | h
    · rcases hO a with z | ⟨o, xs, z⟩
      · rw [h] at z; cases z
      · rw [h] at z; cases z
    · exact .inl ⟨o, h⟩
    · exact .inr h) fun _ _ _ _ _ z => z
end Bl
open PySem PySem.W PyProof.Rows
set_option maxRecDepth 100000 in
set_option maxHeartbeats 0 in
theorem PySem.Challenge.cw_buildroom_k02_books_refused_holds : PySem.Challenge.rw_buildroom_k02_books_refused.Holds := by
  w_on; o_law; k_head; (case hw => w_witness2)
  k_fill
  refine Bl.walk (l := PySem.Challenge.rw_buildroom_k02_books_refused) rfl rfl (fun w h Y => PySem.W.kIn_of Y) ?F
  case F =>
    intro w mg fa h KX G hmg
    refine' Bl.all_mk KX G hmg ?aHS ?lHS ?cHS ?kHS ?a0 ?l0 ?c0 ?k0 ?a1 ?l1 ?c1 ?k1 ?a2 ?l2 ?c2 ?k2 ?a3 ?l3 ?c3 ?k3 ?a4 ?l4 ?c4 ?k4 ?a5 ?l5 ?c5 ?k5 ?a6 ?l6 ?c6 ?k6 ?a7 ?l7 ?c7 ?k7 ?a8 ?l8 ?c8 ?k8 ?a9 ?l9 ?c9 ?k9 ?a10 ?l10 ?c10 ?k10 ?a11 ?l11 ?c11 ?k11 ?a12 ?l12 ?c12 ?k12 ?a13 ?l13 ?c13 ?k13 ?a14 ?l14 ?c14 ?k14 ?a15 ?l15 ?c15 ?k15 ?a16 ?l16 ?c16 ?k16 ?a17 ?l17 ?c17 ?k17 ?a18 ?l18 ?c18 ?k18 ?aT ?xT ?rT ?saT ?gaT ?ggT ?nbT ?iT ?tI ?hdT ?kkT ?bbT ?tyT ?icT ?stt ?aB ?pgB ?hdB ?poB ?saB ?mkB ?inB ?fnB ?kpB ?naB ?prB ?pgetB ?ptkB ?precB ?lnB ?lfB ?eqB ?efB ?haB ?hnB ?htB ?hmB ?tyB ?icB ?stB ?lI ?cI ?kI ?lG ?cG ?kG ?lL ?cL ?kL ?lE ?cE ?kE ?lX ?cX ?kX ?aD ?lD ?litD ?lowD ?nD0 ?nz0 ?lz0 ?vz0 ?nz1 ?lz1 ?vz1 ?nz2 ?lz2 ?vz2 ?nz3 ?lz3 ?vz3 ?nz4 ?lz4 ?vz4 ?nz5 ?lz5 ?vz5 ?nz6 ?lz6 ?vz6 ?nz7 ?lz7 ?vz7 ?z0 ?z1 ?z2 ?z3 ?z4 ?z5 ?z6 ?z7 ?z8 ?z9 ?z10 ?z11 ?z12 ?v0 ?v1 ?v2 ?v3 ?v4 ?v5
    (case aHS => k_is)
    (case lHS => k_is)
    (case cHS => k_is)
    (case kHS => k_is)
    (case a0 => k_is)
    (case l0 => k_is)
    (case c0 => k_is)
    (case k0 => k_is)
    (case a1 => k_is)
    (case l1 => k_is)
    (case c1 => k_is)
    (case k1 => k_is)
    (case a2 => k_is)
    (case l2 => k_is)
    (case c2 => k_is)
    (case k2 => k_is)
    (case a3 => k_is)
    (case l3 => k_is)
    (case c3 => k_is)
    (case k3 => k_is)
    (case a4 => k_is)
    (case l4 => k_is)
    (case c4 => k_is)
    (case k4 => k_is)
    (case a5 => k_is)
    (case l5 => k_is)
    (case c5 => k_is)
    (case k5 => k_is)
    (case a6 => k_is)
    (case l6 => k_is)
    (case c6 => k_is)
    (case k6 => k_is)
    (case a7 => k_is)
    (case l7 => k_is)
    (case c7 => k_is)
    (case k7 => k_is)
    (case a8 => k_is)
    (case l8 => k_is)
    (case c8 => k_is)
    (case k8 => k_is)
    (case a9 => k_is)
    (case l9 => k_is)
    (case c9 => k_is)
    (case k9 => k_is)
    (case a10 => k_is)
    (case l10 => k_is)
    (case c10 => k_is)
    (case k10 => k_is)
    (case a11 => k_is)
    (case l11 => k_is)
    (case c11 => k_is)
    (case k11 => k_is)
    (case a12 => k_is)
    (case l12 => k_is)
    (case c12 => k_is)
    (case k12 => k_is)
    (case a13 => k_is)
    (case l13 => k_is)
    (case c13 => k_is)
    (case k13 => k_is)
    (case a14 => k_is)
    (case l14 => k_is)
    (case c14 => k_is)
    (case k14 => k_is)
    (case a15 => k_is)
    (case l15 => k_is)
    (case c15 => k_is)
    (case k15 => k_is)
    (case a16 => k_is)
    (case l16 => k_is)
    (case c16 => k_is)
    (case k16 => k_is)
    (case a17 => k_is)
    (case l17 => k_is)
    (case c17 => k_is)
    (case k17 => k_is)
    (case a18 => k_is)
    (case l18 => k_is)
    (case c18 => k_is)
    (case k18 => k_is)
    (case aT => k_is)
    (case xT => k_is)
    (case rT => rfl)
    (case saT => k_is)
    (case gaT => k_is)
    (case ggT => k_is)
    (case nbT => k_is)
    (case iT => k_is)
    (case tI => k_is)
    (case hdT => k_is)
    (case kkT => k_is)
    (case bbT => k_is)
    (case tyT => k_is)
    (case icT => k_is)
    (case stt => first | rfl | k_is)
    (case aB => k_is)
    (case pgB => k_is)
    (case hdB => k_is)
    (case poB => k_is)
    (case saB => k_is)
    (case mkB => k_is)
    (case inB => k_is)
    (case fnB => k_is)
    (case kpB => k_is)
    (case naB => k_is)
    (case prB => k_is)
    (case pgetB => k_is)
    (case ptkB => k_is)
    (case precB => k_is)
    (case lnB => k_is)
    (case lfB => k_is)
    (case eqB => k_is)
    (case efB => k_is)
    (case haB => k_is)
    (case hnB => k_is)
    (case htB => k_is)
    (case hmB => k_is)
    (case tyB => k_is)
    (case icB => k_is)
    (case stB => first | rfl | k_is)
    (case lI => k_is)
    (case cI => k_is)
    (case kI => k_is)
    (case lG => k_is)
    (case cG => k_is)
    (case kG => k_is)
    (case lL => k_is)
    (case cL => k_is)
    (case kL => k_is)
    (case lE => k_is)
    (case cE => k_is)
    (case kE => k_is)
    (case lX => k_is)
    (case cX => k_is)
    (case kX => k_is)
    (case aD => k_is)
    (case lD => k_is)
    (case litD => exact ⟨⟨_, _, rfl, rfl⟩, ⟨_, _, rfl, rfl⟩, ⟨_, _, rfl, rfl⟩, ⟨_, _, rfl, rfl⟩, ⟨_, _, rfl, rfl⟩, ⟨_, _, rfl, rfl⟩, ⟨_, _, rfl, rfl⟩, ⟨_, _, rfl, rfl⟩, trivial⟩)
    (case lowD => rfl)
    (case nD0 => k_is)
    (case nz0 => k_is)
    (case lz0 => k_is)
    (case vz0 => exact (.cons ⟨_, rfl⟩ .nil))
    (case nz1 => k_is)
    (case lz1 => k_is)
    (case vz1 => exact (.cons ⟨_, rfl⟩ .nil))
    (case nz2 => k_is)
    (case lz2 => k_is)
    (case vz2 => exact (.cons ⟨_, rfl⟩ .nil))
    (case nz3 => k_is)
    (case lz3 => k_is)
    (case vz3 => exact (.cons ⟨_, rfl⟩ (.cons ⟨_, rfl⟩ .nil)))
    (case nz4 => k_is)
    (case lz4 => k_is)
    (case vz4 => exact (.cons ⟨_, rfl⟩ .nil))
    (case nz5 => k_is)
    (case lz5 => k_is)
    (case vz5 => exact (.cons ⟨_, rfl⟩ .nil))
    (case nz6 => k_is)
    (case lz6 => k_is)
    (case vz6 => exact (.cons ⟨_, rfl⟩ (.cons ⟨_, rfl⟩ (.cons ⟨_, rfl⟩ .nil))))
    (case nz7 => k_is)
    (case lz7 => k_is)
    (case vz7 => exact (.cons ⟨_, rfl⟩ (.cons ⟨_, rfl⟩ .nil)))
    (case z0 => k_is)
    (case z1 => k_is)
    (case z2 => k_is)
    (case z3 => k_is)
    (case z4 => k_is)
    (case z5 => k_is)
    (case z6 => k_is)
    (case z7 => k_is)
    (case z8 => k_is)
    (case z9 => k_is)
    (case z10 => k_is)
    (case z11 => k_is)
    (case z12 => k_is)
    (case v0 => k_is)
    (case v1 => k_is)
    (case v2 => k_is)
    (case v3 => k_is)
    (case v4 => k_is)
    (case v5 => k_is)
