import PyProof.Rows.All
import Wide.All
import OpenK.AllK
import Wide.FinOn
import PyProof.EqAt
import PyProof.EqKinds
import PyProof.TupleCall
import HandS.Base
import HandS.Call
import HandS.Exc
import HandS.TryMany
import HandS.ExcOwn
import PyProof.Draws
import KE.GoesMore
import KE.GoesEnum
import HandS.List
import HandS.Dict
import HandS.Iter
import PyProof.NeKinds
import HandS.Text
import HandS.ForMost
import HandS.TryOnly
import HandS.WordsExc
import HandS.IsInst
import HandS.Walk
import HandS.TupAny
import HandS.ExcInit
import HandS.ExcField
import HandS.Evl
import HandS.Property
import HandS.OwnEq
import HandS.TupMul
import HandS.RepeatKit
import HandS.More
import HandS.Zip
import PyProof.InstSpecial
import PySem.Challenge.RW_buildroom_k14_records_refused
import PyProof.StrBlock2
import KE.DataEq
import HandS.DictComp
set_option Elab.async false
set_option linter.all false
set_option maxRecDepth 100000
set_option maxHeartbeats 8000000
namespace Bk
open PySem PySem.Spec PyProof.Rows L2

/-! ## try with several clauses, some of them «as n» -/
abbrev Cl := Value × Option Nat × (Addr → Value → Option Addr → TS)
def clEnds (n : Option Nat) (D : Ends) : Ends := match n with
  | none => D
  | some i => { nx := fun τ G => D.nx (τ.set i none) G, rt := D.rt, bk := fun τ G => D.bk (τ.set i none) G, ct := fun τ G => D.ct (τ.set i none) G }
def clSlots (n : Option Nat) (τ : L2.St) (a : Addr) : L2.St := match n with
  | none => τ
  | some i => τ.set i (some (.ref a))
def wMix (K : PySem.W.Frag) (Wo : WX) (D : Ends) : List Cl → WX
  | [] => Wo
  | (c, n, ts) :: r => fun cls d τ G => ∃ b, PySem.W.exmOne K cls c = some b ∧
      (b = true → ∀ a, G a = none → ts a cls d (clEnds n D) (clSlots n τ a) G) ∧ (b = false → wMix K Wo D r cls d τ G)
inductive HMix (X : Cx) : List ExceptHandler → List Cl → Prop
  | nil : HMix X [] []
  | bare {x : Str} {c : Value} {ts : Addr → Value → Option Addr → TS} {b0 : Stmt} {bs : List Stmt} {q1 q2 : Pos} {hs : List ExceptHandler} {l : List Cl} (hc : Names X x c)
      (su : ∀ (a : Addr) (oe : Obj) (cls : Value) (d : Option Addr) (pn : List (Addr × Obj)), Zc cls d oe → (∃ vs, oe.data = .fields vs) → PSs (X.suite a ((a, oe) :: pn)) (b0 :: bs) (ts a cls d)) (r : HMix X hs l) :
      HMix X (.ExceptHandler (some (.Name x q1)) none (b0 :: bs) q2 :: hs) ((c, none, ts) :: l)
  | named {x n : Str} {i : Nat} {c : Value} {ts : Addr → Value → Option Addr → TS} {b0 : Stmt} {bs : List Stmt} {q1 q2 : Pos} {hs : List ExceptHandler} {l : List Cl} (hc : Names X x c)
      (hi : X.N[i]? = some n) (hl : X.env.kindOf n = some .local)
      (su : ∀ (a : Addr) (oe : Obj) (cls : Value) (d : Option Addr) (pn : List (Addr × Obj)), Zc cls d oe → (∃ vs, oe.data = .fields vs) → PSs (X.suite a ((a, oe) :: pn)) (b0 :: bs) (ts a cls d)) (r : HMix X hs l) :
      HMix X (.ExceptHandler (some (.Name x q1)) (some n) (b0 :: bs) q2 :: hs) ((c, some i, ts) :: l)
section
variable {X : Cx} {body : List Stmt} {h0 : ExceptHandler} {hs : List ExceptHandler} {l : List Cl} {pos : Pos} {tb : WX → TS} {Wo : WX}
theorem ps_try_mix (st : X.stack = X.env :: X.outer) (fr : X.env.frame = some X.env.locals) (nd : X.N.Nodup) (tk : Takes X Wo)
    (hb : ∀ (W : WX) (pn : List (Addr × Obj)) (xe : Value → Shared → Prop), Takes (X.tr pn xe) W → PassesOwn (model X.prog X.w) X.A X.env xe → PSs (X.tr pn xe) body (tb W))
    (hh : HMix X (h0 :: hs) l) : PS X (.Try body (h0 :: hs) [] [] pos) (fun D τ G => tb (wMix X.K Wo D l) D τ G) := by
  refine ⟨fun pins s τ G D I h => ?_⟩
  have ok := I.ok
  have fram : X.A.frames = some (X.env :: X.outer) := by rw [ok.frames, st]
  refine wpAny_Try_except ?_
  refine wpAny_mono ((hb (wMix X.K Wo D l) (X.pn ++ pins) (fun e s1 => wpAny (model X.prog X.w) X.A (noteFrame e X.env) (fun _ s2 =>
    wpAny (model X.prog X.w) X.A (setFlight e none) (fun _ s3 => wpAny (model X.prog X.w) X.A (handleBy e X.env (h0 :: hs)) (SP X pins D) X.xe s3) X.xe s2) X.xe s1)
    (fun u s' xx => ?caught) PassesOwn.looking).run [] s τ G D (I.toTry _) h) (fun f s1 sp => ?through) (fun e s1 z => z)
  case through =>
    cases f with
    | next =>
      obtain ⟨τ', G', J, q⟩ := sp
      exact wpAny_execs_nil ⟨τ', G', J.ofTry ok, q⟩
    | brk => obtain ⟨τ', G', J, q⟩ := sp; exact ⟨τ', G', J.ofTry ok, q⟩
    | cont => obtain ⟨τ', G', J, q⟩ := sp; exact ⟨τ', G', J.ofTry ok, q⟩
    | ret u => obtain ⟨v, τ', G', J, r, q⟩ := sp; exact ⟨v, τ', G', J.ofTry ok, r, q⟩
  case caught =>
    obtain ⟨a, B, sI, pins1, τ1, G1, cls, d, rfl, J0, nb, up, sky, na, os, ag, w⟩ := xx
    have J : Inv X pins τ1 G1 sI := J0.ofTry ok
    have sky1 : Sky B (X.env :: X.outer) a (Zc cls d) X.env.locals s'.heap := by rw [← st]; exact sky
    show wpAny (model X.prog X.w) X.A (noteFrame (.ref a) X.env) _ _ _
    refine Sky.land Zc.steady fram fr sky1 fun g3 fl3 up3 => ?_
    have J3 : Inv X pins τ1 G1 { s' with heap := g3 } := J.landed nb fl3.1 (up.trans up3) os ag
    obtain ⟨o3, v3, e3, z3, d3⟩ := fl3.there
    have nofr : a ∉ frs (X.env :: X.outer) := fun hm => by
      obtain ⟨_, o', e', hn⟩ := fl3.2.2.1.mem hm
      rw [e3] at e'
      cases e'
      exact hn _ d3
    have nL : a ≠ X.env.locals := fun z => nofr (List.mem_filterMap.mpr ⟨X.env, List.mem_cons_self, by rw [fr, z]⟩)
    have nF : a ∉ X.fs := fun hm => by
      obtain ⟨e, he, q⟩ := List.mem_filterMap.mp hm
      exact nofr (List.mem_filterMap.mpr ⟨e, List.mem_cons_of_mem _ he, q⟩)
    have S3 := J3.suite e3 d3 na nL nF
    have typ : PySem.W.Looks (model X.prog X.w) g3 (typeOf (.ref a)) cls := fun A Q E s k q => wpAny_typeOf_ref (k _ _ e3) (by rw [z3.1]; exact q)
    have named : ∀ {x : Str} {c : Value} {np : Pos} {Q E : Value → Shared → Prop}, Names X x c → Q c { s' with heap := g3 } →
        wpAny (model X.prog X.w) (X.A.mark (some (.ref a))) (eval (.Name x np) X.env) Q E { s' with heap := g3 } := fun {x c np Q E} hc q => by
      obtain ⟨hg, hdbg, hm | ⟨hm, hv, hnn⟩⟩ := hc
      · exact ld_glob (X := X.suite a ((a, o3) :: (X.pn ++ pins))) S3 hg hm q hdbg
      · exact ld_blt (X := X.suite a ((a, o3) :: (X.pn ++ pins))) S3 hg hm hv q hnn hdbg
    have go : ∀ {hs1 : List ExceptHandler} {l1 : List Cl}, HMix X hs1 l1 → wMix X.K Wo D l1 cls d τ1 G1 →
        wpAny (model X.prog X.w) X.A (handleBy (.ref a) X.env hs1) (SP X pins D) X.xe { s' with heap := g3 } := by
      intro hs1 l1 hk
      induction hk with
      | nil =>
        intro w
        refine wpAny_handleBy_nil ?_
        obtain ⟨k1, k2, k3, oe, vs, T, oT, ts', he, hz, hd, h1, hr⟩ := id fl3
        unfold PySem.passOn
        refine wpAny_bind (wpAny_field he hd h1 ?_)
        rw [if_neg (show ¬ ((Value.ref T == Value.none) = true) from by simp)]
        have fin : wpAny (model X.prog X.w) X.A (setFlight (.ref a) X.env.frame) (fun _ s4 => wpAny (model X.prog X.w) X.A (throw (.ref a) : Sem Flow) (SP X pins D) X.xe s4) X.xe { s' with heap := g3 } := by
          rw [fr]
          refine HandSPX.setFlight_upZ fl3 fun g4 hh4 up4 => wpAny_throw (tk _ _ ?_)
          exact ⟨a, B, sI, pins, τ1, G1, cls, d, rfl, J, nb, (up.trans up3).trans up4, .inr (.inr (by rw [st]; exact hh4)), na, os, ag, w⟩
        first
          | exact wpAny_bind (wpAny_pure (wpAny_bind fin))
          | exact wpAny_bind fin
      | @bare x c ts b0 bs q1 q2 hs2 l2 hc su r ih =>
        rintro ⟨b, hb1, yes, no⟩
        have LM := PySem.W.exm_one (M := model X.prog X.w) (J3.kIn) typ hb1
        refine wpAny_handleBy_cons (codeAny_handlers_test ?_) (by intro q; cases q)
        refine named hc (LM.here ?_)
        cases b with
        | false =>
          show wpAny _ X.A (handleBy (.ref a) X.env hs2) _ _ _
          exact ih (no rfl)
        | true =>
          refine codeAny_handlers_suite ?_
          refine HandSPX.lands_againZ fl3 fun g4 fl4 up4 => ?_
          have J4 : Inv X pins τ1 G1 { s' with heap := g4 } := J.landed nb fl4.1 ((up.trans up3).trans up4) os ag
          obtain ⟨o4, v4, e4, z4, d4⟩ := fl4.there
          have S4 := J4.suite e4 d4 na nL nF
          refine wpAny_mono ((su a o4 cls d (X.pn ++ pins) z4 ⟨_, d4⟩).run [] _ _ G1 _ S4 (yes rfl a na)) (fun f s6 sp => ?_) (fun _ _ z => False.elim z)
          cases f with
          | next => obtain ⟨t6, G6, S6, q6⟩ := sp; exact ⟨_, _, S6.unsuite ok, q6⟩
          | brk => obtain ⟨t6, G6, S6, q6⟩ := sp; exact ⟨_, _, S6.unsuite ok, q6⟩
          | cont => obtain ⟨t6, G6, S6, q6⟩ := sp; exact ⟨_, _, S6.unsuite ok, q6⟩
          | ret u => obtain ⟨v6, t6, G6, S6, r6, q6⟩ := sp; exact ⟨_, _, _, S6.unsuite ok, r6, q6⟩
      | @named x n i c ts b0 bs q1 q2 hs2 l2 hc hi hl su r ih =>
        rintro ⟨b, hb1, yes, no⟩
        have LM := PySem.W.exm_one (M := model X.prog X.w) (J3.kIn) typ hb1
        refine wpAny_handleBy_cons (codeAny_handlers_test ?_) (by intro q; cases q)
        refine named hc (LM.here ?_)
        cases b with
        | false =>
          show wpAny _ X.A (handleBy (.ref a) X.env hs2) _ _ _
          exact ih (no rfl)
        | true =>
          refine codeAny_handlers_suite_as ?_
          refine HandSPX.lands_againZ fl3 fun g4 fl4 up4 => ?_
          have J4 : Inv X pins τ1 G1 { s' with heap := g4 } := J.landed nb fl4.1 ((up.trans up3).trans up4) os ag
          obtain ⟨o4, v4, e4, z4, d4⟩ := fl4.there
          have S4 := J4.suite e4 d4 na nL nF
          refine store_ok (X := X.suite a ((a, o4) :: (X.pn ++ pins))) (v := .ref a) S4 nd hi (.inl hl) rfl (fun s5 S5 => ?_) (.inr hl)
          refine wpAny_mono ((su a o4 cls d (X.pn ++ pins) z4 ⟨_, d4⟩).run [] s5 _ G1 _ S5 (yes rfl a na)) (fun f s6 sp => ?_) (fun _ _ z => False.elim z)
          have fin : ∀ {t6 : L2.St} {G6 : Hp} {Q : Shared → Prop}, Inv (X.suite a ((a, o4) :: (X.pn ++ pins))) [] t6 G6 s6 → (∀ s7, Inv X pins (t6.set i none) G6 s7 → Q s7) →
              wpAny (model X.prog X.w) X.A (do bindName X.env n .none; unbindBehindTheSuite X.env n q2) (fun _ s7 => Q s7) X.xe s6 := fun {t6 G6 Q} S6 hq => gone_ok (S6.unsuite ok) nd hi hl hq
          cases f with
          | next => obtain ⟨t6, G6, S6, q6⟩ := sp; exact fin S6 fun s7 J7 => ⟨_, _, J7, q6⟩
          | brk => obtain ⟨t6, G6, S6, q6⟩ := sp; exact fin S6 fun s7 J7 => ⟨_, _, J7, q6⟩
          | cont => obtain ⟨t6, G6, S6, q6⟩ := sp; exact fin S6 fun s7 J7 => ⟨_, _, J7, q6⟩
          | ret u => obtain ⟨v6, t6, G6, S6, r6, q6⟩ := sp; exact fin S6 fun s7 J7 => ⟨_, _, _, J7, r6, q6⟩
    exact go hh w
end

/-! ## f(e, ..) where f is any expression that gives a def -/
structure CanCall (X : Cx) (CX : CXT) (k : Nat) (f : Addr) (sp : Sp) : Prop where
  ex : ∃ (fd : FuncData) (ps : List Str), FnOk X.prog X.w X.K X.mg X.base CX k f fd ps sp ∧ PySem.W.keepIn X.K (.ref f) = true ∧ Binds X.K fd ps []
/-- the promise goes with the address: S f sp -/
def tCallE (S : Addr → Sp → Prop) (E : L2.St → XK) (tf : TE) (t : TA) : TE := fun σ H Q => tf σ H fun y H1 => ∃ f sp, y = .ref f ∧ S f sp ∧ t σ H1 fun vs H2 => sp vs H2 Q (E σ)
section
variable {X : Cx} {CX : CXT} {k : Nat} {S : Addr → Sp → Prop} {E : L2.St → XK} {fe e : Expr} {es : List Expr} {tf : TE} {t : TA} {pos : Pos}
theorem pe_callE (hf : PE X fe tf) (A : ∀ f sp, S f sp → CanCall X CX k f sp) (hr : Room k X.A) (hx : ∀ σ, PassesAt CX X σ (E σ)) (ha : PA X (e :: es) t)
    (ht : eval (.Call fe (e :: es) [] pos) X.env = (do callWith pos (← eval fe X.env) [] (backTo pos (starEach (e :: es) X.env)) (backToKw pos (keywordEach [] X.env))) := by rfl)
    (he : starEach (e :: es) X.env = (false, eval e X.env) :: starEach es X.env := by rfl) (hpl : (backTo pos (starEach es X.env)).any (·.1) = false := by rfl) :
    PE X (.Call fe (e :: es) [] pos) (tCallE S E tf t) := by
  refine ⟨fun pins s σ H Q I h => ?_⟩
  rw [ht]
  refine wpAny_bind (thn (hf.run pins s σ H _ I h) fun u s1 q1 => ?_)
  obtain ⟨y, H1, I1, ry, f, sp, ey, hs, q⟩ := q1
  subst ey
  cases ry
  obtain ⟨fd, ps, F, hk, hb⟩ := (A f sp hs).ex
  refine PySem.W.callWith_K (h₀ := X.base) I.ok.mod.kin hk (thn (ha.run pos pins s1 σ H1 _ I1 q) fun us s2 q2 => ?_) he hpl
  obtain ⟨vs, H2, I2, r, q3⟩ := q2
  exact ⟨I2.kIn, run_fnS F hr hb (hx σ) I2 r q3⟩
end
end Bk
namespace Bk
open PySem PySem.Spec PyProof.Rows L2

/-! ## for i, x in enumerate(a tuple) -/
set_option maxHeartbeats 4000000 in
theorem enum_new1 {v : Value} {o : Obj} {G : Heap → Prop} (B : Begins v o G) :
    Meets (Builtin.«enumerate.__new__» ⟨[.type "enumerate", v], []⟩) (fun _ R s => G s.heap ∧
      R (.ok (.ret (.ref (s.heap.push o).objs.size))) { s with heap := (s.heap.push o).push { cls := .type "enumerate", data := .fields #[.none, .bool false, .ref s.heap.objs.size, rawInt 0, .none, .none] } }) :=
  .of_wp fun prog w A R s h => by
    obtain ⟨hp, g, d, tk, os⟩ := s
    obtain ⟨h1, h⟩ := h
    have hsub := sub_enumerate
    have it0 : ∀ {A' : Around} {E : Value → Shared → Prop} {Q : Value → Shared → Prop}, Q (.ref hp.objs.size) ⟨hp.push o, g, d, tk, os⟩ → wpAny (model prog w) A' (pyIter v) Q E ⟨hp, g, d, tk, os⟩ :=
      fun q => B.iter prog w _ _ ⟨hp, g, d, tk, os⟩ _ h1 q
    wp_walk using it0
    refine wpAny_stack_any fun st => wpAny_pure ?_
    split
    · rename_i c _ _ _ _ _
      cases (c == Value.type "enumerate") <;> (wp_walk using it0; exact ⟨_, rfl, h⟩)
    · wp_walk using it0
      exact ⟨_, rfl, h⟩
section
variable {prog : Program} {w : World} {A : Around} {E : Value → Shared → Prop} {s : Shared}
theorem enum_call1 {v : Value} {o : Obj} {G : Heap → Prop} {Q : Value → Shared → Prop} (B : Begins v o G) (h1 : G s.heap)
    (h : ∀ g, IsEnum g (s.heap.objs.size + 1) s.heap.objs.size 0 .none → g.get? s.heap.objs.size = some o → g.objs.size = s.heap.objs.size + 2 →
      (∀ b o, s.heap.get? b = some o → g.get? b = some o) → Q (.ref (s.heap.objs.size + 1)) { s with heap := g }) :
    wpAny (model prog w) A (call (.type "enumerate") [v]) Q E s := by
  refine callType_new F.called_enumerate (by decide) (F.typeCall_enumerate_1 _) (F.newCall_enumerate_1 _) (fun obj => F.args_object_init_2 obj _) F.entry_enumerate_new (enum_new1 B) ⟨h1, ?_⟩
  have z : (s.heap.push o).objs.size = s.heap.objs.size + 1 := Heap.size_push ..
  show _ ∧ _
  rw [z]
  have e0 := Heap.get?_push_size (s.heap.push o) (o := { cls := .type "enumerate", data := .fields #[.none, .bool false, .ref s.heap.objs.size, rawInt 0, .none, .none] }) rfl
  rw [z] at e0
  exact ⟨⟨_, e0, rfl⟩, h _ e0 (Heap.get?_push_of_some _ (Heap.get?_push_size _ B.free)) (by rw [Heap.size_push, z]) fun b o x => Heap.get?_push_of_some _ (Heap.get?_push_of_some _ x)⟩
end
/-- the tuple at a, each item in a new pair -/
def ItEt (K : PySem.W.Frag) (a : Addr) : It :=
  ⟨fun i G => ∃ (xs : List V) (x : V), SqT K G a xs ∧ xs[i]? = some x,
   fun i G v G' => ∃ T x, v = .ref T ∧ G T = none ∧ G' = upd G T (.tup [.int (i : Nat), x]) ∧ ∀ xs, SqT K G a xs → xs[i]? = some x,
   fun i G => ∃ xs : List V, SqT K G a xs ∧ xs.length ≤ i⟩
theorem turn_enumT {P : Program} {w : World} {K : PySem.W.Frag} {elts : List Expr} {kk : Nat} {tpos : Pos} (a e it : Addr) (hai : a ≠ it) (hea : e ≠ a) :
    Turn P w K (.Tuple elts kk tpos) (ItEt K a) [e, it] e (fun i g => (∃ old, IsEnum g e it ((i : Nat) : Int) old) ∧ g.IsTupleIter it a i ∧ e ≠ it) where
  mem := by simp
  obj := fun i g st b hb => by
    obtain ⟨⟨old, he⟩, ⟨o, ho, hc, hd⟩, _⟩ := st
    have two : b = e ∨ b = it := by simpa using hb
    rcases two with z | z
    · rw [z]; exact ⟨_, he, fun v q => nomatch q⟩
    · rw [z]; exact ⟨o, ho, fun v q => by rw [hd] at q; cases q⟩
  keep := fun i g g' st k => let ⟨⟨old, he⟩, hi, hne⟩ := st; ⟨⟨old, k e (by simp) _ he⟩, hi.at fun o q => k it (by simp) o q, hne⟩
  item := by
    intro X eP ew eK hc i pins s τ G E I hf st hg
    subst eP ew eK
    obtain ⟨⟨old, he⟩, hit, hne⟩ := st
    obtain ⟨xs, x, hq, hx⟩ := hg
    obtain ⟨its, rv, p, hz⟩ := I.tuple hq
    obtain ⟨u, hu, ru⟩ := rv.get hx
    have hel : e < s.heap.objs.size := Heap.lt_size he
    have hil : it < s.heap.objs.size := by obtain ⟨_, q, _⟩ := hit; exact Heap.lt_size q
    have lt : i < its.toArray.size := by
      have l1 := (List.getElem?_eq_some_iff.mp hu).1
      simpa using l1
    have tup : s.heap.IsTuple a its.toArray := p
    refine wpAny_pyNext_enum_itemD (Draws.tuple (show X.A.in1.handled = none from I.ok.hd hc) it a hai its.toArray) he ⟨hit, tup⟩ lt hne (by simp [hne, hea]) fun y g' tk hy ho hst hT hsz hk => ?_
    obtain rfl : u = y := by
      have h1 : its.toArray[i]? = some u := by simpa using hu
      exact Option.some.inj (h1.symm.trans hy)
    refine ⟨_, rfl, wpAny_letOwnedTupleGo_enum (s := { s with heap := g', toks := tk + 1 }) ho fun g2 he2 sb => ?_⟩
    have hT2 : g2.get? s.heap.objs.size = some { cls := .type "tuple", data := .seq #[.int i tk, u] } := (sb.2 _ (Nat.ne_of_gt hel)).trans hT
    have new : ObjOk X.prog X.w (upd G s.heap.objs.size (.tup [.int (i : Nat), x])) g2 s.heap.objs.size (.tup [.int (i : Nat), x]) :=
      ⟨by show 2 ≤ sizeLine; decide, [.int i tk, u], .cons ⟨_, rfl⟩ (.cons ru .nil), ⟨_, hT2, rfl, _, rfl⟩⟩
    have I1 : Inv X pins τ (upd G s.heap.objs.size (.tup [.int (i : Nat), x])) { s with heap := g2, toks := tk + 1 } :=
      I.turnedNew (ch := [e, it]) (fun b ob hb q => (sb.2 b (fun z => hb (by simp [z]))).trans (hk b ob (fun z => hb (by simp [z])) (fun z => hb (by simp [z])) q)) hf (Nat.le_refl _) new
    refine ⟨.ref s.heap.objs.size, _, I1, rfl, ⟨_, x, rfl, I.hok.fresh (Nat.le_refl _), rfl, fun ys hy => by rw [I.tuple_inj hy hq]; exact hx⟩, ⟨⟨u, ?_⟩, hst.1.at fun o q => (sb.2 it (Ne.symm hne)).trans q, hne⟩, fun b hb => ?_⟩
    · have e1 : ((i + 1 : Nat) : Int) = (i : Int) + 1 := by omega
      rw [e1]
      exact he2
    · have two : b = e ∨ b = it := by simpa using hb
      have lt2 : b < s.heap.objs.size := by
        rcases two with z | z
        · rw [z]; exact hel
        · rw [z]; exact hil
      rw [upd_ne (Nat.ne_of_lt lt2)]
      exact (hf b hb).1
  done := by
    intro X eP ew eK hc i pins s τ G E I hf st hg
    subst eP ew eK
    obtain ⟨⟨old, he⟩, hit, hne⟩ := st
    obtain ⟨xs, hq, hx⟩ := hg
    obtain ⟨its, rv, p, hz⟩ := I.tuple hq
    obtain ⟨f0, f1, f2, f3, f4, f5⟩ := hf it (by simp)
    have tup : s.heap.IsTuple a its.toArray := p
    have hl := rv.length
    have hT : s.TypeIs (.ref e) "enumerate" := ⟨_, he, rfl⟩
    unfold pyNext
    refine wpAny_bind (wpAny_attempt (wpAny_callSpecial?_slot (name := Str.ofString "__next__") hT F.slot_enumerate_next (wpAny_call_entry F.slot_enumerate_next hT F.entry_enumerate_next ?_ (F.args_enumerate_next_1 _))))
    show wpAny _ _ (field (.ref e) 2 >>= _) _ _ _
    refine wpAny_bind (wpAny_field he rfl (x := .ref it) rfl ?_)
    refine wpAny_bind (wpAny_nextOf_tuple_end (show X.A.in1.handled = none from I.ok.hd hc) hit tup (by simp; omega) fun g' x' eb hx' => ?_)
    obtain ⟨o, ho, hc'⟩ := hx'
    refine wpAny_bind (wpAny_isInstance (T := "StopIteration") (b := true) ⟨o, ho, hc'⟩ isSubtype_stop ?_)
    exact wpAny_pure ⟨rfl, I.turned (t' := s.toks) (fun b o hb q => eb b o hb q) f0 f1 f3 f4 f5⟩
  self := fun A i s Q E st h => let ⟨⟨_, he⟩, _⟩ := st; wpAny_pyIter_enum he h
def iEnumT (K : PySem.W.Frag) (ta : TA) : TI := fun τ G R => ta τ G fun vs G1 => ∃ a xs, vs = [.ref a] ∧ SqT K G1 a xs ∧ R (ItEt K a) G1
theorem pi_enumT {X : Cx} {e : Expr} {ta : TA} {p pos tpos : Pos} {elts : List Expr} {kk : Nat} (hg : Gl X "enumerate") (hm : X.mg "enumerate" = none) (ha : PA X [e] ta) (hs : starEach [e] X.env = [(false, eval e X.env)] := by rfl) :
    PI X (.Tuple elts kk tpos) (.Call (.Name "enumerate" p) [e] [] pos) (iEnumT X.K ta) := by
  refine ⟨fun pins s τ G R I h => ?_⟩
  refine Call_ (ld_blt I hg hm boot_enumerate (PyProof.Rows.callWith_type1 (thn (ha.run pos pins s τ G _ I h) fun us s1 q0 => ?_) hs rfl))
  obtain ⟨vs, G1, I1, r1, a, xs, ex, hq, q⟩ := q0
  subst ex
  cases r1 with
  | cons r rr =>
    cases rr
    cases r
    obtain ⟨its, rv, p', hz⟩ := I1.tuple hq
    have tup : s1.heap.IsTuple a its.toArray := p'
    have hlt : a < s1.heap.objs.size := by obtain ⟨o, eo, _⟩ := tup; exact Heap.lt_size eo
    refine enum_call1 (begins_tuple a its.toArray) tup fun g he hit hsz hk => wpAny_pyIter_enum he ?_
    have I2 : Inv X pins τ G1 { s1 with heap := g } := I1.kept (t' := s1.toks) hk
    refine ⟨s1.heap.objs.size + 1, [s1.heap.objs.size + 1, s1.heap.objs.size], _, _, G1, rfl, I2, turn_enumT a (s1.heap.objs.size + 1) s1.heap.objs.size (Nat.ne_of_lt hlt) (Nat.ne_of_gt (Nat.lt_succ_of_lt hlt)),
      ⟨⟨.none, he⟩, ⟨_, hit, rfl, rfl⟩, Nat.succ_ne_self _⟩, fun b hb => ?_, q⟩
    have two : b = s1.heap.objs.size + 1 ∨ b = s1.heap.objs.size := by simpa using hb
    have hle : s1.heap.objs.size ≤ b := by
      rcases two with z | z
      · rw [z]; exact Nat.le_add_right _ _
      · rw [z]; exact Nat.le_refl _
    exact I1.fpOk hle (I1.hok.fresh hle)
/-- over a tuple that the body leaves as it is -/
theorem for_enumT {K : PySem.W.Frag} {a : Addr} {xs : List V} {g : TG} {tb : TS} {D : Ends} {τ : L2.St} {G : Hp} (Pv : Nat → L2.St → Hp → Prop) (h0 : Pv 0 τ G) (hl : ∀ i τ G, i ≤ xs.length → Pv i τ G → SqT K G a xs)
    (step : ∀ i x τ G T, xs[i]? = some x → Pv i τ G → G T = none → g (.ref T) τ (upd G T (.tup [.int (i : Nat), x])) fun τ2 G2 => tb { D with nx := Pv (i + 1), ct := Pv (i + 1), bk := D.nx } τ2 G2)
    (last : ∀ τ G, Pv xs.length τ G → D.nx τ G) :
    ∃ W : Nat → Nat → L2.St → Hp → Prop, (∃ m, W 0 m τ G) ∧ ∀ i m τ G, W i m τ G → ((ItEt K a).stop i G ∧ D.nx τ G) ∨ ((ItEt K a).go i G ∧ ∃ N : L2.St → Hp → Prop,
      (∀ τ' G', N τ' G' → ∃ m', m' < m ∧ W (i + 1) m' τ' G') ∧ ∀ x G', (ItEt K a).yld i G x G' → g x τ G' fun τ2 G2 => tb { D with nx := N, ct := N, bk := D.nx } τ2 G2) := by
  refine ⟨fun i m τ G => m = xs.length - i ∧ i ≤ xs.length ∧ Pv i τ G, ⟨xs.length, by simp, Nat.zero_le _, h0⟩, ?_⟩
  rintro i m τ G ⟨rfl, hi, p⟩
  have q := hl i τ G hi p
  by_cases c : i < xs.length
  · refine .inr ⟨⟨xs, xs[i], q, by simp [c]⟩, Pv (i + 1), fun τ' G' p' => ⟨xs.length - (i + 1), by omega, rfl, c, p'⟩, fun x G' y => ?_⟩
    obtain ⟨T, z, rfl, hT, rfl, hz⟩ := y
    exact step i z τ G T (hz xs q) p hT
  · have e : i = xs.length := by omega
    subst e
    exact .inl ⟨⟨xs, q, Nat.le_refl _⟩, last τ G p⟩

/-! ## a dict against a text -/
theorem deq_str (l : Addr) (o : Obj) (b : Str) (u : Tok) (es : Array DictEntry) (n : Nat) (hd : o.data = .dict es n) (hc : o.cls = .type "dict") :
    Meets (Builtin.«dict.__eq__» ⟨[.ref l, .str b u], []⟩) (fun _ R s => s.heap.get? l = some o ∧ R (.ok (.ret .notImplemented)) s) :=
  .of_wp fun prog w A R s h => by
    obtain ⟨hp, g, d, tk, os⟩ := s
    obtain ⟨hl, h⟩ := h
    obtain ⟨c, dd, dt, sl⟩ := o
    dsimp only at hd hc
    subst hd hc
    have f1 := F.sub_str_dict
    wp_walk using PySem.AutoSeq1.wpAny_loadPart' hl
    exact ⟨_, rfl, h⟩
end Bk
namespace Bk
open PySem PySem.Spec PyProof.Rows L2
theorem dne_str (l : Addr) (o : Obj) (b : Str) (u : Tok) (es : Array DictEntry) (n : Nat) (hd : o.data = .dict es n) (hc : o.cls = .type "dict") :
    Meets (Builtin.«dict.__ne__» ⟨[.ref l, .str b u], []⟩) (fun _ R s => s.heap.get? l = some o ∧ R (.ok (.ret .notImplemented)) s) :=
  .of_wp fun prog w A R s h => by
    obtain ⟨hp, g, d, tk, os⟩ := s
    obtain ⟨hl, h⟩ := h
    obtain ⟨c, dd, dt, sl⟩ := o
    dsimp only at hd hc
    subst hd hc
    have f1 := F.sub_str_dict
    wp_walk using PySem.AutoSeq1.wpAny_loadPart' hl
    exact ⟨_, rfl, h⟩
theorem sne_dict (b : Str) (u : Tok) (l : Addr) (o : Obj) (es : Array DictEntry) (n : Nat) (hd : o.data = .dict es n) :
    Meets (Builtin.«str.__ne__» ⟨[.str b u, .ref l], []⟩) (fun _ R s => s.heap.get? l = some o ∧ R (.ok (.ret .notImplemented)) s) :=
  .of_wp fun prog w A R s h => by
    obtain ⟨hp, g, d, tk, os⟩ := s
    obtain ⟨hl, h⟩ := h
    obtain ⟨c, dd, dt, sl⟩ := o
    dsimp only at hd
    subst hd
    wp_walk using PySem.AutoSeq1.wpAny_loadPart' hl, wpAny_load hl
    exact ⟨_, rfl, h⟩
theorem seq_dict (b : Str) (u : Tok) (l : Addr) (o : Obj) (es : Array DictEntry) (n : Nat) (hd : o.data = .dict es n) :
    Meets (Builtin.«str.__eq__» ⟨[.str b u, .ref l], []⟩) (fun _ R s => s.heap.get? l = some o ∧ R (.ok (.ret .notImplemented)) s) :=
  .of_wp fun prog w A R s h => by
    obtain ⟨hp, g, d, tk, os⟩ := s
    obtain ⟨hl, h⟩ := h
    obtain ⟨c, dd, dt, sl⟩ := o
    dsimp only at hd
    subst hd
    wp_walk using PySem.AutoSeq1.wpAny_loadPart' hl, wpAny_load hl
    exact ⟨_, rfl, h⟩
section
variable {X : Cx}
/-- a tracked dict against a text -/
def rDS (c : Bool) : R2 := fun x y G Q => ∃ a kvs z, x = .ref a ∧ y = .str z ∧ G a = some (.dK kvs) ∧ Q (.bl c) G
theorem dict_obj {pins : List (Addr × Obj)} {τ : L2.St} {G : Hp} {s : Shared} {a : Addr} {kvs : List (Key × V)} (I : Inv X pins τ G s) (h : G a = some (.dK kvs)) :
    ∃ o es n, s.heap.get? a = some o ∧ o.data = .dict es n ∧ o.cls = .type "dict" := by
  obtain ⟨_, _, vs, _, o, es, ep, h1, h2, r⟩ := (show ObjOk X.prog X.w G s.heap a (.dK kvs) from I.hok a _ h)
  exact ⟨o, es, ep, h1, r.1, h2.1⟩
theorem op_ne_ds (hu : X.A.units < cLine) : OpR X (compareOp .NotEq) (rDS true) := by
  intro pins s τ G x y v u Q I rx ry h
  obtain ⟨a, kvs, z, rfl, rfl, ha, q⟩ := h
  cases rx
  obtain ⟨t, rfl⟩ := ry
  obtain ⟨o, es, n, ho, hd, hc⟩ := dict_obj I ha
  show wpAny _ _ (richCompare .NotEq _ _) _ _ s
  exact SeqAt.rc_ne_decline_or (k := false) ⟨o, ho, hc⟩ (typeIs_str s z t) (by decide) F.sub_str_dict F.slot_dict_ne F.slot_str_ne_refl
    (fun _ hq => call_meets F.slot_dict_ne ⟨o, ho, hc⟩ F.entry_dict_ne (F.args_dict_ne_2 _ _) (dne_str a o z t es n hd hc) ⟨ho, hq⟩)
    (fun _ hq => call_meets F.slot_str_ne_refl (typeIs_str s z t) F.entry_str_ne (F.args_str_ne_2 _ _) (sne_dict z t a o es n hd) ⟨ho, hq⟩)
    (fun _ hq => wpAny_of_eq (rfl : isSame (.ref a) (.str z t) = pure false) hq) (.inr hu) ⟨.bl true, G, I, rfl, q⟩
theorem op_eq_ds (hu : X.A.units < cLine) : OpR X (compareOp .Eq) (rDS false) := by
  intro pins s τ G x y v u Q I rx ry h
  obtain ⟨a, kvs, z, rfl, rfl, ha, q⟩ := h
  cases rx
  obtain ⟨t, rfl⟩ := ry
  obtain ⟨o, es, n, ho, hd, hc⟩ := dict_obj I ha
  show wpAny _ _ (richCompare .Eq _ _) _ _ s
  exact SeqAt.rc_eq_decline_or (k := false) ⟨o, ho, hc⟩ (typeIs_str s z t) (by decide) F.sub_str_dict F.slot_dict_eq F.slot_str_eq_refl
    (fun _ hq => call_meets F.slot_dict_eq ⟨o, ho, hc⟩ F.entry_dict_eq (F.args_dict_eq_2 _ _) (deq_str a o z t es n hd hc) ⟨ho, hq⟩)
    (fun _ hq => call_meets F.slot_str_eq_refl (typeIs_str s z t) F.entry_str_eq (F.args_str_eq_2 _ _) (seq_dict z t a o es n hd) ⟨ho, hq⟩)
    (fun _ hq => wpAny_of_eq (rfl : isSame (.ref a) (.str z t) = pure false) hq) (.inr hu) ⟨.bl false, G, I, rfl, q⟩
/-- of two rules for one operator either -/
theorem op_or {f : Value → Value → Sem Value} {r r' : R2} (h : OpR X f r) (h' : OpR X f r') : OpR X f (fun x y G Q => r x y G Q ∨ r' x y G Q) := by
  intro pins s τ G x y v u Q I rx ry q
  rcases q with q | q
  · exact h pins s τ G x y v u Q I rx ry q
  · exact h' pins s τ G x y v u Q I rx ry q
end
end Bk
/-! the mirror of buildroom.paths: what its checks say, over texts -/
namespace Bm
open PySem L2 TL
/-- [a, b, ..] below [c, ..] for single signs -/
theorem lt_one (a b : Nat) : decide (([a] : List Nat) < [b]) = decide (a < b) := by
  rw [Bool.eq_iff_iff, decide_eq_true_eq, decide_eq_true_eq]
  constructor
  · intro h
    cases h with
    | rel h => exact h
    | cons h => cases h
  · intro h
    exact List.Lex.rel h
def sgnN (c : Nat) : Bool := (decide (97 ≤ c) && decide (c ≤ 122)) || (decide (48 ≤ c) && decide (c ≤ 57))
def sgnT (c : Nat) : Bool := (decide (32 ≤ c) && decide (c ≤ 126)) || decide (c = 10)
def nameB (x : Str) : Bool := decide (1 ≤ x.length) && decide (x.length ≤ 6) && x.cps.toList.all sgnN
def partsOf (x : Str) : List Str := Txt.split x (Str.ofString "/")
def pathB (x : Str) : Bool := decide ((partsOf x).length ≤ 3) && (partsOf x).all nameB
def textB (x : Str) : Bool := decide (x.length ≤ 200) && x.cps.toList.all sgnT
def within (p f : Str) : Bool := decide (f = Str.ofString "") || Txt.startswith p (f ++ Str.ofString "/")
def isPathV : V → Bool
  | .str x => pathB x
  | _ => false
def isTextV : V → Bool
  | .str x => textB x
  | _ => false
def isFolderV : V → Bool
  | .str x => pathB x || decide (x = Str.ofString "")
  | _ => false
theorem spl_len {S : List Nat} : ∀ (l : List Nat) (k : Nat) (acc p : List Nat), p ∈ spl S k acc l → p.length ≤ acc.length + l.length
  | [], k, acc, p, h => by
    rw [spl_nil] at h
    have e : p = acc := by simpa using h
    subst e
    simp
  | c :: r, 0, acc, p, h => by
    by_cases q : pre S (c :: r) = true
    · rw [spl_hit q] at h
      rcases List.mem_cons.mp h with rfl | h
      · simp
      · have ih := spl_len r _ _ p h
        simp at ih ⊢
        omega
    · rw [spl_miss (by simpa using q)] at h
      have ih := spl_len r _ _ p h
      simp at ih ⊢
      omega
  | c :: r, k + 1, acc, p, h => by
    have h' : p ∈ spl S k acc r := h
    have ih := spl_len r _ _ p h'
    simp at ih ⊢
    omega
theorem str_len (x : Str) : (tl x).length = x.length := by simp [tl, Str.length]
theorem part_len {x p : Str} (h : p ∈ partsOf x) : p.length ≤ x.length := by
  have e := split_spl x (Str.ofString "/") (by decide) (kind_ok (by decide +kernel))
  have h1 : tl p ∈ (Txt.split x (Str.ofString "/")).map tl := List.mem_map.mpr ⟨p, h, rfl⟩
  rw [e] at h1
  have h2 := spl_len _ _ _ _ h1
  rw [str_len, str_len] at h2
  simpa using h2
example : pathB (Str.ofString "e/f/g") = true := by decide +kernel
example : pathB (Str.ofString "a/b/c/d") = false := by decide +kernel
end Bm
/-! more of what readings evaluate to -/
namespace Be
open PySem PySem.Spec PyProof.Rows L2 Bk Bm Evl
section
variable {K : PySem.W.Frag} {σ : L2.St} {H H' : Hp} {ta tb tc te tx : TE} {t u : TT} {x y z v : V} {r r' : R2}
theorem ev_chain {b1 b2 : Bool} (ha : Ev ta σ H x) (hb : Ev tb σ H y) (hr : RV r x y H (.bl b1)) (hc : b1 = true → Ev tc σ H z) (hr' : b1 = true → RV r' y z H (.bl b2)) : Ev (tChain r r' ta tb tc) σ H (.bl (b1 && b2)) := fun H1 e Q q =>
  ha H1 e _ fun H2 e2 => hb H2 (e.trans e2) _ fun H3 e3 => hr H3 ((e.trans e2).trans e3) _ fun H4 e4 => ⟨b1, rfl, by
    have e14 := (e2.trans e3).trans e4
    cases b1 with
    | false =>
      rw [if_neg (by decide)]
      exact q H4 e14
    | true =>
      rw [if_pos rfl]
      exact hc rfl H4 (e.trans e14) _ fun H5 e5 => hr' rfl H5 ((e.trans e14).trans e5) Q fun H6 e6 => q H6 ((e14.trans e5).trans e6)⟩
theorem ev_isL {xs ys : List V} (h : EvL te σ H xs) (e : xs = ys) : EvL te σ H ys := by
  rw [← e]
  exact h
theorem ev_and {a b : Bool} (h1 : Ev ta σ H (.bl a)) (h2 : a = true → Ev tb σ H (.bl b)) : Ev (tAndV ta tb) σ H (.bl (a && b)) := ev_andV h1 h2
/-- a comprehension over a text, no test -/
theorem el_lcS {j : Nat} {w : Str} {tl : TE} (f : Nat → V) (h : Ev tl σ H (.str w)) (hz : w.length ≤ 40000)
    (he : ∀ (c : Nat) H1, Ex H H1 → c ∈ w.cps.toList → Ev te (σ.set j (some (.str ⟨#[c]⟩))) H1 (f c)) : EvL (tLc (iStr tl) (gName j) tYes te [j]) σ H (w.cps.toList.map f) := fun H0 e Q q => h H0 e _ fun H1 e1 => ⟨w, rfl, fun D hD =>
  lc_it (walk_str (z := w)) (fun i G => Ex H1 G ∧ G D = some (.lst ((w.cps.toList.take i).map f))) ⟨Ex.new hD, upd_same⟩ (fun _ _ _ _ => trivial) (by
    rintro i v G G' hi ⟨s1, hd⟩ ⟨rfl, c, hc, rfl⟩
    have hl : w.cps.toList[i]? = some c := by simpa using hc
    have ee : (wipe σ [j]).set j (some (V.str ⟨#[c]⟩)) = σ.set j (some (V.str ⟨#[c]⟩)) := by
      show (σ.set j none).set j (some (V.str ⟨#[c]⟩)) = _
      rw [List.set_set]
    show wipe ((wipe σ [j]).set j (some (V.str ⟨#[c]⟩))) [j] = wipe σ [j] ∧ _
    rw [ee]
    refine ⟨by show (σ.set j _).set j none = σ.set j none; rw [List.set_set], ?_⟩
    unfold tYes
    dsimp only
    rw [if_pos rfl]
    refine he c G' ((e.trans e1).trans s1) (List.mem_of_getElem? hl) G' (Ex.refl _) _ fun G2 e2 => ⟨_, e2 D _ hd, sz_lt ?_, (s1.trans e2).mut hD, ?_⟩
    · rw [List.length_map]
      have h1 := List.length_take_le i w.cps.toList
      have h2 : w.cps.toList.length = w.length := by simp [Str.length]
      have h3 := List.length_take_le' i w.cps.toList
      omega
    · rw [upd_same, List.take_succ, hl]
      simp) (by
    rintro G ⟨s1, hd⟩
    refine q D G (fresh_back e1 hD) (e1.trans s1) ?_
    rw [hd]
    have h2 : w.cps.toList.length = w.cps.size := by simp
    rw [List.take_of_length_le (Nat.le_of_eq h2)])⟩
/-- over a list, no test -/
theorem el_lcN {j : Nat} {xs : List V} {tl : TE} (f : V → V) (h : EvL tl σ H xs) (hz : xs.length ≤ 40000)
    (he : ∀ (x : V) H1, Ex H H1 → x ∈ xs → Ev te (σ.set j (some x)) H1 (f x)) : EvL (tLc (iList K tl) (gName j) tYes te [j]) σ H (xs.map f) := fun H0 e Q q => h H0 e _ fun a H1 ha e1 hx => ⟨a, rfl, ⟨xs, sq_of hx⟩, fun D hD =>
  lc_it (walk_list (K := K) (a := a) (xs := xs)) (fun i G => Ex H1 G ∧ G D = some (.lst ((xs.take i).map f))) ⟨Ex.new hD, upd_same⟩ (fun i G _ p => sq_of (p.1 a _ hx)) (by
    rintro i v G G' hi ⟨s1, hd⟩ ⟨rfl, hl⟩
    have ee : (wipe σ [j]).set j (some v) = σ.set j (some v) := by
      show (σ.set j none).set j (some v) = _
      rw [List.set_set]
    show wipe ((wipe σ [j]).set j (some v)) [j] = wipe σ [j] ∧ _
    rw [ee]
    refine ⟨by show (σ.set j _).set j none = σ.set j none; rw [List.set_set], ?_⟩
    unfold tYes
    dsimp only
    rw [if_pos rfl]
    refine he v G' ((e.trans e1).trans s1) (List.mem_of_getElem? hl) G' (Ex.refl _) _ fun G2 e2 => ⟨_, e2 D _ hd, sz_lt ?_, (s1.trans e2).mut hD, ?_⟩
    · rw [List.length_map]
      have h3 := List.length_take_le' i xs
      omega
    · rw [upd_same, List.take_succ, hl]
      simp) (by
    rintro G ⟨s1, hd⟩
    refine q D G (fresh_back e1 hD) (e1.trans s1) ?_
    rw [hd, List.take_of_length_le (Nat.le_refl _)])⟩
/-- over a tuple, no test -/
theorem el_lcT {j : Nat} {a : Addr} {xs : List V} {tl : TE} (f : V → V) (h : Ev tl σ H (.ref a)) (hx : SqT K H a xs) (hz : xs.length ≤ 40000)
    (he : ∀ (x : V) H1, Ex H H1 → x ∈ xs → Ev te (σ.set j (some x)) H1 (f x)) : EvL (tLc (iTup K tl) (gName j) tYes te [j]) σ H (xs.map f) := fun H0 e Q q => h H0 e _ fun H1 e1 => ⟨a, rfl, ⟨xs, ex_t (e.trans e1) hx⟩, fun D hD =>
  lc_it (walk_tup (K := K) (a := a) (xs := xs)) (fun i G => Ex H1 G ∧ G D = some (.lst ((xs.take i).map f))) ⟨Ex.new hD, upd_same⟩ (fun i G _ p => ex_t ((e.trans e1).trans p.1) hx) (by
    rintro i v G G' hi ⟨s1, hd⟩ ⟨rfl, hl⟩
    have ee : (wipe σ [j]).set j (some v) = σ.set j (some v) := by
      show (σ.set j none).set j (some v) = _
      rw [List.set_set]
    show wipe ((wipe σ [j]).set j (some v)) [j] = wipe σ [j] ∧ _
    rw [ee]
    refine ⟨by show (σ.set j _).set j none = σ.set j none; rw [List.set_set], ?_⟩
    unfold tYes
    dsimp only
    rw [if_pos rfl]
    refine he v G' ((e.trans e1).trans s1) (List.mem_of_getElem? hl) G' (Ex.refl _) _ fun G2 e2 => ⟨_, e2 D _ hd, sz_lt ?_, (s1.trans e2).mut hD, ?_⟩
    · rw [List.length_map]
      have h3 := List.length_take_le' i xs
      omega
    · rw [upd_same, List.take_succ, hl]
      simp) (by
    rintro G ⟨s1, hd⟩
    refine q D G (fresh_back e1 hD) (e1.trans s1) ?_
    rw [hd, List.take_of_length_le (Nat.le_refl _)])⟩
theorem ev_all {bs : List Bool} (h : EvL te σ H (bs.map V.bl)) : Ev (tCB (rAll K) (tCons te tNil)) σ H (.bl (bs.all id)) := fun H1 e Q q =>
  h H1 e _ fun p H2 _ e2 h2 => ⟨p, bs, rfl, sq_of h2, q H2 e2⟩
theorem ev_any {bs : List Bool} (h : EvL te σ H (bs.map V.bl)) : Ev (tCB (rAny K) (tCons te tNil)) σ H (.bl (bs.any id)) := fun H1 e Q q =>
  h H1 e _ fun p H2 _ e2 h2 => ⟨p, bs, rfl, sq_of h2, q H2 e2⟩
theorem ev_lenS {w : Str} (h : Ev te σ H (.str w)) (hl : w.length ≤ 100000) : Ev (tCB (fun xs H Q => ∃ z, xs = [V.str z] ∧ z.length ≤ sizeLine ∧ Q (.int z.length) H) (tCons te tNil)) σ H (.int (w.length : Int)) := fun H1 e Q q =>
  h H1 e _ fun H2 e2 => ⟨w, rfl, sz_of hl, q H2 e2⟩
/-- what isinstance asks of any value of these programs -/
inductive Kd (K : PySem.W.Frag) (H : Hp) : V → String → Prop
  | mk {v : V} {n : String} (h : TyX K H v (.type n)) (k : n ∈ (["NoneType", "bool", "int", "str", "list", "tuple", "dict"] : List String)) : Kd K H v n
theorem kd_str (x : Str) : Kd K H (.str x) "str" := ⟨.base (.str x), by decide⟩
theorem kd_non : Kd K H .non "NoneType" := ⟨.base .non, by decide⟩
theorem kd_int (i : Int) : Kd K H (.int i) "int" := ⟨.base (.int i), by decide⟩
theorem kd_bl (b : Bool) : Kd K H (.bl b) "bool" := ⟨.base (.bl b), by decide⟩
theorem kd_lst {a : Addr} {xs : List V} (h : H a = some (.lst xs)) : Kd K H (.ref a) "list" := ⟨.base (.lst h), by decide⟩
theorem kd_tup {a : Addr} {xs : List V} (h : H a = some (.tup xs)) : Kd K H (.ref a) "tuple" := ⟨.base (.tup h), by decide⟩
theorem kd_dK {a : Addr} {kvs : List (Key × V)} (h : H a = some (.dK kvs)) : Kd K H (.ref a) "dict" := ⟨.base (.dK h), by decide⟩
theorem tyOf_mono {v : V} {T : Value} (e : Ex H H') (h : TyOf K H v T) : TyOf K H' v T := by
  cases h with
  | non => exact .non
  | bl b => exact .bl b
  | int i => exact .int i
  | str x => exact .str x
  | flt x => exact .flt x
  | lst h => exact .lst (e _ _ h)
  | frz h => exact .frz (e _ _ h)
  | tup h => exact .tup (e _ _ h)
  | dK h => exact .dK (e _ _ h)
  | dT h => exact .dT (e _ _ h)
  | ins h a b c d f => exact .ins (e _ _ h) a b c d f
theorem tyX_mono {v : V} {T : Value} (e : Ex H H') (h : TyX K H v T) : TyX K H' v T := by
  cases h with
  | base h => exact .base (tyOf_mono e h)
  | byt b => exact .byt b
  | set h => exact .set (e _ _ h)
  | kList h c => exact .kList h c
  | kTuple h c => exact .kTuple h c
  | kDict h c => exact .kDict h c
  | fTuple h => exact .fTuple (e _ _ h)
  | fDict h => exact .fDict (e _ _ h)
theorem Kd.mono {n : String} (e : Ex H H') (h : Kd K H v n) : Kd K H' v n := by
  obtain ⟨h, k⟩ := h
  exact ⟨tyX_mono e h, k⟩
theorem kd_kit {n m : String} (h : Kd K H v n) (hm : m = "str" ∨ m = "tuple") : PySem.W.kitOne K (.type n) (.type m) = some (decide (n = m)) := by
  obtain ⟨_, k⟩ := h
  simp only [List.mem_cons, List.not_mem_nil, or_false] at k
  rcases hm with rfl | rfl <;> rcases k with rfl | rfl | rfl | rfl | rfl | rfl | rfl <;> exact kit_ty (by decide +kernel)
theorem ev_isi {n m : String} (h : Ev te σ H v) (hc : Ev tx σ H (.ty m)) (k : Kd K H v n) (hm : m = "str" ∨ m = "tuple") : Ev (tCB (rIsi K) (tCons te (tCons tx tNil))) σ H (.bl (decide (n = m))) := fun H1 e Q q =>
  h H1 e _ fun H2 e2 => hc H2 (e.trans e2) _ fun H3 e3 => by
    obtain ⟨ty, kk⟩ := id (k.mono ((e.trans e2).trans e3))
    exact ⟨v, .ty m, .type n, .type m, _, rfl, .ty m, ty, kd_kit k hm, q H3 (e2.trans e3)⟩
/-- s.split(sep) -/
theorem el_split {w s : Str} (h : Ev te σ H (.str w)) (hs : Ev tx σ H (.str s)) (h0 : (s.length == 0) = false) (hl : w.length ≤ 100000) :
    EvL (tM1 (fun x xs H Q => ∃ a b, x = .str a ∧ xs = [.str b] ∧ (b.length == 0) = false ∧ a.length + 2 ≤ sizeLine ∧ rNewStrs (Txt.split a b) H Q) te tx) σ H ((Txt.split w s).map V.str) := fun H1 e Q q =>
  h H1 e _ fun H2 e2 => ⟨⟨w, rfl⟩, hs H2 (e.trans e2) _ fun H3 e3 => ⟨w, s, rfl, rfl, h0, Nat.le_trans (Nat.add_le_add_right hl 2) (by rw [sizeLine_eq]; decide), fun p hp => q p _ (fresh_back (e2.trans e3) hp) ((e2.trans e3).trans (Ex.new hp)) upd_same⟩⟩
/-- over a list that stands, no test -/
theorem el_lcA {j : Nat} {a : Addr} {xs : List V} {tl : TE} (f : V → V) (h : Ev tl σ H (.ref a)) (hx : SqL K H a xs) (hz : xs.length ≤ 40000)
    (he : ∀ (x : V) H1, Ex H H1 → x ∈ xs → Ev te (σ.set j (some x)) H1 (f x)) : EvL (tLc (iList K tl) (gName j) tYes te [j]) σ H (xs.map f) := fun H0 e Q q => h H0 e _ fun H1 e1 => ⟨a, rfl, ⟨xs, ex_l (e.trans e1) hx⟩, fun D hD =>
  lc_it (walk_list (K := K) (a := a) (xs := xs)) (fun i G => Ex H1 G ∧ G D = some (.lst ((xs.take i).map f))) ⟨Ex.new hD, upd_same⟩ (fun i G _ p => ex_l ((e.trans e1).trans p.1) hx) (by
    rintro i v G G' hi ⟨s1, hd⟩ ⟨rfl, hl⟩
    have ee : (wipe σ [j]).set j (some v) = σ.set j (some v) := by
      show (σ.set j none).set j (some v) = _
      rw [List.set_set]
    show wipe ((wipe σ [j]).set j (some v)) [j] = wipe σ [j] ∧ _
    rw [ee]
    refine ⟨by show (σ.set j _).set j none = σ.set j none; rw [List.set_set], ?_⟩
    unfold tYes
    dsimp only
    rw [if_pos rfl]
    refine he v G' ((e.trans e1).trans s1) (List.mem_of_getElem? hl) G' (Ex.refl _) _ fun G2 e2 => ⟨_, e2 D _ hd, sz_lt ?_, (s1.trans e2).mut hD, ?_⟩
    · rw [List.length_map]
      have h3 := List.length_take_le' i xs
      omega
    · rw [upd_same, List.take_succ, hl]
      simp) (by
    rintro G ⟨s1, hd⟩
    refine q D G (fresh_back e1 hD) (e1.trans s1) ?_
    rw [hd, List.take_of_length_le (Nat.le_refl _)])⟩
theorem kd_strV {x : Str} {n : String} (h : Kd K H (.str x) n) : n = "str" := by
  obtain ⟨h, _⟩ := h
  cases h with
  | base h => cases h; rfl
theorem kd_isStr {v : V} (h : Kd K H v "str") : ∃ x, v = .str x := by
  obtain ⟨h, _⟩ := h
  generalize e : Value.type "str" = T at h
  cases h with
  | base h =>
    cases h with
    | str x => exact ⟨x, rfl⟩
    | ins => cases e
    | _ => simp at e
  | _ => simp at e
theorem kd_isTup {v : V} (h : Kd K H v "tuple") : ∃ a, v = .ref a := by
  obtain ⟨h, _⟩ := h
  generalize e : Value.type "tuple" = T at h
  cases h with
  | base h =>
    cases h with
    | tup h => exact ⟨_, rfl⟩
    | ins => cases e
    | _ => simp at e
  | kTuple h c => exact ⟨_, rfl⟩
  | fTuple h => exact ⟨_, rfl⟩
  | _ => simp at e
/-- a def as its callers see it -/
structure Cal (P : Program) (w : World) (K : PySem.W.Frag) (mg : Str → Option Value) (base : Heap) (CX : CXT) (k : Nat) (x : Str) (ps : List Str) (sp : Sp) where
  f : Addr
  fd : FuncData
  F : FnOk P w K mg base CX k f fd ps sp
  g : mg x = some (.ref f)
  kp : PySem.W.keepIn K (.ref f) = true
  b : Binds K fd ps []
end
end Be
/-! own classes: len, ==; zip of tuples in a comprehension -/
namespace Cr
open PySem PySem.Spec PyProof.Rows L2 Bk Bm Evl Be
section
variable {X : Cx} {n : Nat} {C f : Addr} {fd : FuncData} {ps : List Str} {sp : Sp}
/-- len(x), x of an own class with a __len__ -/
theorem call_lenI (F : FnOk X.prog X.w X.K X.mg X.base CX0 n f fd ps sp) (hs : PySem.W.findIn X.K (.ref C) "__len__" = some (some (.ref f))) (hf : PySem.W.isFn X.K (.ref f) = true) (hb : Binds X.K fd ps []) (hr : Room (n + 1) X.A) :
    CallR X (.builtin "len") (fun xs H Q => ∃ a dx fs, xs = [.ref a] ∧ H a = some (.ins C dx fs) ∧ sp [.ref a] H (fun v H' => ∃ i, v = .int i ∧ 0 ≤ i ∧ i < 2 ^ 63 ∧ Q (.int i) H') E0) := by
  intro pins s σ H xs us Q I r h
  obtain ⟨a, dx, fs, rfl, ha, hsp⟩ := h
  obtain ⟨u, rfl, ru⟩ := vals1 r
  cases ru
  obtain ⟨mA, J, _⟩ := ins_get I.hok ha
  obtain ⟨od, J, _⟩ := J.look
  obtain ⟨m, hF⟩ := I.fr
  refine PySem.W.len_K hF I.ok.mod.kin J hs hf ?_
  have hl := F.len _ _ _ _ hsp
  have r2 : Vals [V.ref a] [Value.ref a] := .cons rfl .nil
  refine wpAny_call (codeAny_mono (F.run X.A.in1 X.stack s H ⟨[.ref a], []⟩ [.ref a] [.ref a] _ E0 hr.in1 I.env0.in1 (by
    have := hb s [.ref a] I.kIn (by simpa using hl)
    simpa using this) r2 hsp) fun r s' hq => ?_)
  cases r with
  | error e => exact pass0 pins σ H s e s' I hq
  | ok fl =>
    cases fl with
    | ret w =>
      obtain ⟨z, H', I', rz, i, rfl, h0, h1, q⟩ := I.after hq
      obtain ⟨t, rfl⟩ := rz
      exact ⟨⟨h0, h1⟩, .int i, H', I'.tok _, ⟨_, rfl⟩, q⟩
    | next => exact False.elim hq
    | brk => exact False.elim hq
    | cont => exact False.elim hq
/-- the other side of an own == -/
inductive Oth (K : PySem.W.Frag) (C : Addr) (H : Hp) : V → Prop
  | ins {b dx : Addr} {fs : List (Str × V)} (h : H b = some (.ins C dx fs)) : Oth K C H (.ref b)
  | tup {b : Addr} {xs : List V} (h : H b = some (.tup xs)) (hn : PySem.W.notFirst K C (.type "tuple") = true) : Oth K C H (.ref b)
/-- x == y, x of an own class with an __eq__ -/
theorem op_eqI (F : FnOk X.prog X.w X.K X.mg X.base CX0 n f fd ps sp) (hs : PySem.W.findIn X.K (.ref C) "__eq__" = some (some (.ref f))) (hf : PySem.W.isFn X.K (.ref f) = true) (hb : Binds X.K fd ps []) (hr : Room n X.A) :
    OpR X (compareOp .Eq) (fun x y H Q => ∃ a dx fs b, x = .ref a ∧ H a = some (.ins C dx fs) ∧ y = .ref b ∧ Oth X.K C H y ∧ sp [.ref a, .ref b] H (fun v H' => ∃ i, v = .bl i ∧ Q (.bl i) H') E0) := by
  intro pins s σ H x y v u Q I rx ry h
  obtain ⟨a, dx, fs, b, rfl, ha, rfl, oth, hsp⟩ := h
  cases rx
  cases ry
  obtain ⟨mA, J, _⟩ := ins_get I.hok ha
  obtain ⟨od, J, _⟩ := J.look
  obtain ⟨m, hF⟩ := I.fr
  have ty : ∃ tb, PySem.W.Looks (model X.prog X.w) s.heap (typeOf (.ref b)) tb ∧ PySem.W.notFirst X.K C tb = true := by
    cases oth with
    | ins hb' =>
      obtain ⟨mB, J', _⟩ := ins_get I.hok hb'
      obtain ⟨od', J', _⟩ := J'.look
      exact ⟨_, J'.type, by simp [PySem.W.notFirst]⟩
    | tup hb' hn =>
      obtain ⟨_, its, _, o, ho, hc, _⟩ := I.hok b _ hb'
      exact ⟨_, hc ▸ (PySem.W.Looks.ld ho).andThen .now, hn⟩
  obtain ⟨tb, hL, hn⟩ := ty
  show wpAny (model X.prog X.w) X.A (richCompare .Eq (.ref a) (.ref b)) (EP X pins σ Q) X.xe s
  refine PySem.W.cmp_K (op := .Eq) hr.units0 hF I.ok.mod.kin J hL hn hs hf ?_
  have hl := F.len _ _ _ _ hsp
  have r2 : Vals [V.ref a, V.ref b] [Value.ref a, Value.ref b] := .cons rfl (.cons rfl .nil)
  refine wpAny_call (codeAny_mono (F.run X.A X.stack s H ⟨[.ref a, .ref b], []⟩ [.ref a, .ref b] [.ref a, .ref b] _ E0 hr I.env0 (by
    have := hb s [.ref a, .ref b] I.kIn (by simpa using hl)
    simpa using this) r2 hsp) fun r s' hq => ?_)
  cases r with
  | error e => exact pass0 pins σ H s e s' I hq
  | ok fl =>
    cases fl with
    | ret w =>
      obtain ⟨z, H', I', rz, i, rfl, q⟩ := I.after hq
      cases rz
      exact ⟨.bl i, H', I', rfl, q⟩
    | next => exact False.elim hq
    | brk => exact False.elim hq
    | cont => exact False.elim hq
end
section
variable {K : PySem.W.Frag} {σ : L2.St} {H H' : Hp} {ta tb tc te tx : TE} {x y z v : V}
/-- pairs of two tuples -/
theorem walk_zipT {a b : Addr} {xs ys : List V} {n : Nat} (hn : n = min xs.length ys.length) : Walk (RZ.ItzT K a b) n (fun H => SqT K H a xs ∧ SqT K H b ys) (YPair (fun i => xs[i]?) (fun i => ys[i]?)) := by
  subst hn
  refine ⟨fun i _ hi q => ?_, fun _ q => ⟨xs, ys, q.1, q.2, by omega⟩, fun i H v H' _ q y => ?_⟩
  · have h1 : i < xs.length := by omega
    have h2 : i < ys.length := by omega
    exact ⟨xs, ys, xs[i], ys[i], q.1, q.2, by simp [h1], by simp [h2]⟩
  · obtain ⟨T, x, z, h1, h2, h3, h4, h5⟩ := y
    exact ⟨T, x, z, h1, h2, h3, h4 xs q.1, h5 ys q.2⟩
end
end Cr
namespace Bp
open PySem PySem.Spec PyProof.Rows L2 Bk Bm Evl Be Cr
def top (i : Nat) : Stmt := PySem.Challenge.pw_buildroom_k14_records_refused.main.body.getD i (.Pass ⟨0, 0, 0, 0⟩)
abbrev sLies : Stmt := top 14
abbrev sWay : Stmt := top 15
abbrev sIsName : Stmt := top 16
abbrev sIsPath : Stmt := top 17
abbrev sIsFolder : Stmt := top 18
abbrev sIsText : Stmt := top 19
abbrev sHas : Stmt := top 20
/-- the built-ins and the module's constants -/
structure Gv (mg : Str → Option Value) : Prop where
  len : mg "len" = none
  all : mg "all" = none
  any : mg "any" = none
  isi : mg "isinstance" = none
  str : mg "str" = none
  tup : mg "tuple" = none
  lst : mg "list" = none
  int : mg "int" = none
  rng : mg "range" = none
  enu : mg "enumerate" = none
  mn : ∃ t, mg "MOST_NAMES" = some (.int 3 t)
  ln : ∃ t, mg "LONGEST_NAME" = some (.int 6 t)
  lt : ∃ t, mg "LONGEST_TEXT" = some (.int 200 t)
  zip : mg "zip" = none
  srt : mg "sorted" = none
  max : mg "max" = none
  mr : ∃ t, mg "MOST_RULES" = some (.int 8 t)
  mj : ∃ t, mg "MOST_JOINED" = some (.int 4 t)
  lw : ∃ t, mg "LONGEST_WORD" = some (.int 8 t)
  mf : ∃ t, mg "MOST_FILES" = some (.int 20 t)
section
variable {σ : L2.St} {H : Hp}
theorem rv_leS {a b : Str} {k : Bool} (e : (!decide (b.cps.toList < a.cps.toList)) = k) : RV (fun x y H Q => ∃ i j, x = V.str i ∧ y = V.str j ∧ Q (.bl (!decide (j.cps.toList < i.cps.toList))) H) (.str a) (.str b) H (.bl k) := fun H1 _ Q q =>
  ⟨a, b, rfl, rfl, by rw [e]; exact q H1 (Ex.refl H1)⟩
theorem rv_gtS {a b : Str} : RV (fun x y H Q => ∃ i j, x = V.str i ∧ y = V.str j ∧ Q (.bl (decide (j.cps.toList < i.cps.toList))) H) (.str a) (.str b) H (.bl (decide (b.cps.toList < a.cps.toList))) := fun H1 _ Q q =>
  ⟨a, b, rfl, rfl, q H1 (Ex.refl H1)⟩
theorem not_lt_dec (a b : Nat) : (!decide (a < b)) = decide (b ≤ a) := by
  by_cases h : a < b
  · rw [decide_eq_true h, decide_eq_false (by omega)]; rfl
  · rw [decide_eq_false h, decide_eq_true (by omega)]; rfl
theorem le_lo {c n : Nat} : (!decide ((⟨#[c]⟩ : Str).cps.toList < (⟨#[n]⟩ : Str).cps.toList)) = decide (n ≤ c) := by
  show (!decide (([c] : List Nat) < [n])) = _
  rw [lt_one, not_lt_dec]
end
section
variable {P : Program} {w : World} {K : PySem.W.Frag} {mg : Str → Option Value} {base : Heap}
/-! ### is_name -/
def spName : Sp := fun vs H Q _ => ∃ x : Str, vs = [.str x] ∧ x.length ≤ 100000 ∧ RetV (.bl (nameB x)) H Q
theorem scName : FnScope ["word", "sign"] ["word"] (defScope sIsName) := ⟨rfl, rfl, rfl, by decide +kernel, rfl, by decide +kernel, by decide +kernel⟩
theorem ok_name {f : Addr} {fd : FuncData} (F : Fun K "is_name" "is_name" sIsName f fd) (T : Gv mg) : FnOk P w K mg base CX0 1 f fd ["word"] spName := by
  refine F.ok scName (fun vs H Q E h => ?_) (fun cdv A outer s H vs Q E hr h => ?_)
  · obtain ⟨x, rfl, _⟩ := h
    rfl
  · obtain ⟨x, rfl, hl, k⟩ := h
    obtain ⟨t1, m1⟩ := T.ln
    refine ⟨_, pss_one (ps_ret (pe_and (pe_chain op_le op_le pe_int (pe_callB call_len_str (by rfl) T.len PySem.boot_len (pa_cons (pv 0) pa_nil)) (pe_glob (v := .int 6) (by rfl) m1 ⟨_, rfl⟩))
      (pe_one (pe_callB (cr_all rfl) (by rfl) T.all boot_all (pa_cons (pe_lc (own := [("sign", 1)]) (g := gName 1) (tt := tYes) rfl scName.nd (pi_str (pv 0)) (blkOk_by (N := ["word", "sign"]) (sc := defScope sIsName) (by decide +kernel))
        (fun _ _ _ _ _ => pg_name (i := 1) scName.nd rfl (Or.inl rfl)) (fun _ _ _ _ _ => pts_nil)
        (fun _ _ _ _ _ => pe_or (pe_chain op_le_str op_le_str pe_str (pv 1) pe_str) (pe_one (pe_chain op_le_str op_le_str pe_str (pv 1) pe_str)))) pa_nil))))), ?_⟩
    refine s_ret (v := .bl (nameB x)) ?_ k
    refine ev_is (ev_and (a := decide ((1:Int) ≤ x.length) && decide ((x.length : Int) ≤ 6)) (b := (x.cps.toList.map sgnN).all id)
      (ev_chain ev_c (ev_lenS (ev_var rfl) hl) (rv_I0) (fun _ => ev_c) (fun _ => rv_I0))
      (fun hh => ev_all (ev_isL (el_lcS (fun c => .bl (sgnN c)) (ev_var rfl) ?_ fun c H1 e1 hc => ?_) ?_))) ?_
    · simp only [Bool.and_eq_true, decide_eq_true_eq] at hh
      omega
    · exact ev_orV (a := decide (97 ≤ c) && decide (c ≤ 122)) (b := decide (48 ≤ c) && decide (c ≤ 57)) (ev_chain ev_c (ev_var rfl) (rv_leS le_lo) (fun _ => ev_c) (fun _ => rv_leS le_lo)) (fun _ => ev_chain ev_c (ev_var rfl) (rv_leS le_lo) (fun _ => ev_c) (fun _ => rv_leS le_lo))
    · simp
    · have d1 : decide ((1 : Int) ≤ (x.length : Int)) = decide (1 ≤ x.length) := decide_eq_decide.mpr (by omega)
      have d2 : decide ((x.length : Int) ≤ 6) = decide (x.length ≤ 6) := decide_eq_decide.mpr (by omega)
      rw [d1, d2]
      simp [nameB, List.all_map]
/-! ### is_path -/
def spPath : Sp := fun vs H Q _ => ∃ v n, vs = [v] ∧ Kd K H v n ∧ (∀ x, v = .str x → x.length ≤ 100000) ∧ RetV (.bl (isPathV v)) H Q
theorem scPath : FnScope ["value", "names", "name"] ["value"] (defScope sIsPath) := ⟨rfl, rfl, rfl, by decide +kernel, rfl, by decide +kernel, by decide +kernel⟩
theorem ok_path {f : Addr} {fd : FuncData} (F : Fun K "is_path" "is_path" sIsPath f fd) (T : Gv mg) (cN : Cal P w K mg base CX0 1 "is_name" ["word"] spName) : FnOk P w K mg base CX0 2 f fd ["value"] (spPath (K := K)) := by
  refine F.ok scPath (fun vs H Q E h => ?_) (fun cdv A outer s H vs Q E hr h => ?_)
  · obtain ⟨x, n, rfl, _⟩ := h
    rfl
  · obtain ⟨v, n, rfl, kd, hl, k⟩ := h
    obtain ⟨t1, m1⟩ := T.mn
    refine ⟨_, pss_cons (ps_if (pt_not (pt_val (pe_callB call_isi (by rfl) T.isi boot_isinstance (pa_cons (pv 0) (pa_cons (pe_bltn (v := .ty "str") (by rfl) T.str (by decide +kernel) rfl) pa_nil))))) (pss_one (ps_ret pe_bl)) pss_nil)
      (pss_cons (ps_set (i := 1) scPath.nd rfl (Or.inl rfl) (pe_split (pv 0) pe_str))
      (pss_one (ps_ret (pe_and (pe_cmpR op_le (pe_callB call_len_seq (by rfl) T.len PySem.boot_len (pa_cons (pv 1) pa_nil)) (pe_glob (v := .int 3) (by rfl) m1 ⟨_, rfl⟩) (nomark _))
        (pe_one (pe_callB (cr_all rfl) (by rfl) T.all boot_all (pa_cons (pe_lc (own := [("name", 2)]) (g := gName 2) (tt := tYes) rfl scPath.nd (pi_list (pv 1)) (blkOk_by (N := ["value", "names", "name"]) (sc := defScope sIsPath) (by decide +kernel))
          (fun _ _ _ _ _ => pg_name (i := 2) scPath.nd rfl (Or.inl rfl)) (fun _ _ _ _ _ => pts_nil)
          (fun _ _ _ _ _ => pe_call cN.F hr rfl cN.g cN.kp cN.b .nil pass0 (pa_cons (pv 2) pa_nil))) pa_nil))))))), ?_⟩
    refine q_when (et_not (et_B (ev_isi (ev_var rfl) ev_c kd (.inl rfl)))) (fun hb H1 e1 => ?_) (fun hb H1 e1 => ?_)
    · have hn : n ≠ "str" := by simpa using hb
      refine s_ret (v := .bl (isPathV v)) (ev_is ev_c ?_) fun H2 e2 => k H2 (e1.trans e2)
      cases v with
      | str x => exact absurd (kd_strV kd) hn
      | _ => rfl
    · have hn : n = "str" := by simpa using hb
      subst hn
      obtain ⟨x, rfl⟩ := kd_isStr kd
      have hx := hl x rfl
      refine q_asgL (el_split (ev_var rfl) ev_c (by decide) hx) fun p H2 hp e2 h2 => ?_
      refine s_ret (v := .bl (pathB x)) ?_ fun H3 e3 => k H3 ((e1.trans e2).trans e3)
      refine ev_is (ev_and (a := decide (((partsOf x).length : Int) ≤ 3)) (b := ((partsOf x).map nameB).all id)
        (ev_is (ev_op (ev_len (ev_var rfl) (sq_of h2)) ev_c rv_I0) ?_)
        (fun hh => ev_all (ev_isL (el_lcA (fun y => match y with | .str z => .bl (nameB z) | _ => .non) (ev_var rfl) (sq_of h2) ?_ fun y H4 e4 hy => ?_) ?_))) ?_
      · rw [List.length_map]
        rfl
      · have h3 : ((partsOf x).length : Int) ≤ 3 := by simpa using hh
        rw [List.length_map]
        have h4 : (Txt.split x (Str.ofString "/")).length = (partsOf x).length := rfl
        omega
      · obtain ⟨z, hz, rfl⟩ := List.mem_map.mp hy
        have h5 := part_len (x := x) (p := z) hz
        exact ev_call (ea_cons (ev_var rfl) ea_nil) fun H5 e5 Q' q' E' => ⟨z, rfl, by omega, q'⟩
      · simp [partsOf]
      · have d1 : decide (((partsOf x).length : Int) ≤ 3) = decide ((partsOf x).length ≤ 3) := decide_eq_decide.mpr (by omega)
        rw [d1]
        simp [pathB, List.all_map]
/-! ### is_text -/
def spText : Sp := fun vs H Q _ => ∃ v n, vs = [v] ∧ Kd K H v n ∧ (∀ x, v = .str x → x.length ≤ 100000) ∧ RetV (.bl (isTextV v)) H Q
theorem scHas : FnScope ["value", "most", "sign"] ["value", "most"] (defScope sHas) := ⟨rfl, rfl, rfl, by decide +kernel, rfl, by decide +kernel, by decide +kernel⟩
def hasB (m : Nat) (x : Str) : Bool := decide (x.length ≤ m) && x.cps.toList.all sgnT
def hasV (m : Nat) : V → Bool
  | .str x => hasB m x
  | _ => false
def spHas : Sp := fun vs H Q _ => ∃ v n, ∃ m : Nat, vs = [v, .int (m : Int)] ∧ m ≤ 40000 ∧ Kd K H v n ∧ (∀ x, v = .str x → x.length ≤ 100000) ∧ RetV (.bl (hasV m v)) H Q
theorem ok_has {f : Addr} {fd : FuncData} (F : Fun K "has_signs" "has_signs" sHas f fd) (T : Gv mg) : FnOk P w K mg base CX0 1 f fd ["value", "most"] (spHas (K := K)) := by
  refine F.ok scHas (fun vs H Q E h => ?_) (fun cdv A outer s H vs Q E hr h => ?_)
  · obtain ⟨x, n, m, rfl, _⟩ := h
    rfl
  · obtain ⟨v, n, m, rfl, hm, kd, hl, k⟩ := h
    refine ⟨_, pss_cons (ps_if (pw_or (pt_not (pt_val (pe_callB call_isi (by rfl) T.isi boot_isinstance (pa_cons (pv 0) (pa_cons (pe_bltn (v := .ty "str") (by rfl) T.str (by decide +kernel) rfl) pa_nil)))))
        (pw_or1 (pt_cmpR op_gt (pe_callB call_len_str (by rfl) T.len PySem.boot_len (pa_cons (pv 0) pa_nil)) (pv 1) (nomark _)))).pt (pss_one (ps_ret pe_bl)) pss_nil)
      (pss_one (ps_ret (pe_callB (cr_all rfl) (by rfl) T.all boot_all (pa_cons (pe_lc (own := [("sign", 2)]) (g := gName 2) (tt := tYes) rfl scHas.nd (pi_str (pv 0)) (blkOk_by (N := ["value", "most", "sign"]) (sc := defScope sHas) (by decide +kernel))
          (fun _ _ _ _ _ => pg_name (i := 2) scHas.nd rfl (Or.inl rfl)) (fun _ _ _ _ _ => pts_nil)
          (fun _ _ _ _ _ => pe_or (pe_chain op_le_str op_le_str pe_str (pv 2) pe_str) (pe_one (pe_cmpR op_eq (pv 2) pe_str (nomark _))))) pa_nil)))), ?_⟩
    refine q_when (b := !(decide (n = "str")) || (match v with | .str x => decide ((m : Int) < x.length) | _ => false)) (et_or (et_not (et_B (ev_isi (ev_var rfl) ev_c kd (.inl rfl)))) fun hb => ?_) (fun hb H1 e1 => ?_) (fun hb H1 e1 => ?_)
    · have hn : n = "str" := by simpa using hb
      subst hn
      obtain ⟨x, rfl⟩ := kd_isStr kd
      exact et_test (ev_op (ev_lenS (ev_var rfl) (hl x rfl)) (ev_var rfl) rv_I0)
    · refine s_ret (v := .bl (hasV m v)) (ev_is ev_c ?_) fun H2 e2 => k H2 (e1.trans e2)
      cases v with
      | str x =>
        have hn := kd_strV kd
        subst hn
        have h6 : (m : Int) < x.length := by simpa using hb
        have h7 : hasB m x = false := by
          simp only [hasB, Bool.and_eq_false_iff, decide_eq_false_iff_not]
          left
          omega
        show _ = V.bl (hasB m x)
        rw [h7]
      | _ => rfl
    · have hb' := hb
      simp only [Bool.or_eq_false_iff] at hb'
      have hn : n = "str" := by simpa using hb'.1
      subst hn
      obtain ⟨x, rfl⟩ := kd_isStr kd
      have h6 : (x.length : Int) ≤ m := by simpa using hb'.2
      refine s_ret (v := .bl (hasB m x)) ?_ fun H2 e2 => k H2 (e1.trans e2)
      refine ev_is (ev_all (bs := x.cps.toList.map sgnT) (ev_isL (el_lcS (fun c => .bl (sgnT c)) (ev_var rfl) (by omega) fun c H1 e1 hc => ?_) ?_)) ?_
      · exact ev_orV (a := decide (32 ≤ c) && decide (c ≤ 126)) (b := decide (c = 10)) (ev_chain ev_c (ev_var rfl) (rv_leS le_lo) (fun _ => ev_c) (fun _ => rv_leS le_lo)) (fun _ => ev_is (ev_op (ev_var rfl) ev_c (rv_eq rfl)) (by
          congr 1
          rw [Bool.eq_iff_iff, decide_eq_true_eq, decide_eq_true_eq]
          constructor
          · intro h
            injection h with h
            have h8 : ([c] : List Nat) = [10] := congrArg (fun z : Str => z.cps.toList) h
            simpa using h8
          · rintro rfl
            rfl))
      · simp
      · simp [hasB, List.all_map]
        intro _
        omega
theorem scText : FnScope ["value"] ["value"] (defScope sIsText) := ⟨rfl, rfl, rfl, by decide +kernel, rfl, by decide +kernel, by decide +kernel⟩
theorem ok_text {f : Addr} {fd : FuncData} (F : Fun K "is_text" "is_text" sIsText f fd) (T : Gv mg) (cH : Cal P w K mg base CX0 1 "has_signs" ["value", "most"] (spHas (K := K))) : FnOk P w K mg base CX0 2 f fd ["value"] (spText (K := K)) := by
  refine F.ok scText (fun vs H Q E h => ?_) (fun cdv A outer s H vs Q E hr h => ?_)
  · obtain ⟨x, n, rfl, _⟩ := h
    rfl
  · obtain ⟨v, n, rfl, kd, hl, k⟩ := h
    obtain ⟨t1, m1⟩ := T.lt
    refine ⟨_, pss_one (ps_ret (pe_call cH.F hr (by rfl) cH.g cH.kp cH.b .nil pass0 (pa_cons (pv 0) (pa_cons (pe_glob (v := .int 200) (by rfl) m1 ⟨_, rfl⟩) pa_nil)))), ?_⟩
    refine s_ret (v := .bl (isTextV v)) (ev_call (ea_cons (ev_var rfl) (ea_cons ev_c ea_nil)) fun H1 e Q q E => ⟨v, n, 200, rfl, by decide, kd.mono e, hl, ?_⟩) k
    have z : hasV 200 v = isTextV v := by cases v <;> rfl
    rw [z]
    exact q
/-! ### is_folder -/
theorem scFolder : FnScope ["value"] ["value"] (defScope sIsFolder) := ⟨rfl, rfl, rfl, by decide +kernel, rfl, by decide +kernel, by decide +kernel⟩
/-! ### lies_within -/
def spLies : Sp := fun vs H Q _ => ∃ p f : Str, vs = [.str p, .str f] ∧ f.length ≤ 100000 ∧ RetV (.bl (within p f)) H Q
theorem scLies : FnScope ["path", "folder"] ["path", "folder"] (defScope sLies) := ⟨rfl, rfl, rfl, by decide +kernel, rfl, by decide +kernel, by decide +kernel⟩
theorem ok_lies {f : Addr} {fd : FuncData} (F : Fun K "lies_within" "lies_within" sLies f fd) : FnOk P w K mg base CX0 1 f fd ["path", "folder"] spLies := by
  refine F.ok scLies (fun vs H Q E h => ?_) (fun cdv A outer s H vs Q E hr h => ?_)
  · obtain ⟨x, n, rfl, _⟩ := h
    rfl
  · obtain ⟨p, fo, rfl, hl, k⟩ := h
    refine ⟨_, pss_one (ps_ret (pe_or (pe_cmpR op_eq (pv 1) pe_str (nomark _)) (pe_one (pe_m1 PySem.F.slot_str_startswith PySem.F.type_str_startswith mt_startswith (pv 0) (pe_op op_add_str (pv 1) pe_str))))), ?_⟩
    refine s_ret (v := .bl (within p fo)) ?_ k
    refine ev_is (ev_orV (a := decide (V.str fo = V.str (Str.ofString ""))) (b := Txt.startswith p (fo ++ Str.ofString "/")) (ev_op (ev_var rfl) ev_c (rv_eq rfl)) (fun _ =>
      fun H1 e1 Q q => ⟨_, rfl, ⟨p, rfl⟩, ev_op (r := fun x y H Q => ∃ i j, x = .str i ∧ y = .str j ∧ i.length + j.length ≤ sizeLine ∧ Q (.str (i ++ j)) H) (ev_var (v := .str fo) rfl) (ev_c (v := .str (Str.ofString "/"))) (z := .str (fo ++ Str.ofString "/"))
        (fun H2 e2 Q2 q2 => ⟨fo, _, rfl, rfl, Nat.le_trans (Nat.add_le_add_right hl 1) (by rw [sizeLine_eq]; decide), q2 H2 (Ex.refl _)⟩) H1 e1 _ fun H2 e2 => ⟨p, _, rfl, rfl, q H2 e2⟩⟩)) ?_
    simp [within]
/-! ### in_the_way -/
def way (p q : Str) : Bool := decide (p = q) || (within p q || within q p)
def spWay : Sp := fun vs H Q _ => ∃ p q : Str, vs = [.str p, .str q] ∧ p.length ≤ 100000 ∧ q.length ≤ 100000 ∧ RetV (.bl (way p q)) H Q
theorem scWay : FnScope ["one", "other"] ["one", "other"] (defScope sWay) := ⟨rfl, rfl, rfl, by decide +kernel, rfl, by decide +kernel, by decide +kernel⟩
theorem ok_way {f : Addr} {fd : FuncData} (F : Fun K "in_the_way" "in_the_way" sWay f fd) (cL : Cal P w K mg base CX0 1 "lies_within" ["path", "folder"] spLies) : FnOk P w K mg base CX0 2 f fd ["one", "other"] spWay := by
  refine F.ok scWay (fun vs H Q E h => ?_) (fun cdv A outer s H vs Q E hr h => ?_)
  · obtain ⟨x, n, rfl, _⟩ := h
    rfl
  · obtain ⟨p, q, rfl, hp, hq, k⟩ := h
    refine ⟨_, pss_one (ps_ret (pe_or (pe_cmpR op_eq (pv 0) (pv 1) (nomark _)) (pe_or (pe_call cL.F hr (by rfl) cL.g cL.kp cL.b .nil pass0 (pa_cons (pv 0) (pa_cons (pv 1) pa_nil)))
      (pe_one (pe_call cL.F hr (by rfl) cL.g cL.kp cL.b .nil pass0 (pa_cons (pv 1) (pa_cons (pv 0) pa_nil))))))), ?_⟩
    refine s_ret (v := .bl (way p q)) ?_ k
    refine ev_is (ev_orV (a := decide (V.str p = V.str q)) (b := within p q || within q p) (ev_op (ev_var rfl) (ev_var rfl) (rv_eq rfl)) (fun _ =>
      ev_orV (ev_call (ea_cons (ev_var rfl) (ea_cons (ev_var rfl) ea_nil)) fun H5 e5 Q' q' E' => ⟨p, q, rfl, hq, q'⟩) (fun _ => ev_call (ea_cons (ev_var rfl) (ea_cons (ev_var rfl) ea_nil)) fun H5 e5 Q' q' E' => ⟨q, p, rfl, hp, q'⟩))) ?_
    simp [way]
end
/-- a small value of any kind -/
inductive Sm (H : Hp) : V → Prop
  | non : Sm H .non
  | bl (b : Bool) : Sm H (.bl b)
  | int (i : Int) : Sm H (.int i)
  | str (x : Str) (h : x.length ≤ 1000) : Sm H (.str x)
  | l1 {a : Addr} (h : H a = some (.lst [.str (Str.ofString "a")])) : Sm H (.ref a)
  | t1 {a : Addr} (h : H a = some (.tup [.str (Str.ofString "a")])) : Sm H (.ref a)
  | d0 {a : Addr} (h : H a = some (.dK [])) : Sm H (.ref a)
section
variable {H H' : Hp} {K : PySem.W.Frag} {v : V}
theorem Sm.mono (e : Ex H H') (h : Sm H v) : Sm H' v := by
  cases h with
  | non => exact .non
  | bl b => exact .bl b
  | int i => exact .int i
  | str x h => exact .str x h
  | l1 h => exact .l1 (e _ _ h)
  | t1 h => exact .t1 (e _ _ h)
  | d0 h => exact .d0 (e _ _ h)
theorem Sm.kd (h : Sm H v) : ∃ n, Kd K H v n := by
  cases h with
  | non => exact ⟨_, kd_non⟩
  | bl b => exact ⟨_, kd_bl b⟩
  | int i => exact ⟨_, kd_int i⟩
  | str x h => exact ⟨_, kd_str x⟩
  | l1 h => exact ⟨_, kd_lst h⟩
  | t1 h => exact ⟨_, kd_tup h⟩
  | d0 h => exact ⟨_, kd_dK h⟩
theorem Sm.len {x : Str} (h : Sm H (.str x)) : x.length ≤ 1000 := by
  cases h with
  | str _ h => exact h
/-- v == "z", v != "z" for small values -/
theorem sh_a : SeqAt.shaped (.tuple [.str (Str.ofString "a")]) = true := by decide +kernel
theorem sh_l : SeqAt.shaped (.list [.str (Str.ofString "a")]) = true := by decide +kernel
def rEqSm (K : PySem.W.Frag) : R2 := fun x y H Q => rEq x y H Q ∨ (rEqD K x y H Q ∨ rDS false x y H Q)
def rNeSm (K : PySem.W.Frag) : R2 := fun x y H Q => rNe x y H Q ∨ (rNeD K x y H Q ∨ rDS true x y H Q)
theorem op_eqSm {X : Cx} (hu : X.A.units + 64 < cLine) : OpR X (compareOp .Eq) (rEqSm X.K) := op_or op_eq (op_or (op_eqD hu) (op_eq_ds (by omega)))
theorem op_neSm {X : Cx} (hu : X.A.units + 64 < cLine) : OpR X (compareOp .NotEq) (rNeSm X.K) := op_or op_ne (op_or (op_neD hu) (op_ne_ds (by omega)))
theorem rv_eqSm {z : Str} (h : Sm H v) (hz : SeqAt.shaped (.str z) = true) : RV (rEqSm K) v (.str z) H (.bl (decide (v = .str z))) := fun H1 e Q q => by
  have g := h.mono e
  have q1 := q H1 (Ex.refl _)
  cases g with
  | non => exact .inl ⟨rfl, q1⟩
  | bl b => exact .inl ⟨rfl, q1⟩
  | int i => exact .inl ⟨rfl, q1⟩
  | str x h => exact .inl ⟨rfl, q1⟩
  | l1 g1 => exact .inr (.inl ⟨_, _, .lst (SqL.of g1) (.cons (.str _) .nil), .str z, sh_l, hz, by simpa [PyData.eqv] using q1⟩)
  | t1 g1 => exact .inr (.inl ⟨_, _, .tup (SqT.of g1) (.cons (.str _) .nil), .str z, sh_a, hz, by simpa [PyData.eqv] using q1⟩)
  | d0 g1 => exact .inr (.inr ⟨_, _, _, rfl, rfl, g1, by simpa using q1⟩)
theorem rv_neSm {z : Str} (h : Sm H v) (hz : SeqAt.shaped (.str z) = true) : RV (rNeSm K) v (.str z) H (.bl (!decide (v = .str z))) := fun H1 e Q q => by
  have g := h.mono e
  have q1 := q H1 (Ex.refl _)
  cases g with
  | non => exact .inl ⟨rfl, q1⟩
  | bl b => exact .inl ⟨rfl, q1⟩
  | int i => exact .inl ⟨rfl, q1⟩
  | str x h => exact .inl ⟨rfl, q1⟩
  | l1 g1 => exact .inr (.inl ⟨_, _, .lst (SqL.of g1) (.cons (.str _) .nil), .str z, sh_l, hz, by simpa [PyData.eqv] using q1⟩)
  | t1 g1 => exact .inr (.inl ⟨_, _, .tup (SqT.of g1) (.cons (.str _) .nil), .str z, sh_a, hz, by simpa [PyData.eqv] using q1⟩)
  | d0 g1 => exact .inr (.inr ⟨_, _, _, rfl, rfl, g1, by simpa using q1⟩)
end
section
variable {P : Program} {w : World} {K : PySem.W.Frag} {mg : Str → Option Value} {base : Heap}
theorem spv_path {v : V} {H : Hp} (h : Sm H v) : SpV (spPath (K := K)) [v] H (.bl (isPathV v)) := fun H1 e Q q E => by
  obtain ⟨n, kd⟩ := (h.mono e).kd (K := K)
  exact ⟨v, n, rfl, kd, fun x hx => by subst hx; exact Nat.le_trans h.len (by decide), q⟩
theorem spv_text {v : V} {H : Hp} (h : Sm H v) : SpV (spText (K := K)) [v] H (.bl (isTextV v)) := fun H1 e Q q E => by
  obtain ⟨n, kd⟩ := (h.mono e).kd (K := K)
  exact ⟨v, n, rfl, kd, fun x hx => by subst hx; exact Nat.le_trans h.len (by decide), q⟩
/-! ### is_folder -/
def spFolder : Sp := fun vs H Q _ => ∃ v, vs = [v] ∧ Sm H v ∧ RetV (.bl (isFolderV v)) H Q
theorem ok_folder {f : Addr} {fd : FuncData} (F : Fun K "is_folder" "is_folder" sIsFolder f fd) (cP : Cal P w K mg base CX0 2 "is_path" ["value"] (spPath (K := K))) : FnOk P w K mg base CX0 3 f fd ["value"] spFolder := by
  refine F.ok scFolder (fun vs H Q E h => ?_) (fun cdv A outer s H vs Q E hr h => ?_)
  · obtain ⟨x, rfl, _⟩ := h
    rfl
  · obtain ⟨v, rfl, sm, k⟩ := h
    have hu : (A.deeper (envOfC "is_folder" (defScope sIsFolder) s.heap.objs.size f cdv)).units + 64 < cLine := by have := hr.un; omega
    refine ⟨_, pss_one (ps_ret (pe_or (pe_call cP.F hr (by rfl) cP.g cP.kp cP.b .nil pass0 (pa_cons (pv 0) pa_nil)) (pe_one (pe_cmpR (op_eqSm hu) (pv 0) pe_str (nomark _))))), ?_⟩
    refine s_ret (v := .bl (isFolderV v)) ?_ k
    refine ev_is (ev_orV (a := isPathV v) (b := decide (v = .str (Str.ofString ""))) (ev_call (ea_cons (ev_var rfl) ea_nil) (spv_path sm)) (fun _ => ev_op (ev_var rfl) ev_c (rv_eqSm sm (by decide +kernel)))) ?_
    cases v <;> simp [isPathV, isFolderV]
theorem ev_lenT {σ : L2.St} {H : Hp} {ta : TE} {p : Addr} {xs : List V} (ha : Ev ta σ H (.ref p)) (h : SqT K H p xs) : Ev (tCB (rLenS K) (tCons ta tNil)) σ H (.int (xs.length : Int)) := fun H1 e Q q =>
  ha H1 e _ fun H2 e2 => ⟨p, xs, rfl, Or.inr (ex_t (e.trans e2) h), q H2 e2⟩
end
end Bp
namespace Bp
open PySem PySem.Spec PyProof.Rows L2 Bk Bm Evl Be Cr
abbrev sIsWord : Stmt := top 31
abbrev sFits : Stmt := top 32
/-- a thing behind a rule's kind: no tuple, or a tuple of small values -/
inductive Th (K : PySem.W.Frag) (H : Hp) : V → Option (List V) → Prop
  | sm {v : V} {n : String} (h : Sm H v) (k : Kd K H v n) (hn : n ≠ "tuple") : Th K H v none
  | tu {a : Addr} {xs : List V} (h : H a = some (.tup xs)) (hx : ∀ x ∈ xs, Sm H x) (hl : xs.length ≤ 1000) : Th K H (.ref a) (some xs)
section
variable {K : PySem.W.Frag} {H H' : Hp} {v : V} {o : Option (List V)}
theorem Th.mono (e : Ex H H') (h : Th K H v o) : Th K H' v o := by
  cases h with
  | sm h k hn => exact .sm (h.mono e) (k.mono e) hn
  | tu h hx hl => exact .tu (e _ _ h) (fun x hh => (hx x hh).mono e) hl
theorem Th.kd (h : Th K H v o) : ∃ n, Kd K H v n ∧ ∀ x, v = .str x → x.length ≤ 1000 := by
  cases h with
  | sm h k hn => exact ⟨_, k, fun x z => by subst z; exact h.len⟩
  | tu h hx hl => exact ⟨_, kd_tup h, fun x z => by cases z⟩
/-- every small value is such a thing -/
theorem th_of (h : Sm H v) : ∃ o, Th K H v o ∧ (isPathV v = false → ∀ xs, o = some xs → xs = [.str (Str.ofString "a")]) := by
  cases h with
  | non => exact ⟨_, .sm .non kd_non (by decide), fun _ _ z => by cases z⟩
  | bl b => exact ⟨_, .sm (.bl b) (kd_bl b) (by decide), fun _ _ z => by cases z⟩
  | int i => exact ⟨_, .sm (.int i) (kd_int i) (by decide), fun _ _ z => by cases z⟩
  | str x h => exact ⟨_, .sm (.str x h) (kd_str x) (by decide), fun _ _ z => by cases z⟩
  | l1 h => exact ⟨_, .sm (.l1 h) (kd_lst h) (by decide), fun _ _ z => by cases z⟩
  | t1 h => exact ⟨_, .tu h (fun x hx => by rw [List.mem_singleton.mp hx]; exact .str _ (by decide)) (by decide), fun _ _ z => by cases z; rfl⟩
  | d0 h => exact ⟨_, .sm (.d0 h) (kd_dK h) (by decide), fun _ _ z => by cases z⟩
end
def wordB (x : Str) : Bool := textB x && ((decide (1 ≤ x.length) && decide (x.length ≤ 8)) && !decide (10 ∈ x.cps.toList))
def isWordV : V → Bool
  | .str x => wordB x
  | _ => false
def fitsV (f : Str) (v : V) (o : Option (List V)) : Bool :=
  if f = Str.ofString "path" then isPathV v else if f = Str.ofString "word" then isWordV v else if f = Str.ofString "folder" then isFolderV v
  else match o with
    | some xs => decide (xs.length ≤ 4) && xs.all isPathV
    | none => false
section
variable {P : Program} {w : World} {K : PySem.W.Frag} {mg : Str → Option Value} {base : Heap}
theorem scWord : FnScope ["value"] ["value"] (defScope sIsWord) := ⟨rfl, rfl, rfl, by decide +kernel, rfl, by decide +kernel, by decide +kernel⟩
def spWord : Sp := fun vs H Q _ => ∃ v o, vs = [v] ∧ Th K H v o ∧ RetV (.bl (isWordV v)) H Q
theorem spv_textT {v : V} {o : Option (List V)} {H : Hp} (h : Th K H v o) : SpV (spText (K := K)) [v] H (.bl (isTextV v)) := fun H1 e Q q E => by
  obtain ⟨n, kd, hl⟩ := (h.mono e).kd (K := K)
  exact ⟨v, n, rfl, kd, fun x hx => Nat.le_trans (hl x hx) (by decide), q⟩
theorem spv_pathT {v : V} {o : Option (List V)} {H : Hp} (h : Th K H v o) : SpV (spPath (K := K)) [v] H (.bl (isPathV v)) := fun H1 e Q q E => by
  obtain ⟨n, kd, hl⟩ := (h.mono e).kd (K := K)
  exact ⟨v, n, rfl, kd, fun x hx => Nat.le_trans (hl x hx) (by decide), q⟩
theorem ok_word {f : Addr} {fd : FuncData} (F : Fun K "is_word" "is_word" sIsWord f fd) (T : Gv mg) (cT : Cal P w K mg base CX0 2 "is_text" ["value"] (spText (K := K))) : FnOk P w K mg base CX0 3 f fd ["value"] (spWord (K := K)) := by
  refine F.ok scWord (fun vs H Q E h => ?_) (fun cdv A outer s H vs Q E hr h => ?_)
  · obtain ⟨x, n, rfl, _⟩ := h
    rfl
  · obtain ⟨v, o, rfl, th, k⟩ := h
    obtain ⟨t1, m1⟩ := T.lw
    refine ⟨_, pss_one (ps_ret (pe_and (pe_call cT.F hr (by rfl) cT.g cT.kp cT.b .nil pass0 (pa_cons (pv 0) pa_nil))
      (pe_and (pe_chain op_le op_le pe_int (pe_callB call_len_str (by rfl) T.len PySem.boot_len (pa_cons (pv 0) pa_nil)) (pe_glob (v := .int 8) (by rfl) m1 ⟨_, rfl⟩))
      (pe_one (pe_cmpR op_notIn_sign pe_str (pv 0) (by rfl)))))), ?_⟩
    refine s_ret (v := .bl (isWordV v)) ?_ k
    have fin : isTextV v = true → ∃ x, v = .str x ∧ x.length ≤ 1000 := by
      intro hv
      obtain ⟨n, _, hl⟩ := th.kd
      cases v with
      | str x => exact ⟨x, rfl, hl x rfl⟩
      | _ => cases hv
    refine ev_is (ev_and (a := isTextV v) (b := match v with | .str x => ((decide ((1:Int) ≤ x.length) && decide ((x.length : Int) ≤ 8)) && !decide (10 ∈ x.cps.toList)) | _ => false) (ev_call (ea_cons (ev_var rfl) ea_nil) (spv_textT th)) fun hb => ?_) ?_
    · obtain ⟨x, rfl, hl⟩ := fin hb
      refine ev_and (ev_chain ev_c (ev_lenS (ev_var rfl) (by omega)) rv_I0 (fun _ => ev_c) (fun _ => rv_I0)) fun _ => ?_
      exact ev_op (ev_c (v := .str ⟨#[10]⟩)) (ev_var rfl) fun H1 e Q q => ⟨10, x, rfl, rfl, q H1 (Ex.refl _)⟩
    · cases v with
      | str x =>
        have d1 : decide ((1 : Int) ≤ (x.length : Int)) = decide (1 ≤ x.length) := decide_eq_decide.mpr (by omega)
        have d2 : decide ((x.length : Int) ≤ 8) = decide (x.length ≤ 8) := decide_eq_decide.mpr (by omega)
        show V.bl (textB x && _) = V.bl (wordB x)
        dsimp only
        rw [d1, d2]
        rfl
      | _ => rfl
/-! ### fits -/
theorem scFits : FnScope ["form", "value", "thing"] ["form", "value"] (defScope sFits) := ⟨rfl, rfl, rfl, by decide +kernel, rfl, by decide +kernel, by decide +kernel⟩
def spFits : Sp := fun vs H Q _ => ∃ f v o, vs = [.str f, v] ∧ Th K H v o ∧ (f = Str.ofString "folder" → Sm H v) ∧ RetV (.bl (fitsV f v o)) H Q
theorem strEq {a b : Str} : decide (V.str a = V.str b) = decide (a = b) := decide_eq_decide.mpr ⟨fun h => by injection h, fun h => by rw [h]⟩
theorem ok_fits {f : Addr} {fd : FuncData} (F : Fun K "fits" "fits" sFits f fd) (T : Gv mg) (cP : Cal P w K mg base CX0 2 "is_path" ["value"] (spPath (K := K))) (cW : Cal P w K mg base CX0 3 "is_word" ["value"] (spWord (K := K)))
    (cF : Cal P w K mg base CX0 3 "is_folder" ["value"] spFolder) : FnOk P w K mg base CX0 4 f fd ["form", "value"] (spFits (K := K)) := by
  refine F.ok scFits (fun vs H Q E h => ?_) (fun cdv A outer s H vs Q E hr h => ?_)
  · obtain ⟨x, v, o, rfl, _⟩ := h
    rfl
  · obtain ⟨fo, v, o, rfl, th, hfo, k⟩ := h
    obtain ⟨t1, m1⟩ := T.mj
    have hr2 : Room 2 _ := hr.mono (by decide)
    refine ⟨_, pss_cons (ps_if (pt_cmpR op_eq (pv 0) pe_str (nomark _)) (pss_one (ps_ret (pe_call cP.F hr2 (by rfl) cP.g cP.kp cP.b .nil pass0 (pa_cons (pv 1) pa_nil)))) pss_nil)
      (pss_cons (ps_if (pt_cmpR op_eq (pv 0) pe_str (nomark _)) (pss_one (ps_ret (pe_call cW.F hr (by rfl) cW.g cW.kp cW.b .nil pass0 (pa_cons (pv 1) pa_nil)))) pss_nil)
      (pss_cons (ps_if (pt_cmpR op_eq (pv 0) pe_str (nomark _)) (pss_one (ps_ret (pe_call cF.F hr (by rfl) cF.g cF.kp cF.b .nil pass0 (pa_cons (pv 1) pa_nil)))) pss_nil)
      (pss_one (ps_ret (pe_and (pe_callB call_isi (by rfl) T.isi boot_isinstance (pa_cons (pv 1) (pa_cons (pe_bltn (v := .ty "tuple") (by rfl) T.tup (by decide +kernel) rfl) pa_nil)))
        (pe_and (pe_cmpR op_le (pe_callB call_len_seq (by rfl) T.len PySem.boot_len (pa_cons (pv 1) pa_nil)) (pe_glob (v := .int 4) (by rfl) m1 ⟨_, rfl⟩) (nomark _))
        (pe_one (pe_callB (cr_all rfl) (by rfl) T.all boot_all (pa_cons (pe_lc (own := [("thing", 2)]) (g := gName 2) (tt := tYes) rfl scFits.nd (pi_tup (pv 1)) (blkOk_by (N := ["form", "value", "thing"]) (sc := defScope sFits) (by decide +kernel))
          (fun _ _ _ _ _ => pg_name (i := 2) scFits.nd rfl (Or.inl rfl)) (fun _ _ _ _ _ => pts_nil)
          (fun _ _ _ _ _ => pe_call cP.F hr2 rfl cP.g cP.kp cP.b .nil pass0 (pa_cons (pv 2) pa_nil))) pa_nil))))))))), ?_⟩
    refine q_when (b := decide (fo = Str.ofString "path")) (et_is (et_test (ev_op (ev_var rfl) ev_c (rv_eq rfl))) strEq) (fun hb H1 e1 => ?_) (fun hb H1 e1 => ?_)
    · refine s_ret (v := .bl (fitsV fo v o)) (ev_is (ev_call (ea_cons (ev_var rfl) ea_nil) (spv_pathT (th.mono e1))) ?_) fun H2 e2 => k H2 (e1.trans e2)
      unfold fitsV
      rw [if_pos (by simpa using hb)]
    have n1 : ¬ fo = Str.ofString "path" := by simpa using hb
    clear hb
    refine q_when (b := decide (fo = Str.ofString "word")) (et_is (et_test (ev_op (ev_var rfl) ev_c (rv_eq rfl))) strEq) (fun hb H2 e2 => ?_) (fun hb H2 e2 => ?_)
    · refine s_ret (v := .bl (fitsV fo v o)) (ev_is (ev_call (z := .bl (isWordV v)) (ea_cons (ev_var rfl) ea_nil) fun H3 e3 Q' q' E' => ⟨v, o, rfl, th.mono ((e1.trans e2).trans e3), q'⟩) ?_) fun H3 e3 => k H3 ((e1.trans e2).trans e3)
      unfold fitsV
      rw [if_neg n1, if_pos (by simpa using hb)]
    have n2 : ¬ fo = Str.ofString "word" := by simpa using hb
    clear hb
    refine q_when (b := decide (fo = Str.ofString "folder")) (et_is (et_test (ev_op (ev_var rfl) ev_c (rv_eq rfl))) strEq) (fun hb H3 e3 => ?_) (fun hb H3 e3 => ?_)
    · have sm := hfo (by simpa using hb)
      refine s_ret (v := .bl (fitsV fo v o)) (ev_is (ev_call (z := .bl (isFolderV v)) (ea_cons (ev_var rfl) ea_nil) fun H4 e4 Q' q' E' => ⟨v, rfl, sm.mono (((e1.trans e2).trans e3).trans e4), q'⟩) ?_) fun H4 e4 => k H4 (((e1.trans e2).trans e3).trans e4)
      unfold fitsV
      rw [if_neg n1, if_neg n2, if_pos (by simpa using hb)]
    have n3 : ¬ fo = Str.ofString "folder" := by simpa using hb
    clear hb
    have eG := (e1.trans e2).trans e3
    refine s_ret (v := .bl (fitsV fo v o)) ?_ fun H4 e4 => k H4 (eG.trans e4)
    unfold fitsV
    rw [if_neg n1, if_neg n2, if_neg n3]
    cases th with
    | sm sm kd hn =>
      have e : decide (_ = "tuple") = false := decide_eq_false hn
      exact ev_is (ev_and (b := false) (ev_isi (ev_var rfl) ev_c (kd.mono eG) (.inr rfl)) (fun h => by rw [e] at h; cases h)) (by rw [e]; rfl)
    | @tu a xs h hx hl =>
      refine ev_is (ev_and (a := true) (b := decide ((xs.length : Int) ≤ 4) && (xs.map isPathV).all id) (ev_is (ev_isi (ev_var rfl) ev_c (kd_tup (eG _ _ h)) (.inr rfl)) rfl) fun _ => ?_) ?_
      · refine ev_and (ev_op (ev_lenT (ev_var rfl) (st_of (eG _ _ h))) ev_c rv_I0) fun _ => ev_all (ev_isL (el_lcT (fun y => .bl (isPathV y)) (ev_var rfl) (st_of (eG _ _ h)) (by omega) fun y H4 e4 hy => ?_) ?_)
        · exact ev_call (ea_cons (ev_var rfl) ea_nil) (spv_path ((hx y hy).mono (eG.trans e4)))
        · simp
      · have d1 : decide ((xs.length : Int) ≤ 4) = decide (xs.length ≤ 4) := decide_eq_decide.mpr (by omega)
        rw [d1]
        simp [List.all_map]
end
end Bp
namespace Bp
open PySem PySem.Spec PyProof.Rows L2 Bk Bm Evl Be Cr
abbrev sIsRule : Stmt := top 33
def forms : List (Str × List Str) := [(Str.ofString "join", [Str.ofString "paths"]), (Str.ofString "size", [Str.ofString "path"]), (Str.ofString "sort", [Str.ofString "path"]), (Str.ofString "pick", [Str.ofString "path", Str.ofString "word"]),
  (Str.ofString "names", [Str.ofString "folder"]), (Str.ofString "use", [Str.ofString "path"]), (Str.ofString "choose", [Str.ofString "path", Str.ofString "path", Str.ofString "path"]), (Str.ofString "need", [Str.ofString "path", Str.ofString "word"])]
def formOf (z : Str) : Option (List Str) := (forms.find? fun p => decide (p.1 = z)).map (·.2)
/-- the kinds that are asked for -/
def kinds9 : List Str := Str.ofString "Size" :: forms.map (·.1)
/-- the module's dict of forms -/
structure Fms (K : PySem.W.Frag) (w : World) (mg : Str → Option Value) (D : Addr) (es : Array DictEntry) (n : Nat) : Prop where
  g : mg "FORMS" = some (.ref D)
  d : KDict K w D es n
  at_ : ∀ z ∈ kinds9, match formOf z with
    | some fs => ∃ t, PySem.W.nsIn K D z = some (some (.ref t)) ∧ ∀ H, SqT K H t (fs.map V.str)
    | none => PySem.W.nsIn K D z = some none
/-- what is_rule says of a thing -/
def ruleB (x0 x1 : V) (rest : List V) (os : List (Option (List V))) : Bool := isPathV x0 && match x1 with
  | .str z => (match formOf z with
    | some fs => decide (rest.length = fs.length) && (fs.zip (rest.zip os)).all fun p => fitsV p.1 p.2.1 p.2.2
    | none => false)
  | _ => false
inductive Ru (K : PySem.W.Frag) (H : Hp) : V → Bool → Prop
  | no {v : V} {n : String} (k : Kd K H v n) (h : n ≠ "tuple") : Ru K H v false
  | short {a : Addr} {xs : List V} (h : H a = some (.tup xs)) (hl : xs.length < 2) : Ru K H (.ref a) false
  | long {a : Addr} {x0 x1 : V} {rest : List V} {os : List (Option (List V))} (h : H a = some (.tup (x0 :: x1 :: rest))) (h0 : Sm H x0) (h1 : Sm H x1) (hk : ∀ z, x1 = .str z → z ∈ kinds9)
      (hr : Paired (Th K H) rest os) (hl : rest.length ≤ 100) (hf : x1 = .str (Str.ofString "names") → ∀ x ∈ rest, Sm H x) : Ru K H (.ref a) (ruleB x0 x1 rest os)
theorem pr_mono {α β : Type} {F G : α → β → Prop} {l : List α} {m : List β} (h : Paired F l m) (f : ∀ a b, F a b → G a b) : Paired G l m := by
  induction h with
  | nil => exact .nil
  | cons r _ ih => exact .cons (f _ _ r) ih
theorem pr_len {α β : Type} {F : α → β → Prop} {l : List α} {m : List β} (h : Paired F l m) : l.length = m.length := by
  induction h with
  | nil => rfl
  | cons r _ ih => simp [ih]
theorem pr_get {α β : Type} {F : α → β → Prop} {l : List α} {m : List β} (h : Paired F l m) : ∀ {i : Nat} {x : α}, l[i]? = some x → ∃ y, m[i]? = some y ∧ F x y := by
  induction h with
  | nil => intro i x e; simp at e
  | cons r _ ih =>
    intro i x e
    cases i with
    | zero =>
      have e' := Option.some.inj e
      subst e'
      exact ⟨_, rfl, r⟩
    | succ i => exact ih (i := i) e
theorem pr_app {α β : Type} {F : α → β → Prop} {l l' : List α} {m m' : List β} (h : Paired F l m) (h' : Paired F l' m') : Paired F (l ++ l') (m ++ m') := by
  induction h with
  | nil => exact h'
  | cons r _ ih => exact .cons r ih
theorem pr_take {α β : Type} {F : α → β → Prop} {l : List α} {m : List β} (h : Paired F l m) : ∀ n, Paired F (l.take n) (m.take n) := by
  induction h with
  | nil => intro n; simp; exact .nil
  | cons r _ ih =>
    intro n
    cases n with
    | zero => exact .nil
    | succ n => exact .cons r (ih n)
theorem pr_drop {α β : Type} {F : α → β → Prop} {l : List α} {m : List β} (h : Paired F l m) : ∀ n, Paired F (l.drop n) (m.drop n) := by
  induction h with
  | nil => intro n; simp; exact .nil
  | cons r h ih =>
    intro n
    cases n with
    | zero => exact .cons r h
    | succ n => exact ih n
theorem pr_mem {α β : Type} {F : α → β → Prop} {l : List α} {m : List β} (h : Paired F l m) {x : α} (hx : x ∈ l) : ∃ y ∈ m, F x y := by
  induction h with
  | nil => cases hx
  | cons r _ ih =>
    rcases List.mem_cons.mp hx with rfl | hx
    · exact ⟨_, List.mem_cons_self, r⟩
    · obtain ⟨y, hy, q⟩ := ih hx
      exact ⟨y, List.mem_cons_of_mem _ hy, q⟩
theorem Ru.mono {K : PySem.W.Frag} {H H' : Hp} {v : V} {b : Bool} (e : Ex H H') (h : Ru K H v b) : Ru K H' v b := by
  cases h with
  | no k h => exact .no (k.mono e) h
  | short h hl => exact .short (e _ _ h) hl
  | long h h0 h1 hk hr hl hf => exact .long (e _ _ h) (h0.mono e) (h1.mono e) hk (pr_mono hr fun _ _ z => z.mono e) hl fun z x hx => (hf z x hx).mono e
section
variable {σ : L2.St} {H : Hp} {K : PySem.W.Frag}
/-- xs[i:] of a tuple -/
theorem slice_from {te ti : TE} {a : Addr} {xs : List V} {i : Nat} (h : Ev te σ H (.ref a)) (hi : Ev ti σ H (.int (i : Int))) (hx : SqT K H a xs) (hl : i ≤ xs.length) :
    ∀ H1, Ex H H1 → ∀ Q : VK, (∀ p H2, Ex H1 H2 → SqT K H2 p (xs.drop i) → Q (.ref p) H2) → tSl (rSlA K) te (tPart ti) tNoPart σ H1 Q := fun H1 e Q q =>
  h H1 e _ fun H2 e2 => hi H2 (e.trans e2) _ fun H3 e3 => ⟨(i : Int), rfl, a, xs, rfl, ex_t ((e.trans e2).trans e3) hx, by
    have c1 : HT.sIx xs.length 0 (some (i : Int)) = i := by rw [HT.sIx_nat]; omega
    have c2 : HT.sIx xs.length xs.length none = xs.length := HT.sIx_none _ _
    have c3 : cutV xs (some (i : Int)) none = xs.drop i := by
      unfold cutV
      rw [c1, c2]
      exact List.take_of_length_le (by rw [List.length_drop]; omega)
    rw [c1, c2]
    refine ⟨fun z => ?_, fun z p hp => ?_⟩
    · have z2 : xs.drop i = xs := by rw [z.1]; rfl
      refine q a H3 (e2.trans e3) ?_
      rw [z2]
      exact ex_t ((e.trans e2).trans e3) hx
    · refine q p _ ((e2.trans e3).trans (Ex.new hp)) ?_
      rw [c3]
      exact st_of upd_same⟩
/-- [.. for x, y in zip(a tuple, a tuple)] -/
theorem el_lcZ {te : TE} {ta : TA} {a b : Addr} {xs ys bs : List V} {v0 v1 v2 : Option V} (h : EvA ta [v0, v1, v2, none, none] H [.ref a, .ref b]) (hx : SqT K H a xs) (hy : SqT K H b ys) (hl : xs.length = ys.length) (hz : xs.length ≤ 40000) (hb : bs.length = xs.length)
    (he : ∀ (i : Nat) (x y z : V) (H1 : Hp), Ex H H1 → xs[i]? = some x → ys[i]? = some y → bs[i]? = some z → Ev te [v0, v1, v2, some x, some y] H1 z) :
    EvL (tLc (RZ.iZipA K ta) (gTup K 2 (gCons (gName 3) (gCons (gName 4) gNil))) tYes te [3, 4]) [v0, v1, v2, none, none] H bs := fun H0 e Q q => h H0 e _ fun H1 e1 =>
  ⟨a, b, xs, ys, rfl, .inr ⟨ex_t (e.trans e1) hx, ex_t (e.trans e1) hy, fun D hD =>
    lc_it (walk_zipT (K := K) (a := a) (b := b) (xs := xs) (ys := ys) (n := xs.length) (by omega)) (fun i G => Ex H1 G ∧ G D = some (.lst (bs.take i))) ⟨Ex.new hD, upd_same⟩
      (fun i G _ p => ⟨ex_t ((e.trans e1).trans p.1) hx, ex_t ((e.trans e1).trans p.1) hy⟩) (by
      rintro i v G G' hi ⟨s1, hd⟩ ⟨T, x, y, rfl, hT, rfl, h1, h2⟩
      have e2 := Ex.new (o := .tup [x, y]) hT
      have hib : i < bs.length := by omega
      have h3 : bs[i]? = some bs[i] := List.getElem?_eq_getElem hib
      refine ⟨T, [x, y], rfl, SqT.of upd_same, rfl, x, [y], rfl, y, [], rfl, rfl, ?_⟩
      refine ⟨rfl, ?_⟩
      unfold tYes
      dsimp only
      rw [if_pos rfl]
      have nT : T ≠ D := (ne_of_none hd hT).symm
      refine he i x y bs[i] _ ((e.trans e1).trans (s1.trans e2)) h1 h2 h3 _ (Ex.refl _) _ fun G2 e3 => ⟨_, e3 D _ (e2 D _ hd), sz_lt ?_, ((s1.trans e2).trans e3).mut hD, ?_⟩
      · have h3 := List.length_take_le' i bs
        omega
      · rw [upd_same, List.take_succ, h3]
        rfl) (by
      rintro G ⟨s1, hd⟩
      refine q D G (fresh_back e1 hD) (e1.trans s1) ?_
      rw [hd, List.take_of_length_le (by omega)])⟩⟩
end
section
variable {P : Program} {w : World} {K : PySem.W.Frag} {mg : Str → Option Value} {base : Heap}
theorem scRule : FnScope ["value", "kind", "things", "form", "thing"] ["value"] (defScope sIsRule) := ⟨rfl, rfl, rfl, by decide +kernel, rfl, by decide +kernel, by decide +kernel⟩
def spRule : Sp := fun vs H Q _ => ∃ v b, vs = [v] ∧ Ru K H v b ∧ RetV (.bl b) H Q
theorem form_kind : ∀ z ∈ kinds9, ∀ fs, formOf z = some fs → fs.length ≤ 3 ∧ (Str.ofString "folder" ∈ fs → z = Str.ofString "names") := by decide +kernel
theorem ok_rule {f : Addr} {fd : FuncData} {D : Addr} {es : Array DictEntry} {n : Nat} (F : Fun K "is_rule" "is_rule" sIsRule f fd) (T : Gv mg) (Fm : Fms K w mg D es n) (cP : Cal P w K mg base CX0 2 "is_path" ["value"] (spPath (K := K)))
    (cF : Cal P w K mg base CX0 4 "fits" ["form", "value"] (spFits (K := K))) : FnOk P w K mg base CX0 5 f fd ["value"] (spRule (K := K)) := by
  refine F.ok scRule (fun vs H Q E h => ?_) (fun cdv A outer s H vs Q E hr h => ?_)
  · obtain ⟨x, b, rfl, _⟩ := h
    rfl
  · obtain ⟨v, b, rfl, ru, k⟩ := h
    have hr2 : Room 2 _ := hr.mono (by decide)
    refine ⟨_, pss_cons (ps_if (pw_or (pt_not (pt_val (pe_callB call_isi (by rfl) T.isi boot_isinstance (pa_cons (pv 0) (pa_cons (pe_bltn (v := .ty "tuple") (by rfl) T.tup (by decide +kernel) rfl) pa_nil)))))
        (pw_or (pt_cmpR op_lt (pe_callB call_len_seq (by rfl) T.len PySem.boot_len (pa_cons (pv 0) pa_nil)) pe_int (nomark _))
        (pw_or1 (pt_not (pt_val (pe_call cP.F hr2 (by rfl) cP.g cP.kp cP.b .nil pass0 (pa_cons (pe_ix ix_tup (pv 0) pe_int (fun _ _ => rfl)) pa_nil))))))).pt (pss_one (ps_ret pe_bl)) pss_nil)
      (pss_cons (ps_par (i := 1) (j := 2) rfl scRule.nd rfl rfl (by decide) rfl rfl (pa_cons (pe_ix ix_tup (pv 0) pe_int (fun _ _ => rfl)) (pa_cons (pe_slice sl_tupA (pv 0) (po_some pe_int) po_none) pa_nil)) (by rfl))
      (pss_cons (ps_if (pw_or (pt_not (pt_val (pe_callB call_isi (by rfl) T.isi boot_isinstance (pa_cons (pv 1) (pa_cons (pe_bltn (v := .ty "str") (by rfl) T.str (by decide +kernel) rfl) pa_nil)))))
        (pw_or (pt_cmpR (op_notIn_kd Fm.d) (pv 1) (pe_glob (v := .ref D) (by rfl) Fm.g rfl) (by rfl))
        (pw_or1 (pt_cmpR op_ne (pe_callB call_len_seq (by rfl) T.len PySem.boot_len (pa_cons (pv 2) pa_nil)) (pe_callB call_len_seq (by rfl) T.len PySem.boot_len (pa_cons (pe_ix ix_kdict (pe_glob (v := .ref D) (by rfl) Fm.g rfl) (pv 1) (fun _ _ => rfl)) pa_nil)) (nomark _))))).pt (pss_one (ps_ret pe_bl)) pss_nil)
      (pss_one (ps_ret (pe_callB (cr_all rfl) (by rfl) T.all boot_all (pa_cons (pe_lc (own := [("form", 3), ("thing", 4)]) (g := gTup K 2 (gCons (gName 3) (gCons (gName 4) gNil))) (tt := tYes) rfl scRule.nd
        (RZ.pi_zipA (by rfl) T.zip (pa_cons (pe_ix ix_kdict (pe_glob (v := .ref D) (by rfl) Fm.g rfl) (pv 1) (fun _ _ => rfl)) (pa_cons (pv 2) pa_nil))) (blkOk_by (N := ["value", "kind", "things", "form", "thing"]) (sc := defScope sIsRule) (by decide +kernel))
        (fun _ _ _ _ _ => pg_tup rfl (pgs_cons (pg_name (i := 3) scRule.nd rfl (Or.inl rfl)) (pgs_cons (pg_name (i := 4) scRule.nd rfl (Or.inl rfl)) pgs_nil))) (fun _ _ _ _ _ => pts_nil)
        (fun _ _ _ _ _ => pe_call cF.F hr rfl cF.g cF.kp cF.b .nil pass0 (pa_cons (pv 3) (pa_cons (pv 4) pa_nil)))) pa_nil)))))), ?_⟩
    cases ru with
    | no kd hn =>
      refine q_when (b := true) (et_is (et_or (b := true) (et_not (et_B (ev_isi (ev_var rfl) ev_c kd (.inr rfl)))) fun hb => ?_) ?_) (fun _ H1 e1 => ?_) (fun hb => by cases hb)
      · simp [hn] at hb
      · simp [hn]
      · exact s_ret (v := .bl false) ev_c fun H2 e2 => k H2 (e1.trans e2)
    | @short a xs h hl =>
      refine q_when (b := true) (et_is (et_or (b := true) (et_not (et_B (ev_isi (ev_var rfl) ev_c (kd_tup h) (.inr rfl)))) fun hb => ?_) (by simp)) (fun _ H1 e1 => ?_) (fun hb => by cases hb)
      · refine et_is (et_or (a := true) (b := true) (et_is (et_test (ev_op (ev_lenT (ev_var rfl) (st_of h)) ev_c rv_I0)) (by simp; omega)) fun z => by cases z) rfl
      · exact s_ret (v := .bl false) ev_c fun H2 e2 => k H2 (e1.trans e2)
    | @long a x0 x1 rest os h h0 h1 hk hr' hl hf =>
      refine q_when (b := !isPathV x0) (et_is (et_or (b := !isPathV x0) (et_not (et_B (ev_isi (ev_var rfl) ev_c (kd_tup h) (.inr rfl)))) fun hb => ?_) (by simp)) (fun hb H1 e1 => ?_) (fun hb H1 e1 => ?_)
      · refine et_is (et_or (a := false) (b := !isPathV x0) (et_is (et_test (ev_op (ev_lenT (ev_var rfl) (st_of h)) ev_c rv_I0)) (by simp; omega)) fun _ => ?_) (by simp)
        exact et_not (et_B (ev_call (ea_cons (ev_op (ev_var rfl) ev_c (rv_ixT (st_of h) (atI_nat (j := 0) rfl))) ea_nil) (spv_path h0)))
      · refine s_ret (v := .bl (ruleB x0 x1 rest os)) (ev_is ev_c ?_) fun H2 e2 => k H2 (e1.trans e2)
        have : isPathV x0 = false := by simpa using hb
        unfold ruleB
        rw [this]
        rfl
      have p0 : isPathV x0 = true := by simpa using hb
      clear hb
      refine ev_op (z := x1) (ev_var (i := 0) rfl) ev_c (rv_ixT (st_of (e1 _ _ h)) (atI_nat (j := 1) rfl)) H1 (Ex.refl _) _ fun H2 e2 => ?_
      refine slice_from (i := 2) (ev_var (i := 0) rfl) ev_c (st_of ((e1.trans e2) _ _ h)) (by simp) H2 (Ex.refl _) _ fun p H3 e3 hp => ?_
      have hp' : SqT K H3 p rest := hp
      refine ⟨_, _, rfl, ?_⟩
      have eG := (e1.trans e2).trans e3
      have hσ : (((L2.start ["value", "kind", "things", "form", "thing"] [V.ref a]).set 1 (some x1)).set 2 (some (.ref p)) : L2.St) = [some (.ref a), some x1, some (.ref p), none, none] := rfl
      rw [hσ]
      dsimp only
      obtain ⟨n1, kd1⟩ := (h1.mono eG).kd (K := K)
      have test2 : ∀ {b : Bool} {t2 : TT}, (n1 = "str" → EvT t2 ([some (.ref a), some x1, some (.ref p), none, none] : L2.St) H3 b) → EvT (tOr (tNot (tB (tCB (rIsi K) (tCons (tVar 1) (tCons (tC (.ty "str")) tNil))))) t2) ([some (.ref a), some x1, some (.ref p), none, none] : L2.St) H3 (!decide (n1 = "str") || b) :=
        fun h2 => et_or (et_not (et_B (ev_isi (ev_var rfl) ev_c kd1 (.inl rfl)))) fun hb => h2 (by simpa using hb)
      by_cases hs : n1 = "str"
      · subst hs
        obtain ⟨z, rfl⟩ := kd_isStr kd1
        have hz := hk z rfl
        have hat := Fm.at_ z hz
        cases hfo : formOf z with
        | none =>
          rw [hfo] at hat
          refine q_when (b := true) (et_is (test2 (b := true) fun _ => et_is (et_or (a := true) (b := true) (et_test (ev_op (z := .bl true) (ev_var rfl) ev_c fun H4 e4 Q' q' => ⟨z, none, rfl, rfl, hat, q' H4 (Ex.refl _)⟩)) fun zz => by cases zz) rfl) (by simp)) (fun _ H4 e4 => ?_) (fun hb => by cases hb)
          refine s_ret (v := .bl (ruleB x0 (.str z) rest os)) (ev_is ev_c ?_) fun H5 e5 => k H5 ((eG.trans e4).trans e5)
          unfold ruleB
          simp only [hfo]
          simp
        | some fs =>
          rw [hfo] at hat
          obtain ⟨t, ht, hT⟩ := hat
          have item : ∀ {H4 : Hp}, Ev (tOp (rIxD K w) (tC (.ref D)) (tVar 1)) ([some (.ref a), some (.str z), some (.ref p), none, none] : L2.St) H4 (.ref t) := fun {H4} => ev_op ev_c (ev_var rfl) fun H5 e5 Q' q' => ⟨D, z, .ref t, rfl, rfl, ⟨es, n, _, Fm.d.at_, Fm.d.lit, ht, rfl⟩, q' H5 (Ex.refl _)⟩
          refine q_when (b := !decide (rest.length = fs.length)) (et_is (test2 (b := !decide (rest.length = fs.length)) fun _ => et_is (et_or (a := false) (b := !decide (rest.length = fs.length)) (et_test (ev_op (z := .bl false) (ev_var rfl) ev_c fun H4 e4 Q' q' => ⟨z, some (.ref t), rfl, rfl, ht, q' H4 (Ex.refl _)⟩)) fun _ => ?_) (by simp)) (by simp)) (fun hb H4 e4 => ?_) (fun hb H4 e4 => ?_)
          · refine et_is (et_test (ev_op (ev_lenT (ev_var rfl) hp') (ev_lenT item (hT _)) (rv_ne rfl))) ?_
            rw [List.length_map]
            congr 1
            exact decide_eq_decide.mpr ⟨fun h => by injection h with h; omega, fun h => by rw [h]⟩
          · refine s_ret (v := .bl (ruleB x0 (.str z) rest os)) (ev_is ev_c ?_) fun H5 e5 => k H5 ((eG.trans e4).trans e5)
            have hb' : decide (rest.length = fs.length) = false := by simpa using hb
            unfold ruleB
            simp only [hfo]
            rw [hb']
            simp
          · have hb' : rest.length = fs.length := by simpa using hb
            have hlen := pr_len hr'
            obtain ⟨f3, f4⟩ := form_kind z hz fs hfo
            refine s_ret (v := .bl (ruleB x0 (.str z) rest os)) ?_ fun H5 e5 => k H5 ((eG.trans e4).trans e5)
            refine ev_is (ev_all (bs := (fs.zip (rest.zip os)).map fun p => fitsV p.1 p.2.1 p.2.2) (el_lcZ (K := K) (xs := fs.map V.str) (ys := rest) (ea_cons item (ea_cons (ev_var rfl) ea_nil)) (hT _) (ex_t e4 hp') (by rw [List.length_map]; omega) (by rw [List.length_map]; omega) ?_ ?_)) ?_
            · simp only [List.length_map, List.length_zip]
              omega
            · intro i x y zz H5 e5 hx hy hzz
              obtain ⟨o, ho, th⟩ := pr_get hr' hy
              rw [List.getElem?_map] at hx
              cases eg : fs[i]? with
              | none => rw [eg] at hx; cases hx
              | some g =>
                rw [eg] at hx
                have ex : V.str g = x := Option.some.inj hx
                subst ex
                have ezz : zz = .bl (fitsV g y o) := by
                  have z2 : (rest.zip os)[i]? = some (y, o) := List.getElem?_zip_eq_some.mpr ⟨hy, ho⟩
                  have z3 : (fs.zip (rest.zip os))[i]? = some (g, (y, o)) := List.getElem?_zip_eq_some.mpr ⟨eg, z2⟩
                  rw [List.getElem?_map, List.getElem?_map, z3] at hzz
                  exact (Option.some.inj hzz).symm
                subst ezz
                refine ev_call (ea_cons (ev_var rfl) (ea_cons (ev_var rfl) ea_nil)) fun H6 e6 Q' q' E' => ⟨g, y, o, rfl, th.mono (((eG.trans e4).trans e5).trans e6), fun hg => ?_, q'⟩
                subst hg
                have := f4 (List.mem_of_getElem? eg)
                subst this
                exact (hf rfl y (List.mem_of_getElem? hy)).mono (((eG.trans e4).trans e5).trans e6)
            · unfold ruleB
              simp only [hfo, p0, hb', decide_true, Bool.true_and]
              simp [List.all_map]
      · refine q_when (b := true) (et_is (test2 (b := true) fun z => absurd z hs) (by simp)) (fun _ H4 e4 => ?_) (fun hb => by cases hb)
        refine s_ret (v := .bl (ruleB x0 x1 rest os)) (ev_is ev_c ?_) fun H5 e5 => k H5 ((eG.trans e4).trans e5)
        cases x1 with
        | str z => exact absurd (kd_strV kd1) hs
        | _ => simp [ruleB]
end
end Bp
namespace Bp
open PySem PySem.Spec PyProof.Rows L2 Bk Bm Evl Be Cr
abbrev vTail : List Value := [.type "ValueError", .type "Exception", .type "BaseException", .type "object"]
/-- an error class without a field, at C -/
structure Xc (K : PySem.W.Frag) (mg : Str → Option Value) (x : Str) (C : Addr) : Prop where
  g : mg x = some (.ref C)
  q : PySem.W.excIn K C vTail "ValueError.__new__" = true
  k : PySem.W.keepIn K (.ref C) = true
  b : PySem.W.subIn K (.ref C) (.type "BaseException") = some true
  t : PySem.W.typeIn K (.ref C) = some (.type "type")
section
variable {X : Cx} {C : Addr} {x : Str} {p pos : Pos}
/-- X() -/
theorem pmk_own0 (c : Xc X.K X.mg x C) (hg : Gl X x) (hdb : (x == ("__debug__" : Str)) = false := by decide) : PMk X (.Call (.Name x p) [] [] pos) (fun _ H Q => Q (.ref C) none H) := by
  intro pins s σ H Q I h
  refine wpAny_Call_Name_kw (ld_glob I hg c.g ?_ hdb)
  refine PySem.W.callWith_K0 I.kIn c.k ?_
  show wpAny _ _ (call (.ref C) []) _ _ _
  obtain ⟨bm, N, nm, qn, bs, hdct, sn, sub, ab, col, dd, k0, k1, k2, k3, k5, mN, hC, hN, hni, T⟩ := exc_obj I.kIn c.q
  refine wpAny_call_exc_subT PySem.F.excBase_ValueError T hC hN hni (fun h' e hm => ?_) (by rw [sizeLine_eq]; decide)
  exact mk_of I hm (raises_own c.b c.t) h (I.hok.gone hm.new)
end
section
variable {P : Program} {w : World} {K : PySem.W.Frag} {mg : Str → Option Value} {base : Heap}
/-! ### BadTree: its __init__ -/
abbrev sBtI : Stmt := inClass (top 4) 0
theorem scBtI : FnScope ["self", "index"] ["self", "index"] (defScope sBtI) := ⟨rfl, rfl, rfl, by decide +kernel, rfl, by decide +kernel, by decide +kernel⟩
/-- an error class with a field index, at C, its __init__ at fI -/
structure Xi (K : PySem.W.Frag) (mg : Str → Option Value) (x : Str) (C fI : Addr) : Prop where
  g : mg x = some (.ref C)
  o : OexC K C
  f : XfC K C
  n : PySem.W.findIn K (.ref C) "index" = some none
  i : PySem.W.findIn K (.ref C) "__init__" = some (some (.ref fI))
  t : PySem.W.typeIn K (.ref fI) = some (.type "function")
def spXi (K : PySem.W.Frag) (C : Addr) : Sp := fun vs H Q _ => ∃ a v, vs = [.ref a, v] ∧ H a = some (exo a C none) ∧ OexC K C ∧ PySem.W.findIn K (.ref C) "index" = some none ∧
  ∀ dx, H dx = none → dx ≠ a → Q .non (upd (upd H dx (exd dx [(("index" : Str), v)])) a (exo a C (some dx)))
theorem ok_btI {f C : Addr} {fd : FuncData} {q : Str} (F : Fun K "__init__" q sBtI f fd) : FnOk P w K mg base CX0 1 f fd ["self", "index"] (spXi K C) := by
  refine F.ok scBtI (fun vs H Q E h => ?_) (fun cdv A outer s H vs Q E hr h => ?_)
  · obtain ⟨x, v, rfl, _⟩ := h
    rfl
  · obtain ⟨a, v, rfl, ha, o, n, k⟩ := h
    refine ⟨_, pss_one (ps_ost (pv 0) (pv 1)), ?_⟩
    exact ⟨_, rfl, _, rfl, a, C, rfl, o, n, .inl ⟨ha, fun dx hd hne => k dx hd hne⟩⟩
/-- BadTree(e) -/
theorem pmk_xi {X : Cx} {C fI : Addr} {fd : FuncData} {x : Str} {e : Expr} {te : TE} {p pos : Pos} {k : Nat} (c : Xi X.K X.mg x C fI) (F : FnOk X.prog X.w X.K X.mg X.base CX0 1 fI fd ["self", "index"] (spXi X.K C)) (b : Binds X.K fd ["self", "index"] [])
    (hr : Room k X.A) (hk : 2 ≤ k) (hg : Gl X x) (he : PE X e te) (hdb : (x == ("__debug__" : Str)) = false := by decide)
    (hs : starEach (e :: []) X.env = (false, eval e X.env) :: starEach [] X.env := by rfl) (hpl : (backTo pos (starEach [] X.env)).any (·.1) = false := by rfl) :
    PMk X (.Call (.Name x p) [e] [] pos) (tMkO C (spXi X.K C) [] (tCons te tNil)) :=
  pmk_oex c.o c.i c.t F (hr.mono hk) b .nil pass0 hg c.g (pa_cons he pa_nil hs) hdb hs hpl
theorem xi_make {C fI : Addr} {x : Str} {te : TE} {σ : L2.St} {H : Hp} {v : V} {Q : XK} (c : Xi K mg x C fI) (he : Ev te σ H v) (k : ∀ d H', Ex H H' → H' d = some (.xd [(("index" : Str), v)]) → H d = none → Q (.ref C) (some d) H') : tMkO C (spXi K C) [] (tCons te tNil) σ H Q :=
  he H (Ex.refl _) _ fun H1 e1 => ⟨by show 1 ≤ 1000; decide, fun a ha => ⟨a, v, rfl, upd_same, c.o, c.n, fun dx hd hne => by
    have hdn : H1 dx = none := by rw [upd_ne hne] at hd; exact hd
    refine ⟨rfl, dx, [(("index" : Str), v)], upd_same, ?_, hdn, ?_⟩
    · rw [upd_ne hne, upd_same]
    · refine k dx _ (e1.trans fun b o hb => ?_) upd_same (fresh_back e1 hdn)
      have nb : b ≠ a := ne_of_none hb ha
      rw [upd_ne (ne_of_none hb hdn), del_ne nb, upd_ne nb, upd_ne (ne_of_none hb hdn), upd_ne nb]
      exact hb⟩⟩
end
theorem slice_to {σ : L2.St} {H : Hp} {K : PySem.W.Frag} {te ti : TE} {a : Addr} {xs : List V} {i : Nat} (h : Ev te σ H (.ref a)) (hi : Ev ti σ H (.int (i : Int))) (hx : SqT K H a xs) (hl : i ≤ xs.length) :
    ∀ H1, Ex H H1 → ∀ Q : VK, (∀ p H2, Ex H1 H2 → SqT K H2 p (xs.take i) → Q (.ref p) H2) → tSl (rSlA K) te tNoPart (tPart ti) σ H1 Q := fun H1 e Q q =>
  h H1 e _ fun H2 e2 => hi H2 (e.trans e2) _ fun H3 e3 => ⟨(i : Int), rfl, a, xs, rfl, ex_t ((e.trans e2).trans e3) hx, by
    have c1 : HT.sIx xs.length 0 none = 0 := HT.sIx_none _ _
    have c2 : HT.sIx xs.length xs.length (some (i : Int)) = i := by rw [HT.sIx_nat]; omega
    have c3 : cutV xs none (some (i : Int)) = xs.take i := by
      unfold cutV
      rw [c1, c2]
      simp
    rw [c1, c2]
    refine ⟨fun z => ?_, fun z p hp => ?_⟩
    · have z2 : xs.take i = xs := by rw [z.2]; exact List.take_length
      refine q a H3 (e2.trans e3) ?_
      rw [z2]
      exact ex_t ((e.trans e2).trans e3) hx
    · refine q p _ ((e2.trans e3).trans (Ex.new hp)) ?_
      rw [c3]
      exact st_of upd_same⟩
abbrev sCkRules : Stmt := top 34
/-- what an item of a tuple is: a rule that makes p, or none -/
def Itr (K : PySem.W.Frag) (H : Hp) (v : V) : Option Str → Prop
  | some p => Ru K H v true ∧ (∃ a ts, v = .ref a ∧ H a = some (.tup (.str p :: ts))) ∧ p.length ≤ 1000
  | none => Ru K H v false
theorem Itr.mono {K : PySem.W.Frag} {H H' : Hp} {v : V} {o : Option Str} (e : Ex H H') (h : Itr K H v o) : Itr K H' v o := by
  cases o with
  | some p =>
    obtain ⟨h1, ⟨a, ts, h2, h3⟩, h4⟩ := h
    exact ⟨h1.mono e, ⟨a, ts, h2, e _ _ h3⟩, h4⟩
  | none => exact Ru.mono e h
theorem Itr.ru {K : PySem.W.Frag} {H : Hp} {v : V} {o : Option Str} (h : Itr K H v o) : Ru K H v o.isSome := by
  cases o with
  | some p => exact h.1
  | none => exact h
/-- the first place that is wrong -/
def fb : List Str → List (Option Str) → Option Nat
  | _, [] => none
  | acc, none :: _ => some acc.length
  | acc, some p :: r => if acc.any (way p) = true then some acc.length else fb (acc ++ [p]) r
inductive Rl (K : PySem.W.Frag) (H : Hp) : V → Option V → Prop
  | no {v : V} {n : String} (k : Kd K H v n) (h : n ≠ "tuple") : Rl K H v (some .non)
  | big {a : Addr} {xs : List V} (h : H a = some (.tup xs)) (hl : 8 < xs.length) : Rl K H (.ref a) (some .non)
  | tup {a : Addr} {xs : List V} {os : List (Option Str)} (h : H a = some (.tup xs)) (hl : xs.length ≤ 8) (hp : Paired (Itr K H) xs os) : Rl K H (.ref a) ((fb [] os).map fun i => V.int ((i : Nat) : Int))
section
variable {P : Program} {w : World} {K : PySem.W.Frag} {mg : Str → Option Value} {base : Heap}
abbrev nCk : List Str := ["value", "index", "thing", "rule"]
theorem scCkRules : FnScope nCk ["value"] (defScope sCkRules) := ⟨rfl, rfl, rfl, by decide +kernel, rfl, by decide +kernel, by decide +kernel⟩
theorem Rl.mono {H H' : Hp} {v : V} {o : Option V} (e : Ex H H') (h : Rl K H v o) : Rl K H' v o := by
  cases h with
  | no k h => exact .no (k.mono e) h
  | big h hl => exact .big (e _ _ h) hl
  | tup h hl hp => exact .tup (e _ _ h) hl (pr_mono hp fun _ _ r => r.mono e)
/-- how BadTree comes -/
def RaiseI (C : Addr) (v : V) (H : Hp) (E : XK) : Prop := ∀ d H', Ex H H' → H' d = some (.xd [(("index" : Str), v)]) → H d = none → E (.ref C) (some d) H'
theorem RaiseI.go {C : Addr} {v : V} {H H1 : Hp} {E : XK} (h : RaiseI C v H E) (e : Ex H H1) : RaiseI C v H1 E := fun d H' e1 hd hn => h d H' (e.trans e1) hd (fresh_back e hn)
def spCkRules (C : Addr) : Sp := fun vs H Q E => ∃ v o, vs = [v] ∧ Rl K H v o ∧ (o = none → RetV .non H Q) ∧ (∀ u, o = some u → RaiseI C u H E)
/-- any([in_the_way(thing[0], rule[0]) for rule in value[:index]]) -/
theorem et_ways {H G : Hp} {a b : Addr} {xs ts : List V} {ps : List Str} {p : Str} {i : Nat} {x3 : Option V} (eG : Ex H G) (h : H a = some (.tup xs)) (hix : i ≤ xs.length) (hn : xs.length ≤ 8) (hb : G b = some (.tup (.str p :: ts))) (hp1 : p.length ≤ 1000)
    (hpf : Paired (fun v p => (∃ a ts, v = .ref a ∧ H a = some (.tup (.str p :: ts))) ∧ p.length ≤ 1000) (xs.take i) ps) :
    EvT (tB (tCB (rAny K) (tCons (tLc (iTup K (tSl (rSlA K) (tVar 0) tNoPart (tPart (tVar 1)))) (gName 3) tYes (tCall spWay [] E0 (tCons (tOp (rIxT K) (tVar 2) (tC (.int 0))) (tCons (tOp (rIxT K) (tVar 3) (tC (.int 0))) tNil))) [3]) tNil)))
      [some (.ref a), some (.int (i : Int)), some (.ref b), x3] G (ps.any (way p)) := fun H3 e3 Q q => by
  refine slice_to (i := i) (ev_var (i := 0) rfl) (ev_var (i := 1) rfl) (st_of ((eG.trans e3) _ _ h)) hix H3 (Ex.refl _) _ fun l H4 e4 hl4 => ?_
  have eH4 : Ex H H4 := (eG.trans e3).trans e4
  have big : Ev (tCB (rAny K) (tCons (tLc (iTup K (tC (.ref l))) (gName 3) tYes (tCall spWay [] E0 (tCons (tOp (rIxT K) (tVar 2) (tC (.int 0))) (tCons (tOp (rIxT K) (tVar 3) (tC (.int 0))) tNil))) [3]) tNil))
      [some (.ref a), some (.int (i : Int)), some (.ref b), x3] H4 (.bl ((ps.map (way p)).any id)) := by
    refine ev_any (ev_isL (el_lcT (j := 3) (fun v => match v with | .ref c => (match H c with | some (.tup (.str z :: _)) => .bl (way p z) | _ => .non) | _ => .non) ev_c hl4 ?_ fun x H5 e5 hx => ?_) ?_)
    · have := List.length_take_le' i xs
      omega
    · obtain ⟨z, hz, ⟨c, us, rfl, hc⟩, hzl⟩ := pr_mem hpf hx
      have hcc := (eH4.trans e5) _ _ hc
      have hbb := ((e3.trans e4).trans e5) _ _ hb
      simp only [hc]
      refine ev_call (ea_cons (ev_op (ev_var rfl) ev_c (rv_ixT (st_of hbb) (atI_nat (j := 0) rfl))) (ea_cons (ev_op (ev_var rfl) ev_c (rv_ixT (st_of hcc) (atI_nat (j := 0) rfl))) ea_nil)) fun H6 e6 Q' q' E' => ⟨p, z, rfl, by omega, by omega, q'⟩
    · have hmap : ∀ {ys : List V} {ps : List Str}, Paired (fun v p => (∃ a ts, v = .ref a ∧ H a = some (.tup (.str p :: ts))) ∧ p.length ≤ 1000) ys ps →
          ys.map (fun v => match v with | .ref c => (match H c with | some (.tup (.str z :: _)) => V.bl (way p z) | _ => .non) | _ => .non) = (ps.map (way p)).map V.bl := by
        intro ys ps h
        induction h with
        | nil => rfl
        | cons r _ ih =>
          obtain ⟨⟨c, us, rfl, hc⟩, _⟩ := r
          simp only [List.map_cons, ih, hc]
      exact hmap hpf
  have eqn : (ps.map (way p)).any id = ps.any (way p) := by simp [List.any_map]
  rw [eqn] at big
  exact big H4 (Ex.refl _) _ fun H5 e5 => ⟨_, rfl, q H5 (e4.trans e5)⟩
theorem ok_ckRules {f C fI : Addr} {fd fdI : FuncData} (F : Fun K "check_rules" "check_rules" sCkRules f fd) (T : Gv mg) (c : Xi K mg "BadRules" C fI) (FI : FnOk P w K mg base CX0 1 fI fdI ["self", "index"] (spXi K C)) (bI : Binds K fdI ["self", "index"] [])
    (cR : Cal P w K mg base CX0 5 "is_rule" ["value"] (spRule (K := K))) (cM : Cal P w K mg base CX0 2 "in_the_way" ["one", "other"] spWay) : FnOk P w K mg base (L2.CX P w) 6 f fd ["value"] (spCkRules (K := K) C) := by
  refine F.okX scCkRules (fun vs H Q E h => ?_) (fun cdv A outer s H vs Q E hr h => ?_)
  · obtain ⟨x, o, rfl, _⟩ := h
    rfl
  · obtain ⟨v, o, rfl, tr, k1, k2⟩ := h
    obtain ⟨t1, m1⟩ := T.mr
    have hr2 : Room 2 _ := hr.mono (by decide)
    refine ⟨_, pss_cons (ps_if (pw_or (pt_not (pt_val (pe_callB call_isi (by rfl) T.isi boot_isinstance (pa_cons (pv 0) (pa_cons (pe_bltn (v := .ty "tuple") (by rfl) T.tup (by decide +kernel) rfl) pa_nil)))))
        (pw_or1 (pt_cmpR op_gt (pe_callB call_len_seq (by rfl) T.len PySem.boot_len (pa_cons (pv 0) pa_nil)) (pe_glob (v := .int 8) (by rfl) m1 ⟨_, rfl⟩) (nomark _)))).pt
        (pss_one (ps_raise rfl (takes_of rfl rfl rfl rfl) (pmk_xi c FI bI hr (by decide) (by rfl) pe_non))) pss_nil)
      (pss_one (ps_for (passes_of rfl) rfl (pi_enumT (by rfl) T.enu (pa_cons (pv 0) pa_nil)) (pg_tup rfl (pgs_cons (pg_name (i := 1) scCkRules.nd rfl (Or.inl rfl)) (pgs_cons (pg_name (i := 2) scCkRules.nd rfl (Or.inr rfl)) pgs_nil)))
        (pss_one (ps_if (pw_or (pt_not (pt_val (pe_call cR.F hr (by rfl) cR.g cR.kp cR.b .nil pass0 (pa_cons (pv 2) pa_nil))))
          (pw_or1 (pt_val (pe_callB (cr_any rfl) (by rfl) T.any boot_any (pa_cons (pe_lc (own := [("rule", 3)]) (g := gName 3) (tt := tYes) rfl scCkRules.nd (pi_tup (pe_slice sl_tupA (pv 0) po_none (po_some (pv 1)))) (blkOk_by (N := nCk) (sc := defScope sCkRules) (by decide +kernel))
            (fun _ _ _ _ _ => pg_name (i := 3) scCkRules.nd rfl (Or.inl rfl)) (fun _ _ _ _ _ => pts_nil)
            (fun _ _ _ _ _ => pe_call cM.F hr2 (by rfl) cM.g cM.kp cM.b .nil pass0 (pa_cons (pe_ix (r := rIxT K) ix_tup (pv 2) pe_int (fun _ _ => rfl)) (pa_cons (pe_ix (r := rIxT K) ix_tup (pv 3) pe_int (fun _ _ => rfl)) pa_nil)))) pa_nil))))).pt
          (pss_one (ps_raise rfl (takes_of rfl rfl rfl rfl) (pmk_xi c FI bI hr (by decide) (by rfl) (pv 1)))) pss_nil)))), ?_⟩
    cases tr with
    | no kd hn =>
      refine q_when (b := true) (et_is (et_or (b := true) (et_not (et_B (ev_isi (ev_var rfl) ev_c kd (.inr rfl)))) fun hb => ?_) ?_) (fun _ H1 e1 => ?_) (fun hb => by cases hb)
      · simp [hn] at hb
      · simp [hn]
      · exact xi_make c ev_c (RaiseI.go (k2 _ rfl) e1)
    | @big a xs h hl =>
      refine q_when (b := true) (et_is (et_or (b := true) (et_not (et_B (ev_isi (ev_var rfl) ev_c (kd_tup h) (.inr rfl)))) fun hb => ?_) (by simp)) (fun _ H1 e1 => ?_) (fun hb => by cases hb)
      · exact et_is (et_test (ev_op (ev_lenT (ev_var rfl) (st_of h)) ev_c rv_I0)) (by simp; omega)
      · exact xi_make c ev_c (RaiseI.go (k2 _ rfl) e1)
    | @tup a xs os h hl hp =>
      refine q_when (b := false) (et_is (et_or (b := false) (et_not (et_B (ev_isi (ev_var rfl) ev_c (kd_tup h) (.inr rfl)))) fun hb => ?_) (by simp)) (fun hb => by cases hb) (fun _ H1 e1 => ?_)
      · exact et_is (et_test (ev_op (ev_lenT (ev_var rfl) (st_of h)) ev_c rv_I0)) (by simp; omega)
      · refine ⟨_, rfl, a, xs, rfl, st_of (e1 _ _ h), for_enumT (K := K) (a := a) (xs := xs) (fun i τ G => ∃ (u v : Option V) (fs : List Str), τ = [some (.ref a), u, v, none] ∧ Ex H G ∧ fs.length = i ∧ os.take i = fs.map some ∧ fb [] os = fb fs (os.drop i))
          ⟨none, none, [], rfl, e1, rfl, rfl, rfl⟩ (fun i τ G _ q => by obtain ⟨_, _, _, _, q, _⟩ := q; exact st_of (q _ _ h)) ?_ ?_⟩
        · rintro i x τ G T0 hi ⟨u, v, fs, rfl, eG, hfl, htk, hfb⟩ hT
          obtain ⟨o, ho, it⟩ := pr_get hp hi
          have hdr : os.drop i = o :: os.drop (i + 1) := by
            obtain ⟨hh, e⟩ := List.getElem?_eq_some_iff.mp ho
            rw [List.drop_eq_getElem_cons hh, e]
          rw [hdr] at hfb
          have e2 : Ex H (upd G T0 (.tup [.int (i : Nat), x])) := eG.trans (Ex.new hT)
          have hix : i ≤ xs.length := Nat.le_of_lt (List.getElem?_eq_some_iff.mp hi).1
          have hpf : Paired (fun v p => (∃ a ts, v = .ref a ∧ H a = some (.tup (.str p :: ts))) ∧ p.length ≤ 1000) (xs.take i) fs := by
            have h1 := pr_take hp i
            rw [htk] at h1
            have gen : ∀ {ys : List V} {gs : List Str}, Paired (Itr K H) ys (gs.map some) → Paired (fun v p => (∃ a ts, v = .ref a ∧ H a = some (.tup (.str p :: ts))) ∧ p.length ≤ 1000) ys gs := by
              intro ys gs
              induction gs generalizing ys with
              | nil => intro h; cases h; exact .nil
              | cons g r ih =>
                intro h
                cases h with
                | cons r1 r2 => exact .cons r1.2 (ih r2)
            exact gen h1
          refine ⟨T0, _, rfl, SqT.of upd_same, rfl, _, _, rfl, _, _, rfl, rfl, ?_⟩
          show tIfS _ _ tNext _ ([some (.ref a), some (.int (i : Int)), some x, none] : L2.St) _
          have call1 : EvT (tNot (tB (tCall (spRule (K := K)) [] E0 (tCons (tVar 2) tNil)))) ([some (.ref a), some (.int (i : Int)), some x, none] : L2.St) (upd G T0 (.tup [.int (i : Nat), x])) (!(o.isSome)) :=
            et_not (et_B (ev_call (ea_cons (ev_var rfl) ea_nil) fun H3 e3 Q' q' E' => ⟨x, _, rfl, (it.mono (e2.trans e3)).ru, q'⟩))
          refine s_when (b := !(o.isSome) || (match o with | some p => fs.any (way p) | none => false)) (et_or call1 fun hb => ?_) (fun hb H3 e3 => ?_) (fun hb H3 e3 => ?_)
          · cases o with
            | none => simp at hb
            | some p =>
              obtain ⟨_, ⟨b, ts, rfl, hbb⟩, hpl⟩ := it
              exact et_ways e2 h hix hl (e2 _ _ hbb) hpl hpf
          · have hbad : fb [] os = some i := by
              rw [hfb]
              cases o with
              | none => show some fs.length = some i; rw [hfl]
              | some p =>
                have hn : fs.any (way p) = true := by simpa using hb
                show (if fs.any (way p) = true then some fs.length else _) = some i
                rw [if_pos hn, hfl]
            exact xi_make c (ev_var rfl) (RaiseI.go (k2 _ (by rw [hbad]; rfl)) (e2.trans e3))
          · cases o with
            | none => simp at hb
            | some p =>
              have hn : fs.any (way p) = false := by simpa using hb
              refine ⟨_, _, fs ++ [p], rfl, e2.trans e3, by simp [hfl], ?_, ?_⟩
              · rw [List.take_succ, htk, ho]
                simp
              · rw [hfb]
                show (if fs.any (way p) = true then some fs.length else _) = _
                rw [if_neg (by rw [hn]; decide)]
        · rintro τ G ⟨u, v, fs, rfl, eG, hfl, htk, hfb⟩
          have hlen := pr_len hp
          have hn : fb [] os = none := by
            rw [hfb, hlen, List.drop_length]
            rfl
          exact k1 (by rw [hn]; rfl) G eG
end
end Bp
namespace Bp
open PySem PySem.Spec PyProof.Rows L2 Bk Bm Evl Be Cr
abbrev sInit : Stmt := inClass (top 29) 0
abbrev sGet : Stmt := inClass (top 29) 1
abbrev sLen : Stmt := inClass (top 29) 2
abbrev sEq : Stmt := inClass (top 29) 3

abbrev sCkBook : Stmt := top 35
abbrev kR : Str := "_rules"
/-- the class Book, at C -/
structure Bks (K : PySem.W.Frag) (mg : Str → Option Value) (C fI pR fG fL fE : Addr) : Prop where
  g : mg "Book" = some (.ref C)
  cls : Cls K C
  mkr : Mk K C fI
  na : NoAttr K C kR
  prop : PropOf K C "rules" pR fG
  len : PySem.W.findIn K (.ref C) "__len__" = some (some (.ref fL))
  lenF : PySem.W.isFn K (.ref fL) = true
  eq : PySem.W.findIn K (.ref C) "__eq__" = some (some (.ref fE))
  eqF : PySem.W.isFn K (.ref fE) = true
  nf : PySem.W.notFirst K C (.type "tuple") = true
  ha : PySem.W.findIn K (.ref C) "__class__" = some (some (.builtin "object.__class__"))
  hn : PySem.W.specialIn K (.builtin "object.__class__") "__get__" = some (some (.builtin "getset_descriptor.__get__"))
  htk : PySem.W.takesIn K (.builtin "object.__class__") = some true
  hm : PySem.W.mroIn K C (.type "object") = some true
  kt : PySem.W.kitOne K (.type "tuple") (.ref C) = some false
/-- a book of the rules v stands at a -/
def BkAt (H : Hp) (C a : Addr) (v : V) : Prop := ∃ dx, H a = some (.ins C dx [(kR, v)])
theorem BkAt.mono {H H' : Hp} {C a : Addr} {v : V} (e : Ex H H') (h : BkAt H C a v) : BkAt H' C a v := by
  obtain ⟨dx, h⟩ := h
  exact ⟨dx, e _ _ h⟩
section
variable {P : Program} {w : World} {K : PySem.W.Frag} {mg : Str → Option Value} {base : Heap} {C fI pR fG fL fE : Addr}
/-! ### __init__ -/
def spInit (C Cx : Addr) : Sp := fun vs H Q E => ∃ x dx v o, vs = [.ref x, v] ∧ H x = some (.ins C dx []) ∧ Rl K H v o ∧ (o = none → ∀ H1, Ex H H1 → Q .non (upd H1 x (.ins C dx [(kR, v)]))) ∧ (∀ u, o = some u → RaiseI Cx u H E)
theorem scInit : FnScope ["self", "rules"] ["self", "rules"] (defScope sInit) := ⟨rfl, rfl, rfl, by decide +kernel, rfl, by decide +kernel, by decide +kernel⟩
/-- what is let out of a body as it comes -/
theorem lets {X : Cx} {E : XK} (tk : Takes X (fun cls d _ H => E cls d H)) : Passes (L2.CX X.prog X.w) X E := passes_call tk fun _ _ _ _ h => h
theorem ok_init {f Cx : Addr} {fd : FuncData} {q : Str} (F : Fun K "__init__" q sInit f fd) (B : Bks K mg C fI pR fG fL fE) (cK : Cal P w K mg base (L2.CX P w) 6 "check_rules" ["value"] (spCkRules (K := K) Cx)) :
    FnOk P w K mg base (L2.CX P w) 7 f fd ["self", "rules"] (spInit (K := K) C Cx) := by
  refine F.okX scInit (fun vs H Q E h => ?_) (fun cdv A outer s H vs Q E hr h => ?_)
  · obtain ⟨x, dx, v, o, rfl, _⟩ := h
    rfl
  · obtain ⟨x, dx, v, o, rfl, hx, rl, k1, k2⟩ := h
    refine ⟨_, pss_cons (ps_expr (pe_call cK.F hr (by rfl) cK.g cK.kp cK.b .nil (lets (takes_of rfl rfl rfl rfl)) (pa_cons (pv 1) pa_nil)))
      (pss_one (ps_fld (pv 0) (pv 1) (by rfl))), ?_⟩
    refine ⟨_, rfl, v, o, rfl, rl, fun ho H1 e1 => ?_, fun u hu => k2 u hu⟩
    exact ⟨_, rfl, _, rfl, x, C, dx, [], rfl, e1 _ _ hx, B.cls, B.na, by decide, k1 ho H1 e1⟩
/-! ### the property, len -/
def spGet (C : Addr) : Sp := fun vs H Q _ => ∃ a v, vs = [.ref a] ∧ BkAt H C a v ∧ RetV v H Q
theorem scGet : FnScope ["self"] ["self"] (defScope sGet) := ⟨rfl, rfl, rfl, by decide +kernel, rfl, by decide +kernel, by decide +kernel⟩
theorem ev_fld {σ : L2.St} {H : Hp} {te : TE} {a : Addr} {v : V} (B : Bks K mg C fI pR fG fL fE) (h : Ev te σ H (.ref a)) (b : BkAt H C a v) : Ev (tFld K te kR) σ H v := fun H1 e Q q => h H1 e _ fun H2 e2 => by
  obtain ⟨dx, hb⟩ := b.mono (e.trans e2)
  exact ⟨a, C, dx, _, v, rfl, hb, B.cls, B.na, rfl, q H2 e2⟩
theorem ok_get {f : Addr} {fd : FuncData} {q : Str} (F : Fun K "rules" q sGet f fd) (B : Bks K mg C fI pR fG fL fE) : FnOk P w K mg base CX0 1 f fd ["self"] (spGet C) := by
  refine F.ok scGet (fun vs H Q E h => ?_) (fun cdv A outer s H vs Q E hr h => ?_)
  · obtain ⟨a, v, rfl, _⟩ := h
    rfl
  · obtain ⟨a, v, rfl, b, k⟩ := h
    refine ⟨_, pss_one (ps_ret (pe_fld (pv 0) (by rfl))), ?_⟩
    exact s_ret (ev_fld B (ev_var rfl) b) k
def spLen (C : Addr) : Sp := fun vs H Q _ => ∃ a t xs, vs = [.ref a] ∧ BkAt H C a (.ref t) ∧ SqT K H t xs ∧ RetV (.int (xs.length : Int)) H Q
theorem scLen : FnScope ["self"] ["self"] (defScope sLen) := ⟨rfl, rfl, rfl, by decide +kernel, rfl, by decide +kernel, by decide +kernel⟩
theorem ok_len {f : Addr} {fd : FuncData} {q : Str} (F : Fun K "__len__" q sLen f fd) (T : Gv mg) (B : Bks K mg C fI pR fG fL fE) : FnOk P w K mg base CX0 1 f fd ["self"] (spLen (K := K) C) := by
  refine F.ok scLen (fun vs H Q E h => ?_) (fun cdv A outer s H vs Q E hr h => ?_)
  · obtain ⟨a, t, xs, rfl, _⟩ := h
    rfl
  · obtain ⟨a, t, xs, rfl, b, hx, k⟩ := h
    refine ⟨_, pss_one (ps_ret (pe_callB call_len_seq (by rfl) T.len PySem.boot_len (pa_cons (pe_fld (pv 0) (by rfl)) pa_nil))), ?_⟩
    exact s_ret (ev_lenT (ev_fld B (ev_var rfl) b) hx) k
/-! ### == -/
def spEqB (C : Addr) : Sp := fun vs H Q _ => ∃ a b v, vs = [.ref a, .ref b] ∧ BkAt H C a v ∧
  ((∃ xs, H b = some (.tup xs) ∧ RetV (.bl false) H Q) ∨ ∃ u d e, BkAt H C b u ∧ (∀ G, Ex H G → Dp K G v d ∧ Dp K G u e) ∧ SeqAt.shaped d = true ∧ SeqAt.shaped e = true ∧ RetV (.bl (PyData.eqv d e)) H Q)
theorem scEq : FnScope ["self", "other"] ["self", "other"] (defScope sEq) := ⟨rfl, rfl, rfl, by decide +kernel, rfl, by decide +kernel, by decide +kernel⟩
theorem ty_bk {H : Hp} {a : Addr} {v : V} (B : Bks K mg C fI pR fG fL fE) (b : BkAt H C a v) : TyX K H (.ref a) (.ref C) := by
  obtain ⟨dx, h⟩ := b
  exact .base (.ins h B.cls B.ha B.hn B.htk B.hm)
theorem kt_self : PySem.W.kitOne K (.ref C) (.ref C) = some true := by
  unfold PySem.W.kitOne
  rw [if_pos (by simp)]
theorem ev_isB {σ : L2.St} {H : Hp} {te tx : TE} {a : Addr} {v : V} (B : Bks K mg C fI pR fG fL fE) (h : Ev te σ H (.ref a)) (hc : Ev tx σ H (.ref C)) (b : BkAt H C a v) : Ev (tCB (rIsi K) (tCons te (tCons tx tNil))) σ H (.bl true) := fun H1 e Q q =>
  h H1 e _ fun H2 e2 => hc H2 (e.trans e2) _ fun H3 e3 => ⟨.ref a, .ref C, .ref C, .ref C, true, rfl, .own C, ty_bk B (b.mono ((e.trans e2).trans e3)), kt_self, q H3 (e2.trans e3)⟩
theorem ok_eqB {f : Addr} {fd : FuncData} {q : Str} (F : Fun K "__eq__" q sEq f fd) (T : Gv mg) (B : Bks K mg C fI pR fG fL fE) : FnOk P w K mg base CX0 1 f fd ["self", "other"] (spEqB (K := K) C) := by
  refine F.ok scEq (fun vs H Q E h => ?_) (fun cdv A outer s H vs Q E hr h => ?_)
  · obtain ⟨a, b, v, rfl, _⟩ := h
    rfl
  · obtain ⟨a, b, v, rfl, ba, h⟩ := h
    have hu : (A.deeper (envOfC q (defScope sEq) s.heap.objs.size f cdv)).units + 64 < cLine := by have := hr.un; omega
    refine ⟨_, pss_one (ps_ret (pe_and (pe_callB call_isi (by rfl) T.isi boot_isinstance (pa_cons (pv 1) (pa_cons (pe_glob (v := .ref C) (by rfl) B.g rfl) pa_nil)))
      (pe_one (pe_cmpR (op_eqD hu) (pe_fld (pv 0) (by rfl)) (pe_fld (pv 1) (by rfl)) (nomark _))))), ?_⟩
    rcases h with ⟨xs, hb, k⟩ | ⟨u, d, e, bb, dp, s1, s2, k⟩
    · refine s_ret (v := .bl false) (ev_is (ev_and (a := false) (b := false) (fun H1 e1 Q q => ⟨_, rfl, .ref b, .ref C, .type "tuple", .ref C, false, rfl, .own C, .base (.tup (e1 _ _ hb)), B.kt, q H1 (Ex.refl _)⟩) (fun z => by cases z)) rfl) k
    · refine s_ret (v := .bl (PyData.eqv d e)) (ev_is (ev_and (a := true) (b := PyData.eqv d e) (ev_isB B (ev_var rfl) ev_c bb) fun _ => ev_op (ev_fld B (ev_var rfl) ba) (ev_fld B (ev_var rfl) bb) fun H1 e1 Q q => ?_) rfl) k
      obtain ⟨d1, d2⟩ := dp H1 e1
      exact ⟨d, e, d1, d2, s1, s2, q H1 (Ex.refl _)⟩
/-! ### check_book, made_paths -/
def spCkB (C : Addr) : Sp := fun vs H Q _ => ∃ a v, vs = [.ref a] ∧ BkAt H C a v ∧ RetV .non H Q
theorem scCkBook : FnScope ["value"] ["value"] (defScope sCkBook) := ⟨rfl, rfl, rfl, by decide +kernel, rfl, by decide +kernel, by decide +kernel⟩
theorem ok_ckBook {f : Addr} {fd : FuncData} (F : Fun K "check_book" "check_book" sCkBook f fd) (T : Gv mg) (B : Bks K mg C fI pR fG fL fE) : FnOk P w K mg base CX0 1 f fd ["value"] (spCkB C) := by
  refine F.ok scCkBook (fun vs H Q E h => ?_) (fun cdv A outer s H vs Q E hr h => ?_)
  · obtain ⟨a, v, rfl, _⟩ := h
    rfl
  · obtain ⟨a, v, rfl, b, k⟩ := h
    refine ⟨_, pss_one (ps_if (pt_not (pt_val (pe_callB call_isi (by rfl) T.isi boot_isinstance (pa_cons (pv 0) (pa_cons (pe_glob (v := .ref C) (by rfl) B.g rfl) pa_nil))))) pss_never pss_nil), ?_⟩
    refine s_if (b := false) (et_is (et_not (et_B (ev_isB B (ev_var rfl) ev_c b))) rfl) (fun z => by cases z) (fun _ H1 e1 => ?_)
    exact k H1 e1
/-- the made paths of a tuple of rules -/
def Heads (H : Hp) (xs : List V) (ps : List Str) : Prop := Paired (fun v p => ∃ a ts, v = .ref a ∧ H a = some (.tup (.str p :: ts))) xs ps
theorem Heads.mono {H H' : Hp} {xs : List V} {ps : List Str} (e : Ex H H') (h : Heads H xs ps) : Heads H' xs ps := pr_mono h fun _ _ ⟨a, ts, z, h⟩ => ⟨a, ts, z, e _ _ h⟩
def headV (H : Hp) : V → V
  | .ref c => match H c with
    | some (.tup (.str z :: _)) => .str z
    | _ => .non
  | _ => .non
theorem heads_map {H : Hp} {xs : List V} {ps : List Str} (h : Heads H xs ps) : xs.map (headV H) = ps.map V.str := by
  induction h with
  | nil => rfl
  | cons r _ ih =>
    obtain ⟨a, ts, rfl, h⟩ := r
    simp only [List.map_cons, ih, headV, h]
end
end Bp
namespace Bl
open PySem PySem.Spec PyProof.Rows L2 Bk Bm Evl Be Cr Bp
abbrev sTaken : Stmt := top 68
abbrev sOne : Stmt := top 69
/-- the script, at a: never written -/
def Sc (K : PySem.W.Frag) (H : Hp) (a : Addr) (ns : List Int) : Prop := (∃ o, H a = some (.frz o (.lst (ns.map V.int)))) ∨
  ∃ (o : Obj) (its : Array Value) (n : Nat), K.lookup a = some o ∧ o.cls = .type "list" ∧ o.dict = none ∧ o.data = .seq its n ∧ its.size ≤ sizeLine ∧ Vals (ns.map V.int) its.toList
theorem Sc.sq {K : PySem.W.Frag} {H : Hp} {a : Addr} {ns : List Int} (h : Sc K H a ns) : SqL K H a (ns.map V.int) := by
  rcases h with h | h
  · exact .inl (.inr h)
  · exact .inr h
/-- all but r stands -/
def Kp (r : Addr) (H G : Hp) : Prop := ∀ b o, b ≠ r → H b = some o → G b = some o
theorem Kp.of_ex {r : Addr} {H G : Hp} (e : Ex H G) : Kp r H G := fun b o _ h => e b o h
theorem Kp.refl (r : Addr) (H : Hp) : Kp r H H := fun _ _ _ h => h
theorem Kp.trans {r : Addr} {H G F : Hp} (a : Kp r H G) (b : Kp r G F) : Kp r H F := fun x o n h => b x o n (a x o n h)
theorem Kp.up {r : Addr} {H G : Hp} {o : HO} (a : Kp r H G) : Kp r H (upd G r o) := fun x u n h => by
  rw [upd_ne n]
  exact a x u n h
theorem Sc.keep {K : PySem.W.Frag} {H G : Hp} {r a : Addr} {ns : List Int} {xs : List V} (h : Sc K H a ns) (hr : H r = some (.lst xs)) (k : Kp r H G) : Sc K G a ns := by
  rcases h with ⟨o, h⟩ | h
  · exact .inl ⟨o, k a _ (ne_of h hr (by intro z; cases z)) h⟩
  · exact .inr h
def rowL (a : Addr) (i s z : Int) : List V := [.ref a, .int i, .int s, .int z]
/-- the row of draws stands at r -/
def Row (K : PySem.W.Frag) (H : Hp) (r : Addr) : Prop := ∃ a i s z ns, H r = some (.lst (rowL a i s z)) ∧ Sc K H a ns ∧ 0 ≤ i
structure Dr (K : PySem.W.Frag) (r : Addr) (H G : Hp) : Prop where
  kp : Kp r H G
  row : Row K G r
theorem Row.ex {K : PySem.W.Frag} {H G : Hp} {r : Addr} (h : Row K H r) (e : Ex H G) : Row K G r := by
  obtain ⟨a, i, s, z, ns, hr, sc, hi⟩ := h
  exact ⟨a, i, s, z, ns, e _ _ hr, sc.keep hr (.of_ex e), hi⟩
theorem Dr.refl {K : PySem.W.Frag} {H : Hp} {r : Addr} (h : Row K H r) : Dr K r H H := ⟨.refl r H, h⟩
theorem Dr.trans {K : PySem.W.Frag} {H G F : Hp} {r : Addr} (a : Dr K r H G) (b : Dr K r G F) : Dr K r H F := ⟨a.kp.trans b.kp, b.row⟩
theorem Dr.ex {K : PySem.W.Frag} {H G F : Hp} {r : Addr} (a : Dr K r H G) (e : Ex G F) : Dr K r H F := ⟨a.kp.trans (.of_ex e), a.row.ex e⟩
theorem Dr.pre {K : PySem.W.Frag} {H G F : Hp} {r : Addr} (e : Ex H G) (a : Dr K r G F) : Dr K r H F := ⟨(Kp.of_ex e).trans a.kp, a.row⟩
section
variable {P : Program} {w : World} {K : PySem.W.Frag} {mg : Str → Option Value} {base : Heap}
abbrev nTaken : List Str := ["_law_row", "_law_many", "_law_found", "_law_cell"]
theorem scTaken : FnScope nTaken ["_law_row", "_law_many"] (defScope sTaken) := ⟨rfl, rfl, rfl, by decide +kernel, rfl, by decide +kernel, by decide +kernel⟩
def spTaken : Sp := fun vs H Q _ => ∃ r m, vs = [.ref r, .int m] ∧ Row K H r ∧ 0 < m ∧ m < 1073741824 ∧ ∀ n G, 0 ≤ n → n < m → Dr K r H G → Q (.int n) G
theorem ev_int {σ : L2.St} {H : Hp} {te : TE} {i : Int} (h : Ev te σ H (.int i)) : Ev (tCB (fun xs H Q => (∃ i, xs = [V.int i] ∧ Q (.int i) H) ∨ ∃ k, xs = [.bl k] ∧ Q (.int (if k then 1 else 0)) H) (tCons te tNil)) σ H (.int i) := fun H1 e Q q =>
  h H1 e _ fun H2 e2 => .inl ⟨i, rfl, q H2 e2⟩
theorem rv_mod {H : Hp} {i j : Int} (h : 0 < j) : RV (rI (fun _ j => 0 < j) fun i j => .int (i % j)) (.int i) (.int j) H (.int (i % j)) := rv_I h
theorem ok_taken {f : Addr} {fd : FuncData} (F : Fun K "_law_taken" "_law_taken" sTaken f fd) (T : Gv mg) : FnOk P w K mg base CX0 1 f fd ["_law_row", "_law_many"] (spTaken (K := K)) := by
  refine F.ok scTaken (fun vs H Q E h => ?_) (fun cdv A outer s H vs Q E hr h => ?_)
  · obtain ⟨r, m, rfl, _⟩ := h
    rfl
  · obtain ⟨r, m, rfl, ⟨a, i, z2, z3, ns, hrow, sc, hi⟩, hm0, hm1, k⟩ := h
    refine ⟨_, pss_cons (ps_if (pt_cmpR op_gt (pe_ix ix_list (pv 0) pe_int (fun _ _ => rfl)) pe_int (nomark _))
        (pss_cons (ps_set (i := 2) scTaken.nd rfl (Or.inl rfl) (pe_op op_mod (pe_callTy call_int1 (by rfl) T.int (by decide +kernel) (pa_cons (pe_ix ix_list (pv 0) pe_int (fun _ _ => rfl)) pa_nil)) (pv 1)))
        (pss_cons (ps_asg (pe_op op_fdiv (pe_ix ix_list (pv 0) pe_int (fun _ _ => rfl)) (pv 1)) (pg_sub (pv 0) pe_int set_list))
        (pss_one (ps_ret (pv 2))))) pss_nil)
      (pss_cons (ps_asg (pe_op op_add (pe_ix ix_list (pv 0) pe_int (fun _ _ => rfl)) pe_int) (pg_sub (pv 0) pe_int set_list))
      (pss_cons (ps_if (pt_cmpR op_gt (pe_ix ix_list (pv 0) pe_int (fun _ _ => rfl)) (pe_callB call_len_seq (by rfl) T.len PySem.boot_len (pa_cons (pe_ix ix_list (pv 0) pe_int (fun _ _ => rfl)) pa_nil)) (nomark _))
        (pss_cons (ps_asg (pe_op op_mod (pe_callTy call_int1 (by rfl) T.int (by decide +kernel) (pa_cons (pe_op op_add (pe_op op_mul (pe_ix ix_list (pv 0) pe_int (fun _ _ => rfl)) pe_int) pe_int) pa_nil)) pe_int) (pg_sub (pv 0) pe_int set_list))
        (pss_one (ps_ret (pe_op op_mod (pe_callTy call_int1 (by rfl) T.int (by decide +kernel) (pa_cons (pe_op op_fdiv (pe_ix ix_list (pv 0) pe_int (fun _ _ => rfl)) pe_int) pa_nil)) (pv 1))))) pss_nil)
      (pss_cons (ps_set (i := 3) scTaken.nd rfl (Or.inl rfl) (pe_ix ix_list (pe_ix ix_list (pv 0) pe_int (fun _ _ => rfl)) (pe_op op_sub (pe_ix ix_list (pv 0) pe_int (fun _ _ => rfl)) pe_int) (fun _ _ => rfl)))
      (pss_cons (ps_asg (pe_op op_mod (pe_callTy call_int1 (by rfl) T.int (by decide +kernel) (pa_cons (pe_op op_add (pe_op op_add (pe_op op_mul (pe_ix ix_list (pv 0) pe_int (fun _ _ => rfl)) pe_int) (pv 3)) pe_int) pa_nil)) pe_int) (pg_sub (pv 0) pe_int set_list))
      (pss_cons (ps_if (pt_cmpR op_ge (pv 3) (pe_op op_pow pe_int pe_int) (nomark _)) (pss_one (ps_asg (pe_op op_fdiv (pv 3) (pv 1)) (pg_sub (pv 0) pe_int set_list))) pss_nil)
      (pss_one (ps_ret (pe_op op_mod (pe_callTy call_int1 (by rfl) T.int (by decide +kernel) (pa_cons (pv 3) pa_nil)) (pv 1))))))))), ?_⟩
    have ixr : ∀ {σ : L2.St} {G : Hp} {j : Int} {a' : Addr} {i' s' t' : Int} {v : V}, σ[0]? = some (some (.ref r)) → G r = some (.lst (rowL a' i' s' t')) → atI (rowL a' i' s' t') j = some v → Ev (tOp (rIxL K) (tVar 0) (tC (.int j))) σ G v :=
      fun h1 h2 h3 => ev_op (ev_var h1) ev_c (rv_ixL (sq_of h2) h3)
    refine q_when (b := decide (0 < z3)) (et_test (ev_op (ixr rfl hrow rfl) ev_c rv_I0)) (fun hb H1 e1 => ?_) (fun hb H1 e1 => ?_)
    · -- the rest of a great cell
      refine q_asg (ev_op (ev_int (ixr rfl (e1 _ _ hrow) rfl)) (ev_var rfl) (rv_mod hm0)) fun H2 e2 => ?_
      refine q_setL (j := 3) ((e1.trans e2) _ _ hrow) (ev_op (ixr rfl ((e1.trans e2) _ _ hrow) rfl) (ev_var rfl) (rv_I ⟨hm0, hm1⟩)) (ev_var rfl) ev_c (by show 3 < 4; decide) fun H3 e3 => ?_
      refine s_ret (v := .int (z3 % m)) (ev_var rfl) fun H4 e4 => ?_
      have kp : Kp r H (upd H3 r (.lst ((rowL a i z2 z3).set 3 (.int (z3 / m))))) := (Kp.of_ex ((e1.trans e2).trans e3)).up
      exact k _ H4 (Int.emod_nonneg _ (by omega)) (Int.emod_lt_of_pos _ hm0) (Dr.ex ⟨kp, a, i, z2, z3 / m, ns, upd_same, sc.keep hrow kp, hi⟩ e4)
    · refine q_setL (j := 1) (e1 _ _ hrow) (ev_op (ixr rfl (e1 _ _ hrow) rfl) ev_c rv_I0) (ev_var rfl) ev_c (by show 1 < 4; decide) fun H2 e2 => ?_
      have kp2 : Kp r H (upd H2 r (.lst (rowL a (i + 1) z2 z3))) := (Kp.of_ex (e1.trans e2)).up
      have row2 : (upd H2 r (.lst (rowL a (i + 1) z2 z3))) r = some (.lst (rowL a (i + 1) z2 z3)) := upd_same
      show tSeq (tIfS _ _ tNext) _ _ _ (upd H2 r (.lst (rowL a (i + 1) z2 z3)))
      generalize upd H2 r (.lst (rowL a (i + 1) z2 z3)) = G2 at kp2 row2
      have sc2 := sc.keep hrow kp2
      refine q_when (b := decide ((ns.length : Int) < i + 1)) (et_test (ev_op (ixr rfl row2 rfl) (ev_is (ev_len (ixr rfl row2 rfl) sc2.sq) (by rw [List.length_map])) rv_I0)) (fun hb H3 e3 => ?_) (fun hb H3 e3 => ?_)
      · -- behind the script
        refine q_setL (j := 2) (e3 _ _ row2) (ev_op (ev_int (ev_op (ev_op (ixr rfl (e3 _ _ row2) rfl) ev_c (rv_I (.inr ⟨by decide, by decide⟩))) ev_c rv_I0)) ev_c (rv_mod (by decide))) (ev_var rfl) ev_c (by show 2 < 4; decide) fun H4 e4 => ?_
        show tRet _ _ _ (upd H4 r (.lst (rowL a (i + 1) ((z2 * 48271 + 11) % 2147483647) z3)))
        refine s_ret (v := .int ((z2 * 48271 + 11) % 2147483647 / 7 % m)) (ev_op (ev_int (ev_op (ixr rfl upd_same rfl) ev_c (rv_I ⟨by decide, by decide⟩))) (ev_var rfl) (rv_mod hm0)) fun H5 e5 => ?_
        have kp : Kp r H (upd H4 r (.lst (rowL a (i + 1) ((z2 * 48271 + 11) % 2147483647) z3))) := (kp2.trans (.of_ex (e3.trans e4))).up
        exact k _ H5 (Int.emod_nonneg _ (by omega)) (Int.emod_lt_of_pos _ hm0) (Dr.ex ⟨kp, a, _, _, _, ns, upd_same, sc.keep hrow kp, by omega⟩ e5)
      · have hlt : i + 1 ≤ (ns.length : Int) := by simpa using hb
        have hin : i.toNat < ns.length := by omega
        have hat : atI (ns.map V.int) (i + 1 - 1) = some (V.int ns[i.toNat]) := by
          have e : i + 1 - 1 = (i.toNat : Int) := by omega
          rw [e]
          exact atI_nat (by rw [List.getElem?_map, List.getElem?_eq_getElem hin]; rfl)
        generalize ns[i.toNat] = c at hat
        refine q_asg (ev_op (ixr rfl (e3 _ _ row2) rfl) (ev_op (ixr rfl (e3 _ _ row2) rfl) ev_c rv_I0) (rv_ixL (sc2.keep row2 (.of_ex e3)).sq hat)) fun H4 e4 => ?_
        refine q_setL (j := 2) ((e3.trans e4) _ _ row2) (ev_op (ev_int (ev_op (ev_op (ev_op (ixr rfl ((e3.trans e4) _ _ row2) rfl) ev_c (rv_I (.inr ⟨by decide, by decide⟩))) (ev_var rfl) rv_I0) ev_c rv_I0)) ev_c (rv_mod (by decide))) (ev_var rfl) ev_c (by show 2 < 4; decide) fun H5 e5 => ?_
        have kp5 : Kp r H (upd H5 r (.lst (rowL a (i + 1) ((z2 * 48271 + c + 11) % 2147483647) z3))) := (kp2.trans (.of_ex ((e3.trans e4).trans e5))).up
        have row5 : (upd H5 r (.lst (rowL a (i + 1) ((z2 * 48271 + c + 11) % 2147483647) z3))) r = some (.lst (rowL a (i + 1) ((z2 * 48271 + c + 11) % 2147483647) z3)) := upd_same
        show tSeq (tIfS _ _ tNext) _ _ _ (upd H5 r (.lst (rowL a (i + 1) ((z2 * 48271 + c + 11) % 2147483647) z3)))
        generalize (z2 * 48271 + c + 11) % 2147483647 = z2' at kp5 row5 ⊢
        generalize upd H5 r (.lst (rowL a (i + 1) z2' z3)) = G5 at kp5 row5 ⊢
        have fin : ∀ G6, Kp r H G6 → (∃ t, G6 r = some (.lst (rowL a (i + 1) z2' t))) → tRet (tOp (rI (fun _ j => 0 < j) fun i j => .int (i % j)) (tCB (fun xs H Q => (∃ i, xs = [V.int i] ∧ Q (.int i) H) ∨ ∃ k, xs = [.bl k] ∧ Q (.int (if k then 1 else 0)) H) (tCons (tVar 3) tNil)) (tVar 1))
            { nx := fun _ H' => Q .non H', rt := Q } [some (.ref r), some (.int m), none, some (.int c)] G6 := fun G6 k6 ⟨t, r6⟩ =>
          s_ret (v := .int (c % m)) (ev_op (ev_int (ev_var rfl)) (ev_var rfl) (rv_mod hm0)) fun H7 e7 => k _ H7 (Int.emod_nonneg _ (by omega)) (Int.emod_lt_of_pos _ hm0) (Dr.ex ⟨k6, a, _, _, t, ns, r6, sc.keep hrow k6, by omega⟩ e7)
        refine q_when (b := decide ((10 : Int) ^ 18 ≤ c)) (et_test (ev_op (ev_var rfl) (ev_op ev_c ev_c (rv_I ⟨by decide, by decide, by decide⟩)) rv_I0)) (fun hb6 H6 e6 => ?_) (fun hb6 H6 e6 => fin H6 (kp5.trans (.of_ex e6)) ⟨_, e6 _ _ row5⟩)
        refine s_setL (j := 3) (e6 _ _ row5) (ev_op (ev_var rfl) (ev_var rfl) (rv_I ⟨hm0, hm1⟩)) (ev_var rfl) ev_c (by show 3 < 4; decide) fun H7 e7 => ?_
        exact fin _ ((kp5.trans (.of_ex (e6.trans e7))).up) ⟨c / m, upd_same⟩
end
end Bl
namespace Bl
open PySem PySem.Spec PyProof.Rows L2 Bk Bm Evl Be Cr Bp TL
section
variable {K : PySem.W.Frag} {H G : Hp} {r D : Addr}
theorem Row.updL {ys zs : List V} (h : Row K G r) (hD : G D = some (.lst ys)) (hne : D ≠ r) : Row K (upd G D (.lst zs)) r := by
  obtain ⟨a, i, s, z, ns, hr, sc, hi⟩ := h
  refine ⟨a, i, s, z, ns, by rw [upd_ne hne.symm]; exact hr, ?_, hi⟩
  rcases sc with ⟨o, h⟩ | h
  · exact .inl ⟨o, by rw [upd_ne (ne_of h hD (by intro z; cases z))]; exact h⟩
  · exact .inr h
theorem Kp.updL {o : HO} (h : Kp r H G) (hD : H D = none) : Kp r H (upd G D o) := fun b u n e => by
  rw [upd_ne (ne_of_none e hD)]
  exact h b u n e
theorem Dr.updL {ys zs : List V} (d : Dr K r H G) (hD : H D = none) (hg : G D = some (.lst ys)) (hne : D ≠ r) : Dr K r H (upd G D (.lst zs)) := ⟨d.kp.updL hD, d.row.updL hg hne⟩
theorem Row.at (h : Row K H r) : ∃ xs, H r = some (.lst xs) := by
  obtain ⟨a, i, s, z, ns, hr, _⟩ := h
  exact ⟨_, hr⟩
theorem Row.ne_new (h : Row K H r) {p : Addr} (hp : H p = none) : p ≠ r := by
  obtain ⟨xs, e⟩ := h.at
  exact (ne_of_none e hp).symm
theorem Dr.free {p : Addr} (d : Dr K r H G) (h : Row K H r) (hp : G p = none) : H p = none := by
  cases e : H p with
  | none => rfl
  | some o =>
    have n : p ≠ r := d.row.ne_new hp
    rw [d.kp p o n e] at hp
    cases hp
end
section
variable {P : Program} {w : World} {K : PySem.W.Frag} {mg : Str → Option Value} {base : Heap}
theorem scOne : FnScope ["_law_row", "_law_things"] ["_law_row", "_law_things"] (defScope sOne) := ⟨rfl, rfl, rfl, by decide +kernel, rfl, by decide +kernel, by decide +kernel⟩
def spOne : Sp := fun vs H Q _ => ∃ r t xs, vs = [.ref r, .ref t] ∧ Row K H r ∧ t ≠ r ∧ H t = some (.lst xs) ∧ 0 < xs.length ∧ xs.length < 1000000 ∧ ∀ v G, v ∈ xs → Dr K r H G → Q v G
/-- a draw below m -/
theorem draw {σ : L2.St} {H : Hp} {ta tm : TE} {r : Addr} {m : Int} {Q : VK} (hr : Ev ta σ H (.ref r)) (hm : Ev tm σ H (.int m)) (row : Row K H r) (h0 : 0 < m) (h1 : m < 1000000) (k : ∀ n G, 0 ≤ n → n < m → Dr K r H G → Q (.int n) G) :
    tCall (spTaken (K := K)) [] E0 (tCons ta (tCons tm tNil)) σ H Q :=
  hr H (Ex.refl _) _ fun H1 e1 => hm H1 e1 _ fun H2 e2 => ⟨r, m, rfl, row.ex (e1.trans e2), h0, by omega, fun n G hn hm d => k n G hn hm (Dr.pre (e1.trans e2) d)⟩
theorem ok_one {f : Addr} {fd : FuncData} (F : Fun K "_law_one" "_law_one" sOne f fd) (T : Gv mg) (cT : Cal P w K mg base CX0 1 "_law_taken" ["_law_row", "_law_many"] (spTaken (K := K))) : FnOk P w K mg base CX0 2 f fd ["_law_row", "_law_things"] (spOne (K := K)) := by
  refine F.ok scOne (fun vs H Q E h => ?_) (fun cdv A outer s H vs Q E hr h => ?_)
  · obtain ⟨r, t, xs, rfl, _⟩ := h
    rfl
  · obtain ⟨r, t, xs, rfl, row, hne, ht, h0, h1, k⟩ := h
    refine ⟨_, pss_one (ps_ret (pe_ix ix_list (pv 1) (pe_call cT.F hr (by rfl) cT.g cT.kp cT.b .nil pass0 (pa_cons (pv 0) (pa_cons (pe_callB call_len_seq (by rfl) T.len PySem.boot_len (pa_cons (pv 1) pa_nil)) pa_nil))) (fun _ _ => rfl))), ?_⟩
    refine ⟨_, rfl, draw (m := (xs.length : Int)) (ev_var rfl) (ev_len (ev_var rfl) (sq_of ht)) row (by omega) (by omega) fun n G hn hm d => ?_⟩
    have hin : n.toNat < xs.length := by omega
    refine ⟨t, xs, n, xs[n.toNat], rfl, rfl, sq_of (d.kp _ _ hne ht), ?_, k _ G (List.getElem_mem hin) d⟩
    exact at_of (j := n.toNat) (by omega) (List.getElem?_eq_getElem hin)
/-- written values -/
def tCs : List V → TA
  | [] => tNil
  | v :: r => tCons (tC v) (tCs r)
theorem ea_cs {σ : L2.St} {H : Hp} : ∀ vs : List V, EvA (tCs vs) σ H vs
  | [] => ea_nil
  | _ :: r => ea_cons ev_c (ea_cs r)
theorem el_cat {σ : L2.St} {H : Hp} {ta tb : TE} {l : Addr} {xs zs : List V} (ha : Ev ta σ H (.ref l)) (hl : H l = some (.lst xs)) (hb : EvL tb σ H zs) (hz : xs.length + zs.length ≤ 100000) : EvL (tOp rCat ta tb) σ H (xs ++ zs) := fun H1 e Q q =>
  ha H1 e _ fun H2 e2 => hb H2 (e.trans e2) _ fun b H3 hb3 e3 h3 => ⟨l, b, xs, zs, rfl, rfl, ((e.trans e2).trans e3) _ _ hl, h3, sz_of hz, fun p hp => q p _ (fresh_back (e2.trans e3) hp) ((e2.trans e3).trans (Ex.new hp)) upd_same⟩
end
end Bl
namespace Bl
open PySem PySem.Spec PyProof.Rows L2 Bk Bm Evl Be Cr Bp TL
abbrev sOddP : Stmt := top 74
section
variable {X : Cx}
/-- x * n of a text -/
def rMulS : R2 := fun x y H Q => ∃ z n, x = .str z ∧ y = .int n ∧ MulOk z n ∧ Q (.str (Txt.mul z n)) H
theorem op_mulS : OpR X (binaryOp .Mult) rMulS := by
  intro pins s σ H x y v u Q I rx ry h
  obtain ⟨z, n, rfl, rfl, hok, q⟩ := h
  obtain ⟨t, rfl⟩ := rx
  obtain ⟨t', rfl⟩ := ry
  exact SB.mul hok fun t2 k => ⟨.str (Txt.mul z n), H, I.tok k, ⟨_, rfl⟩, q⟩
end
theorem Sm.kp {r : Addr} {H G : Hp} {v : V} {xs : List V} (h : Sm H v) (hr : H r = some (.lst xs)) (hx : xs.length ≠ 1) (k : Kp r H G) : Sm G v := by
  cases h with
  | non => exact .non
  | bl b => exact .bl b
  | int i => exact .int i
  | str x h => exact .str x h
  | l1 h => exact .l1 (k _ _ (ne_of h hr (by intro z; cases z; exact hx rfl)) h)
  | t1 h => exact .t1 (k _ _ (ne_of h hr (by intro z; cases z)) h)
  | d0 h => exact .d0 (k _ _ (ne_of h hr (by intro z; cases z)) h)
theorem Sm.dr {K : PySem.W.Frag} {r : Addr} {H G : Hp} {v : V} (h : Sm H v) (row : Row K H r) (d : Dr K r H G) : Sm G v := by
  obtain ⟨a, i, s, z, ns, hr, _⟩ := row
  exact Sm.kp h hr (by show 4 ≠ 1; decide) d.kp
section
variable {P : Program} {w : World} {K : PySem.W.Frag} {mg : Str → Option Value} {base : Heap}
theorem scOddP : FnScope ["_law_row", "_law_odd"] ["_law_row"] (defScope sOddP) := ⟨rfl, rfl, rfl, by decide +kernel, rfl, by decide +kernel, by decide +kernel⟩
def oddS : List Str := ["", "/", "a/", "/a", "A", "a b", "a//b", "a/b/c/d", "abcdefg", "a-b"].map Str.ofString
def oddL (t l : Addr) : List V := [.non, .int 0, .bl true] ++ oddS.map V.str ++ [.ref t, .ref l]
theorem odd_strs : ∀ x ∈ Str.ofString "a\n" :: oddS, x.length ≤ 1000 ∧ pathB x = false := by decide +kernel
def spOdd (ok : V → Bool) : Sp := fun vs H Q _ => ∃ r, vs = [.ref r] ∧ Row K H r ∧ ∀ v G, Dr K r H G → Sm G v → ok v = false → Q v G
theorem ok_oddP {f : Addr} {fd : FuncData} (F : Fun K "_law_odd_path" "_law_odd_path" sOddP f fd) (T : Gv mg) (cT : Cal P w K mg base CX0 1 "_law_taken" ["_law_row", "_law_many"] (spTaken (K := K))) : FnOk P w K mg base CX0 2 f fd ["_law_row"] (spOdd (K := K) isPathV) := by
  refine F.ok scOddP (fun vs H Q E h => ?_) (fun cdv A outer s H vs Q E hr h => ?_)
  · obtain ⟨r, rfl, _⟩ := h
    rfl
  · obtain ⟨r, rfl, row, k⟩ := h
    refine ⟨_, pss_cons (ps_set (i := 1) scOddP.nd rfl (Or.inl rfl) (pe_lst (pa_cons pe_non (pa_cons pe_int (pa_cons pe_bl (pa_cons pe_str (pa_cons pe_str (pa_cons pe_str (pa_cons pe_str (pa_cons pe_str (pa_cons pe_str (pa_cons pe_str (pa_cons pe_str (pa_cons pe_str (pa_cons pe_str
        (pa_cons (pe_tup (pa_cons pe_str pa_nil)) (pa_cons (pe_lst (pa_cons pe_str pa_nil)) pa_nil)))))))))))))))))
      (pss_cons (ps_set (i := 1) scOddP.nd rfl (Or.inl rfl) (pe_op op_cat (pv 1) (pe_lst (pa_cons pe_dnewK (pa_cons pe_str pa_nil)))))
      (pss_one (ps_ret (pe_ix ix_list (pv 1) (pe_call cT.F hr (by rfl) cT.g cT.kp cT.b .nil pass0 (pa_cons (pv 0) (pa_cons (pe_callB call_len_seq (by rfl) T.len PySem.boot_len (pa_cons (pv 1) pa_nil)) pa_nil))) (fun _ _ => rfl))))), ?_⟩
    refine ⟨by show 1 ≤ sizeLine; decide, fun t ht => ⟨by show 1 ≤ sizeLine; decide, fun l hl => ⟨by show 15 ≤ sizeLine; decide, fun o ho => ?_⟩⟩⟩
    refine ⟨_, rfl, fun d hd => ⟨by show 2 ≤ sizeLine; decide, fun l2 hl2 => ⟨o, l2, oddL t l, [.ref d, .str (Str.ofString "a\n")], rfl, rfl, ?_, upd_same, by show 15 + 2 ≤ sizeLine; decide, fun o2 ho2 => ?_⟩⟩⟩
    · exact (Ex.new hl2) _ _ ((Ex.new hd) _ _ upd_same)
    have eAll := (Ex.new (o := .tup [.str (Str.ofString "a")]) ht).trans ((Ex.new (o := .lst [.str (Str.ofString "a")]) hl).trans ((Ex.new (o := .lst (oddL t l)) ho).trans ((Ex.new (o := .dK []) hd).trans ((Ex.new (o := .lst [V.ref d, V.str (Str.ofString "a\n")]) hl2).trans (Ex.new (o := .lst (oddL t l ++ [V.ref d, V.str (Str.ofString "a\n")])) ho2)))))
    have row2 := row.ex eAll
    have ft := ((Ex.new (o := .lst [.str (Str.ofString "a")]) hl).trans ((Ex.new (o := .lst (oddL t l)) ho).trans ((Ex.new (o := .dK []) hd).trans ((Ex.new (o := .lst [V.ref d, V.str (Str.ofString "a\n")]) hl2).trans (Ex.new (o := .lst (oddL t l ++ [V.ref d, V.str (Str.ofString "a\n")])) ho2))))) _ _ (upd_same (a := t) (o := .tup [.str (Str.ofString "a")]) (H := H))
    have fl := ((Ex.new (o := .lst (oddL t l)) ho).trans ((Ex.new (o := .dK []) hd).trans ((Ex.new (o := .lst [V.ref d, V.str (Str.ofString "a\n")]) hl2).trans (Ex.new (o := .lst (oddL t l ++ [V.ref d, V.str (Str.ofString "a\n")])) ho2)))) _ _ (upd_same (a := l) (o := .lst [.str (Str.ofString "a")]))
    have fd' := ((Ex.new (o := .lst [V.ref d, V.str (Str.ofString "a\n")]) hl2).trans (Ex.new (o := .lst (oddL t l ++ [V.ref d, V.str (Str.ofString "a\n")])) ho2)) _ _ (upd_same (a := d) (o := .dK []))
    have neo : o2 ≠ r := (row.ex ((Ex.new (o := .tup [.str (Str.ofString "a")]) ht).trans ((Ex.new (o := .lst [.str (Str.ofString "a")]) hl).trans ((Ex.new (o := .lst (oddL t l)) ho).trans ((Ex.new (o := .dK []) hd).trans (Ex.new (o := .lst [V.ref d, V.str (Str.ofString "a\n")]) hl2)))))).ne_new ho2
    refine ⟨_, rfl, draw (m := 17) (ev_var rfl) (ev_is (ev_len (ev_var rfl) (sq_of upd_same)) rfl) row2 (by decide) (by decide) fun n G hn hm dd => ?_⟩
    have hv : ∀ v ∈ oddL t l ++ [V.ref d, V.str (Str.ofString "a\n")], ∀ F : Hp, F t = some (.tup [.str (Str.ofString "a")]) → F l = some (.lst [.str (Str.ofString "a")]) → F d = some (.dK []) → Sm F v ∧ isPathV v = false := by
      intro v hv F f1 f2 f3
      simp only [oddL, List.mem_append, List.mem_cons, List.not_mem_nil, or_false, List.mem_map] at hv
      rcases hv with ((((rfl | rfl | rfl) | ⟨x, hx, rfl⟩) | (rfl | rfl)) | (rfl | rfl))
      · exact ⟨.non, rfl⟩
      · exact ⟨.int _, rfl⟩
      · exact ⟨.bl _, rfl⟩
      · have h := odd_strs x (List.mem_cons_of_mem _ hx)
        exact ⟨.str _ h.1, h.2⟩
      · exact ⟨.t1 f1, rfl⟩
      · exact ⟨.l1 f2, rfl⟩
      · exact ⟨.d0 f3, rfl⟩
      · have h := odd_strs _ List.mem_cons_self
        exact ⟨.str _ h.1, h.2⟩
    have hin : n.toNat < (oddL t l ++ [V.ref d, V.str (Str.ofString "a\n")]).length := by
      show n.toNat < 17
      omega
    obtain ⟨s1, s2⟩ := hv _ (List.getElem_mem hin) _ ft fl fd'
    refine ⟨o2, _, n, _, rfl, rfl, sq_of (dd.kp _ _ neo upd_same), at_of (j := n.toNat) (by omega) (List.getElem?_eq_getElem hin), ?_⟩
    exact k _ G (Dr.pre eAll dd) (Sm.dr s1 row2 dd) s2
end
end Bl
namespace Bl
open PySem PySem.Spec PyProof.Rows L2 Bk Bm Evl Be Cr Bp TL
abbrev sRuleL : Stmt := top 72
def five : List Str := ["m", "n", "o", "p/q", "r"].map Str.ofString
def first5 : List Str := ["a", "b", "c", "d/x", "d/y"].map Str.ofString
def ten : List Str := first5 ++ five
def folds : List Str := ["", "d", "e", "e/f", "a"].map Str.ofString
def wrds : List Str := ["b", "use", "y", "a b", "1", "use a", "use d/x"].map Str.ofString
def knds : List Str := ["join", "join", "size", "sort", "pick", "names", "use", "use", "choose", "choose", "need"].map Str.ofString
def okS (x : Str) : Prop := x.length ≤ 1000 ∧ PyData.strOk x = true ∧ x ≠ Str.ofString "z"
instance (x : Str) : Decidable (okS x) := by unfold okS; infer_instance
theorem ten_ok : ∀ y ∈ ten, okS y ∧ pathB y = true := by decide +kernel
theorem folds_ok : ∀ y ∈ folds, okS y ∧ isFolderV (.str y) = true := by decide +kernel
theorem wrds_ok : ∀ y ∈ wrds, okS y ∧ wordB y = true := by decide +kernel
theorem knds_ok : ∀ k ∈ knds, okS k ∧ k ∈ kinds9 := by decide +kernel
theorem five_ten : ∀ y ∈ five, y ∈ ten := by decide +kernel
/-- a thing of a drawn rule -/
inductive Tg (H : Hp) : V → Option (List V) × PyData → Prop
  | s (x : Str) (h : okS x) : Tg H (.str x) (none, .str x)
  | t {b : Addr} {ys : List Str} (h : H b = some (.tup (ys.map V.str))) (hy : ∀ y ∈ ys, okS y) (hl : ys.length ≤ 100) : Tg H (.ref b) (some (ys.map V.str), .tuple (ys.map PyData.str))
/-- a drawn rule that makes m -/
def Good (H : Hp) (v : V) (md : Str × PyData) : Prop := ∃ a k ts ods, v = .ref a ∧ H a = some (.tup (.str md.1 :: .str k :: ts)) ∧ Paired (Tg H) ts ods ∧ ods.length ≤ 3 ∧ k ∈ knds ∧ (k = Str.ofString "names" → ∀ x ∈ ts, ∃ y, x = .str y ∧ okS y) ∧
  md.1 ∈ five ∧ ruleB (.str md.1) (.str k) ts (ods.map (·.1)) = true ∧ md.2 = .tuple (.str md.1 :: .str k :: ods.map (·.2))
section
variable {H G : Hp} {v : V} {K : PySem.W.Frag} {r : Addr}
theorem Tg.imp {o : Option (List V) × PyData} (f : ∀ b ys, H b = some (.tup ys) → G b = some (.tup ys)) (h : Tg H v o) : Tg G v o := by
  cases h with
  | s x h => exact .s x h
  | t h hy hl => exact .t (f _ _ h) hy hl
theorem Good.imp {md : Str × PyData} (f : ∀ b ys, H b = some (.tup ys) → G b = some (.tup ys)) (h : Good H v md) : Good G v md := by
  obtain ⟨a, k, ts, ods, h0, h1, h2, h3⟩ := h
  exact ⟨a, k, ts, ods, h0, f _ _ h1, pr_mono h2 fun _ _ z => z.imp f, h3⟩
theorem Good.mono {md : Str × PyData} (e : Ex H G) (h : Good H v md) : Good G v md := h.imp fun b ys z => e _ _ z
theorem Good.dr {md : Str × PyData} (h : Good H v md) (row : Row K H r) (d : Dr K r H G) : Good G v md := h.imp fun b ys z => by
  obtain ⟨rl, hr⟩ := row.at
  exact d.kp _ _ (ne_of z hr (by intro z; cases z)) z
theorem Good.updL {md : Str × PyData} {D : Addr} {xs zs : List V} (h : Good H v md) (hr : H D = some (.lst xs)) : Good (upd H D (.lst zs)) v md := h.imp fun b ys z => by
  rw [upd_ne (ne_of z hr (by intro z; cases z))]
  exact z
theorem Tg.th {o : Option (List V) × PyData} (h : Tg H v o) : Th K H v o.1 := by
  cases h with
  | s x h => exact .sm (.str x h.1) (kd_str x) (by decide)
  | @t b ys h hy hl =>
    refine .tu h (fun x hx => ?_) (by rw [List.length_map]; omega)
    obtain ⟨y, hy', rfl⟩ := List.mem_map.mp hx
    exact .str y (hy y hy').1
theorem Good.itr {md : Str × PyData} (h : Good H v md) : Itr K H v (some md.1) := by
  obtain ⟨a, k, ts, ods, rfl, h1, h2, h3, h4, h5, h6, h7, h8⟩ := h
  have hm := (ten_ok _ (five_ten _ h6)).1.1
  have r := Ru.long (K := K) (os := ods.map (·.1)) h1 (Sm.str md.1 hm) (Sm.str k (knds_ok k h4).1.1) (fun z hz => by cases hz; exact (knds_ok k h4).2) ?_ (by have := pr_len h2; omega) (fun z x hx => ?_)
  · rw [h7] at r
    exact ⟨r, ⟨a, _, rfl, h1⟩, hm⟩
  · clear h3 h7 h8 h5 h1
    induction h2 with
    | nil => exact .nil
    | cons r _ ih => exact .cons r.th ih
  · injection z with z
    obtain ⟨y, rfl, hy⟩ := h5 z x hx
    exact .str y hy.1
theorem ruleB_of {m k : Str} {fs : List Str} {ts : List V} {os : List (Option (List V))} (h0 : pathB m = true) (hf : formOf k = some fs) (hl : ts.length = fs.length) (ha : ((fs.zip (ts.zip os)).all fun p => fitsV p.1 p.2.1 p.2.2) = true) :
    ruleB (.str m) (.str k) ts os = true := by
  unfold ruleB
  simp only [hf, ha, hl, decide_true]
  show (pathB m && _) = true
  rw [h0]
  rfl
theorem fit_path {v : V} {o : Option (List V)} : fitsV (Str.ofString "path") v o = isPathV v := by
  unfold fitsV
  rw [if_pos rfl]
theorem fit_word {v : V} {o : Option (List V)} : fitsV (Str.ofString "word") v o = isWordV v := by
  unfold fitsV
  rw [if_neg (by decide +kernel), if_pos rfl]
theorem fit_fold {v : V} {o : Option (List V)} : fitsV (Str.ofString "folder") v o = isFolderV v := by
  unfold fitsV
  rw [if_neg (by decide +kernel), if_neg (by decide +kernel), if_pos rfl]
theorem fit_paths {v : V} {xs : List V} : fitsV (Str.ofString "paths") v (some xs) = (decide (xs.length ≤ 4) && xs.all isPathV) := by
  unfold fitsV
  rw [if_neg (by decide +kernel), if_neg (by decide +kernel), if_neg (by decide +kernel)]
theorem fit_pathsN {v : V} : fitsV (Str.ofString "paths") v none = false := by
  unfold fitsV
  rw [if_neg (by decide +kernel), if_neg (by decide +kernel), if_neg (by decide +kernel)]
theorem f_join : formOf (Str.ofString "join") = some [Str.ofString "paths"] := by decide +kernel
theorem f_choose : formOf (Str.ofString "choose") = some [Str.ofString "path", Str.ofString "path", Str.ofString "path"] := by decide +kernel
theorem f_names : formOf (Str.ofString "names") = some [Str.ofString "folder"] := by decide +kernel
theorem k_pn : ∀ k ∈ knds, inV (.str k) [.str (Str.ofString "pick"), .str (Str.ofString "need")] = true → formOf k = some [Str.ofString "path", Str.ofString "word"] ∧ k ≠ Str.ofString "names" := by decide +kernel
theorem k_one : ∀ k ∈ knds, k ≠ Str.ofString "join" → k ≠ Str.ofString "choose" → inV (.str k) [.str (Str.ofString "pick"), .str (Str.ofString "need")] = false → k ≠ Str.ofString "names" → formOf k = some [Str.ofString "path"] := by decide +kernel
/-- the rules, each with its own things -/
theorem good_1 {a : Addr} {m k y : Str} (h : H a = some (.tup [.str m, .str k, .str y])) (hm : m ∈ five) (hk : k ∈ knds) (hy : okS y) (hf : (formOf k = some [Str.ofString "path"] ∧ pathB y = true) ∨ (k = Str.ofString "names" ∧ isFolderV (.str y) = true)) :
    Good H (.ref a) (m, .tuple [.str m, .str k, .str y]) := by
  refine ⟨a, k, [.str y], [(none, .str y)], rfl, h, .cons (.s y hy) .nil, by show 1 ≤ 3; decide, hk, fun _ x hx => ⟨y, List.mem_singleton.mp hx, hy⟩, hm, ?_, rfl⟩
  rcases hf with ⟨hf, hp⟩ | ⟨rfl, hp⟩
  · exact ruleB_of (ten_ok _ (five_ten _ hm)).2 hf rfl (by show (fitsV _ (.str y) none && true) = true; rw [fit_path]; show (pathB y && true) = true; rw [hp]; rfl)
  · exact ruleB_of (ten_ok _ (five_ten _ hm)).2 f_names rfl (by show (fitsV _ (.str y) none && true) = true; rw [fit_fold, hp]; rfl)
theorem good_2 {a : Addr} {m k y z : Str} (h : H a = some (.tup [.str m, .str k, .str y, .str z])) (hm : m ∈ five) (hk : k ∈ knds) (hy : okS y) (hz : okS z) (hf : formOf k = some [Str.ofString "path", Str.ofString "word"]) (hp : pathB y = true) (hw : wordB z = true) :
    Good H (.ref a) (m, .tuple [.str m, .str k, .str y, .str z]) := by
  refine ⟨a, k, [.str y, .str z], [(none, .str y), (none, .str z)], rfl, h, .cons (.s y hy) (.cons (.s z hz) .nil), by show 2 ≤ 3; decide, hk, fun _ x hx => ?_, hm, ?_, rfl⟩
  · rcases List.mem_cons.mp hx with rfl | hx
    · exact ⟨y, rfl, hy⟩
    · exact ⟨z, List.mem_singleton.mp hx, hz⟩
  · refine ruleB_of (ten_ok _ (five_ten _ hm)).2 hf rfl ?_
    show (fitsV _ (.str y) none && (fitsV _ (.str z) none && true)) = true
    rw [fit_path, fit_word]
    show (pathB y && (wordB z && true)) = true
    rw [hp, hw]
    rfl
theorem good_3 {a : Addr} {m x y z : Str} (h : H a = some (.tup [.str m, .str (Str.ofString "choose"), .str x, .str y, .str z])) (hm : m ∈ five) (hx : x ∈ ten) (hy : y ∈ ten) (hz : z ∈ ten) :
    Good H (.ref a) (m, .tuple [.str m, .str (Str.ofString "choose"), .str x, .str y, .str z]) := by
  refine ⟨a, _, [.str x, .str y, .str z], [(none, .str x), (none, .str y), (none, .str z)], rfl, h, .cons (.s x (ten_ok x hx).1) (.cons (.s y (ten_ok y hy).1) (.cons (.s z (ten_ok z hz).1) .nil)), by show 3 ≤ 3; decide, by decide +kernel, fun c => absurd c (by decide +kernel), hm, ?_, rfl⟩
  refine ruleB_of (ten_ok _ (five_ten _ hm)).2 f_choose rfl ?_
  show (fitsV _ (.str x) none && (fitsV _ (.str y) none && (fitsV _ (.str z) none && true))) = true
  rw [fit_path, fit_path, fit_path]
  show (pathB x && (pathB y && (pathB z && true))) = true
  rw [(ten_ok x hx).2, (ten_ok y hy).2, (ten_ok z hz).2]
  rfl
theorem good_j {a b : Addr} {m : Str} {ys : List Str} (h : H a = some (.tup [.str m, .str (Str.ofString "join"), .ref b])) (hb : H b = some (.tup (ys.map V.str))) (hm : m ∈ five) (hy : ∀ y ∈ ys, y ∈ ten) (hl : ys.length ≤ 4) :
    Good H (.ref a) (m, .tuple [.str m, .str (Str.ofString "join"), .tuple (ys.map PyData.str)]) := by
  refine ⟨a, _, [.ref b], [(some (ys.map V.str), .tuple (ys.map PyData.str))], rfl, h, .cons (.t hb (fun y h => (ten_ok y (hy y h)).1) (by omega)) .nil, by show 1 ≤ 3; decide, by decide +kernel, fun c => absurd c (by decide +kernel), hm, ?_, rfl⟩
  refine ruleB_of (ten_ok _ (five_ten _ hm)).2 f_join rfl ?_
  show (fitsV _ (.ref b) (some (ys.map V.str)) && true) = true
  rw [fit_paths, List.length_map, decide_eq_true hl, Bool.true_and, Bool.and_true, List.all_map, List.all_eq_true]
  exact fun y h => (ten_ok y (hy y h)).2
end
end Bl
namespace Bl
open PySem PySem.Spec PyProof.Rows L2 Bk Bm Evl Be Cr Bp TL
section
variable {P : Program} {w : World} {K : PySem.W.Frag} {mg : Str → Option Value} {base : Heap}
abbrev nRl : List Str := ["_law_row", "_law_made", "_law_all_made", "_law_some", "_law_kind", "_law_many", "_law_k", "_law_more"]
theorem scRuleL : FnScope nRl ["_law_row", "_law_made", "_law_all_made"] (defScope sRuleL) := ⟨rfl, rfl, rfl, by decide +kernel, rfl, by decide +kernel, by decide +kernel⟩
def spRuleL : Sp := fun vs H Q _ => ∃ r t m, vs = [.ref r, .str m, .ref t] ∧ Row K H r ∧ t ≠ r ∧ H t = some (.lst (five.map V.str)) ∧ m ∈ five ∧ ∀ a d G, Dr K r H G → Good G (.ref a) (m, d) → Q (.ref a) G
theorem cut_mem {xs : List V} {lo hi : Option Int} {x : V} (h : x ∈ cutV xs lo hi) : x ∈ xs := by
  unfold cutV at h
  first
    | exact List.mem_of_mem_drop (List.mem_of_mem_take h)
    | exact List.mem_of_mem_take (List.mem_of_mem_drop h)
theorem cut_len {xs : List V} {lo hi : Option Int} : (cutV xs lo hi).length ≤ xs.length := by
  unfold cutV
  simp
  omega
/-- one of a list of texts -/
theorem one_str {xs : List Str} {v : V} (h : v ∈ xs.map V.str) : ∃ y ∈ xs, v = .str y := by
  obtain ⟨y, hy, rfl⟩ := List.mem_map.mp h
  exact ⟨y, hy, rfl⟩
/-- a draw from a list that stands -/
theorem drawL {σ : L2.St} {H : Hp} {ta tb : TE} {r t : Addr} {xs : List V} {Q : VK} (hr : Ev ta σ H (.ref r)) (ht : Ev tb σ H (.ref t)) (row : Row K H r) (hne : t ≠ r) (hx : H t = some (.lst xs)) (h0 : 0 < xs.length) (h1 : xs.length < 1000000)
    (k : ∀ v G, v ∈ xs → Dr K r H G → Q v G) : tCall (spOne (K := K)) [] E0 (tCons ta (tCons tb tNil)) σ H Q :=
  hr H (Ex.refl _) _ fun H1 e1 => ht H1 e1 _ fun H2 e2 => ⟨r, t, xs, rfl, row.ex (e1.trans e2), hne, (e1.trans e2) _ _ hx, h0, h1, fun v G hv d => k v G hv (Dr.pre (e1.trans e2) d)⟩
/-- a draw from a written list of texts -/
theorem drawS {σ : L2.St} {H : Hp} {ta : TE} {r : Addr} {xs : List Str} {Q : VK} (hr : Ev ta σ H (.ref r)) (row : Row K H r) (h0 : 0 < xs.length) (h1 : xs.length < 100000)
    (k : ∀ y G, y ∈ xs → Dr K r H G → Q (.str y) G) : tCall (spOne (K := K)) [] E0 (tCons ta (tCons (tLst (tCs (xs.map V.str))) tNil)) σ H Q :=
  hr H (Ex.refl _) _ fun H1 e1 => el_lst (ea_cs _) (by rw [List.length_map]; omega) H1 e1 _ fun p H2 hp e2 h2 => ⟨r, p, xs.map V.str, rfl, row.ex (e1.trans e2), (row.ex e1).ne_new hp, h2, by rw [List.length_map]; exact h0, by rw [List.length_map]; omega, fun v G hv d => by
    obtain ⟨y, hy, rfl⟩ := one_str hv
    exact k y G hy (Dr.pre (e1.trans e2) d)⟩
theorem q_raw {i : Nat} {te : TE} {tz : TS} {De : Ends} {σ : L2.St} {H : Hp} (h : te σ H (fun v H1 => tz De (σ.set i (some v)) H1)) : tSeq (tAsg te (gName i)) tz De σ H := h
theorem s_raw {i : Nat} {te : TE} {De : Ends} {σ : L2.St} {H : Hp} (h : te σ H (fun v H1 => De.nx (σ.set i (some v)) H1)) : tAsg te (gName i) De σ H := h
theorem op_raw {r : R2} {ta tb : TE} {σ : L2.St} {H : Hp} {Q : VK} (h : ta σ H (fun x H1 => tb σ H1 fun y H2 => r x y H2 Q)) : tOp r ta tb σ H Q := h
theorem tup_raw {ta : TA} {σ : L2.St} {H : Hp} {Q : VK} (h : ta σ H fun vs H1 => vs.length ≤ sizeLine ∧ ∀ p, H1 p = none → Q (.ref p) (upd H1 p (.tup vs))) : tTup ta σ H Q := h
theorem ok_ruleL {f : Addr} {fd : FuncData} (F : Fun K "_law_rule" "_law_rule" sRuleL f fd) (T : Gv mg) (cT : Cal P w K mg base CX0 1 "_law_taken" ["_law_row", "_law_many"] (spTaken (K := K)))
    (cO : Cal P w K mg base CX0 2 "_law_one" ["_law_row", "_law_things"] (spOne (K := K))) : FnOk P w K mg base CX0 3 f fd ["_law_row", "_law_made", "_law_all_made"] (spRuleL (K := K)) := by
  refine F.ok scRuleL (fun vs H Q E h => ?_) (fun cdv A outer s H vs Q E hr h => ?_)
  · obtain ⟨r, t, m, rfl, _⟩ := h
    rfl
  · obtain ⟨r, t, m, rfl, row, hne, ht, hm, k⟩ := h
    have hr1 : Room 1 _ := hr.mono (by decide)
    refine ⟨_, pss_cons (ps_set (i := 3) scRuleL.nd rfl (Or.inr rfl) (pe_op op_cat (pe_lst (pa_cons pe_str (pa_cons pe_str (pa_cons pe_str (pa_cons pe_str (pa_cons pe_str pa_nil))))))
        (pe_slice sl_list (pv 2) po_none (po_some (pe_op op_add pe_int (pe_call cT.F hr1 (by rfl) cT.g cT.kp cT.b .nil pass0 (pa_cons (pv 0) (pa_cons (pe_callB call_len_seq (by rfl) T.len PySem.boot_len (pa_cons (pv 2) pa_nil)) pa_nil))))))))
      (pss_cons (ps_set (i := 4) scRuleL.nd rfl (Or.inl rfl) (pe_call cO.F hr (by rfl) cO.g cO.kp cO.b .nil pass0 (pa_cons (pv 0) (pa_cons (pe_lst (pa_cons pe_str (pa_cons pe_str (pa_cons pe_str (pa_cons pe_str (pa_cons pe_str (pa_cons pe_str (pa_cons pe_str (pa_cons pe_str (pa_cons pe_str (pa_cons pe_str (pa_cons pe_str pa_nil)))))))))))) pa_nil))))
      (pss_cons (ps_if (pt_cmpR op_eq (pv 4) pe_str (nomark _))
        (pss_cons (ps_set (i := 5) scRuleL.nd rfl (Or.inl rfl) (pe_call cT.F hr1 (by rfl) cT.g cT.kp cT.b .nil pass0 (pa_cons (pv 0) (pa_cons (pe_ix ix_list (pe_lst (pa_cons pe_int (pa_cons pe_int (pa_cons pe_int pa_nil))))
          (pe_call cT.F hr1 (by rfl) cT.g cT.kp cT.b .nil pass0 (pa_cons (pv 0) (pa_cons pe_int pa_nil))) (fun _ _ => rfl)) pa_nil))))
        (pss_one (ps_ret (pe_tup (pa_cons (pv 1) (pa_cons (pv 4) (pa_cons (pe_callTy call_tuple_of (by rfl) T.tup (by decide +kernel) (pa_cons (pe_lc (own := [("_law_k", 6)]) (g := gName 6) (tt := tYes) rfl scRuleL.nd
          (pi_range1 (by rfl) T.rng (pa_cons (pv 5) pa_nil)) (blkOk_by (N := nRl) (sc := defScope sRuleL) (by decide +kernel)) (fun _ _ _ _ _ => pg_name (i := 6) scRuleL.nd rfl (Or.inl rfl)) (fun _ _ _ _ _ => pts_nil)
          (fun _ _ _ _ _ => pe_call cO.F hr (by rfl) cO.g cO.kp cO.b .nil pass0 (pa_cons (pv 0) (pa_cons (pv 3) pa_nil)))) pa_nil)) pa_nil))))))) pss_nil)
      (pss_cons (ps_set (i := 7) scRuleL.nd rfl (Or.inl rfl) (pe_tup (pa_cons (pe_call cO.F hr (by rfl) cO.g cO.kp cO.b .nil pass0 (pa_cons (pv 0) (pa_cons (pe_ifExp (pt_cmpR op_eq (pv 4) pe_str (nomark _))
          (pe_lst (pa_cons pe_str (pa_cons pe_str (pa_cons pe_str (pa_cons pe_str (pa_cons pe_str pa_nil)))))) (pv 3)) pa_nil))) pa_nil)))
      (pss_cons (ps_if (pt_cmpR op_eq (pv 4) pe_str (nomark _))
        (pss_one (ps_set (i := 7) scRuleL.nd rfl (Or.inl rfl) (pe_op op_catA (pv 7) (pe_tup (pa_cons (pe_call cO.F hr (by rfl) cO.g cO.kp cO.b .nil pass0 (pa_cons (pv 0) (pa_cons (pv 3) pa_nil))) (pa_cons (pe_call cO.F hr (by rfl) cO.g cO.kp cO.b .nil pass0 (pa_cons (pv 0) (pa_cons (pv 3) pa_nil))) pa_nil))))))
        (pss_one (ps_if (pt_cmpR op_in_seq (pv 4) (pe_lst (pa_cons pe_str (pa_cons pe_str pa_nil))) (by rfl))
          (pss_one (ps_set (i := 7) scRuleL.nd rfl (Or.inl rfl) (pe_op op_catA (pv 7) (pe_tup (pa_cons (pe_call cO.F hr (by rfl) cO.g cO.kp cO.b .nil pass0 (pa_cons (pv 0) (pa_cons (pe_lst (pa_cons pe_str (pa_cons pe_str (pa_cons pe_str (pa_cons pe_str (pa_cons pe_str (pa_cons pe_str (pa_cons pe_str pa_nil)))))))) pa_nil))) pa_nil))))) pss_nil)))
      (pss_one (ps_ret (pe_op op_catA (pe_tup (pa_cons (pv 1) (pa_cons (pv 4) pa_nil))) (pv 7)))))))), ?_⟩
    refine q_raw (op_raw (el_lst (ea_cs (first5.map V.str)) (by decide) H (Ex.refl _) _ fun q0 H0 hq0 e0 h0 => ?_))
    have row0 := row.ex e0
    refine ⟨_, rfl, draw (m := 5) (ev_var rfl) (ev_is (ev_len (ev_var rfl) (sq_of (e0 _ _ ht))) rfl) row0 (by decide) (by decide) fun n0 G0 hn0 hm0 d0 => ?_⟩
    have neq0 : q0 ≠ r := row.ne_new hq0
    refine ⟨1, n0, rfl, rfl, _, rfl, t, _, rfl, sq_of (d0.kp _ _ hne (e0 _ _ ht)), fun q1 hq1 => ?_⟩
    have e5 : (five.map V.str).length = 5 := rfl
    have e6 : (first5.map V.str).length = 5 := rfl
    have cl := cut_len (xs := five.map V.str) (lo := none) (hi := some (1 + n0))
    refine ⟨q0, q1, _, _, rfl, rfl, (Ex.new hq1) _ _ (d0.kp _ _ neq0 h0), upd_same, sz_of (by omega), fun p hp => ?_⟩
    have hL : ∀ x ∈ first5.map V.str ++ cutV (five.map V.str) none (some (1 + n0)), ∃ y ∈ ten, x = .str y := by
      intro x hx
      rcases List.mem_append.mp hx with hx | hx
      · obtain ⟨y, hy, rfl⟩ := one_str hx
        exact ⟨y, List.mem_append_left _ hy, rfl⟩
      · obtain ⟨y, hy, rfl⟩ := one_str (cut_mem hx)
        exact ⟨y, List.mem_append_right _ hy, rfl⟩
    have hL1 : 0 < (first5.map V.str ++ cutV (five.map V.str) none (some (1 + n0))).length := by rw [List.length_append]; omega
    have hL2 : (first5.map V.str ++ cutV (five.map V.str) none (some (1 + n0))).length < 1000 := by rw [List.length_append]; omega
    have d3 : Dr K r H (upd (upd G0 q1 (.lst (cutV (five.map V.str) none (some (1 + n0))))) p (.lst (first5.map V.str ++ cutV (five.map V.str) none (some (1 + n0))))) := Dr.pre e0 (d0.ex ((Ex.new hq1).trans (Ex.new hp)))
    have hs : (upd (upd G0 q1 (.lst (cutV (five.map V.str) none (some (1 + n0))))) p (.lst (first5.map V.str ++ cutV (five.map V.str) none (some (1 + n0))))) p = some (.lst (first5.map V.str ++ cutV (five.map V.str) none (some (1 + n0)))) := upd_same
    have nep : p ≠ r := (d0.row.ex (Ex.new hq1)).ne_new hp
    show tSeq _ _ _ ([some (.ref r), some (.str m), some (.ref t), some (.ref p), none, none, none, none] : L2.St) _
    generalize upd (upd G0 q1 (.lst (cutV (five.map V.str) none (some (1 + n0))))) p (.lst (first5.map V.str ++ cutV (five.map V.str) none (some (1 + n0)))) = H3 at d3 hs ⊢
    generalize first5.map V.str ++ cutV (five.map V.str) none (some (1 + n0)) = L at hL hL1 hL2 hs
    clear hp hq1 cl d0 hm0 hn0 h0 e0 row0 neq0 hq0
    refine q_raw (drawS (xs := knds) (ev_var rfl) d3.row (by decide) (by decide) fun kd G4 hk d4 => ?_)
    have d4' := d3.trans d4
    have hs4 := d4.kp _ _ nep hs
    clear d4 hs d3
    refine q_when (b := decide (kd = Str.ofString "join")) (et_is (et_test (ev_op (ev_var rfl) ev_c (rv_eq rfl))) strEq) (fun hb H5 e5' => ?_) (fun hb H5 e5' => ?_)
    · have hj : kd = Str.ofString "join" := by simpa using hb
      subst hj
      have row5 := d4'.row.ex e5'
      refine ⟨_, rfl, by show 3 ≤ sizeLine; decide, fun q hq => ?_⟩
      have row6 : Row K (upd H5 q (.lst [.int 4, .int 4, .int 5])) r := row5.ex (Ex.new hq)
      have neq : q ≠ r := row5.ne_new hq
      refine draw (m := 3) (ev_var rfl) ev_c row6 (by decide) (by decide) fun n1 G1 hn1 hm1 d1 => ?_
      obtain ⟨m2, ha2, l2, u2⟩ : ∃ m2 : Int, atI [V.int 4, V.int 4, V.int 5] n1 = some (.int m2) ∧ 4 ≤ m2 ∧ m2 ≤ 5 := by
        have : n1 = 0 ∨ n1 = 1 ∨ n1 = 2 := by omega
        rcases this with rfl | rfl | rfl
        · exact ⟨4, rfl, by decide, by decide⟩
        · exact ⟨4, rfl, by decide, by decide⟩
        · exact ⟨5, rfl, by decide, by decide⟩
      refine ⟨q, _, n1, _, rfl, rfl, sq_of (d1.kp _ _ neq upd_same), ha2, r, m2, rfl, d1.row, by omega, by omega, fun n2 G2 hn2 hm2 d2 => ?_⟩
      have d02 : Dr K r H G2 := d4'.trans (Dr.pre e5' (Dr.trans (Dr.pre (Ex.new hq) d1) d2))
      have hs2 : G2 p = some (.lst L) := d2.kp _ _ nep (d1.kp _ _ nep ((Ex.new hq) _ _ (e5' _ _ hs4)))
      refine ⟨_, rfl, _, rfl, _, rfl, n2, rfl, by omega, by omega, fun D hD => ?_⟩
      have hD2 : H D = none := d02.free row hD
      have neD : D ≠ r := row.ne_new hD2
      have neDp : D ≠ p := (ne_of_none hs2 hD).symm
      refine lc_range (lo := 0) (n := n2.toNat) (fun i G => ∃ ys : List Str, ys.length = i ∧ (∀ y ∈ ys, y ∈ ten) ∧ G D = some (.lst (ys.map V.str)) ∧ G p = some (.lst L) ∧ Dr K r H G) ⟨[], rfl, fun _ z => (by cases z), upd_same, by rw [upd_ne neDp.symm]; exact hs2, ?_⟩ ?_ ?_
      · exact ⟨d02.kp.updL hD2, d02.row.ex (Ex.new hD)⟩
      · rintro i G hi ⟨ys, hlen, hys, hGD, hGp, d⟩
        refine ⟨rfl, ?_⟩
        unfold tYes
        dsimp only
        rw [if_pos rfl]
        refine ⟨_, rfl, _, rfl, r, p, L, rfl, d.row, nep, hGp, hL1, by omega, fun v G' hv d' => ?_⟩
        obtain ⟨y, hy, rfl⟩ := hL v hv
        refine ⟨ys.map V.str, d'.kp _ _ neD hGD, sz_lt (by rw [List.length_map]; omega), ys ++ [y], by simp [hlen], fun z hz => ?_, by rw [upd_same]; simp, by rw [upd_ne neDp.symm]; exact d'.kp _ _ nep hGp, (Dr.trans d d').updL hD2 (d'.kp _ _ neD hGD) neD⟩
        rcases List.mem_append.mp hz with hz | hz
        · exact hys z hz
        · rw [List.mem_singleton.mp hz]
          exact hy
      · rintro G ⟨ys, hlen, hys, hGD, hGp, d⟩
        refine ⟨D, ys.map V.str, rfl, .inl ⟨sq_of hGD, fun b hb => ⟨by show 3 ≤ sizeLine; decide, fun a ha => ?_⟩⟩⟩
        refine k a _ _ (d.ex ((Ex.new hb).trans (Ex.new ha))) (good_j upd_same ((Ex.new ha) _ _ upd_same) hm hys (by omega))
    have nj : kd ≠ Str.ofString "join" := by simpa using hb
    clear hb
    have row5 := d4'.row.ex e5'
    have d5 : Dr K r H H5 := d4'.ex e5'
    have hs5 : H5 p = some (.lst L) := e5' _ _ hs4
    show tSeq _ _ _ ([some (.ref r), some (.str m), some (.ref t), some (.ref p), some (.str kd), none, none, none] : L2.St) _
    have more1 : ∀ Q' : VK, (∀ y G, ((kd = Str.ofString "names" ∧ y ∈ folds) ∨ (kd ≠ Str.ofString "names" ∧ y ∈ ten)) → Dr K r H5 G → Q' (.str y) G) →
        tCall (spOne (K := K)) [] E0 (tCons (tVar 0) (tCons (tIf (tTest (tOp rEq (tVar 4) (tC (.str (Str.ofString "names"))))) (tLst (tCs (folds.map V.str))) (tVar 3)) tNil)) ([some (.ref r), some (.str m), some (.ref t), some (.ref p), some (.str kd), none, none, none] : L2.St) H5 Q' := by
      intro Q' q'
      refine ⟨_, rfl, ?_⟩
      show tTest (tOp rEq (tVar 4) (tC (.str (Str.ofString "names")))) ([some (.ref r), some (.str m), some (.ref t), some (.ref p), some (.str kd), none, none, none] : L2.St) H5 (fun c H1 => if c = true then tLst (tCs (folds.map V.str)) ([some (.ref r), some (.str m), some (.ref t), some (.ref p), some (.str kd), none, none, none] : L2.St) H1 (fun y H2 => spOne (K := K) [.ref r, y] H2 Q' E0) else tVar 3 ([some (.ref r), some (.str m), some (.ref t), some (.ref p), some (.str kd), none, none, none] : L2.St) H1 (fun y H2 => spOne (K := K) [.ref r, y] H2 Q' E0))
      refine (et_is (et_test (ev_op (ev_var rfl) ev_c (rv_eq rfl))) strEq : EvT (tTest (tOp rEq (tVar 4) (tC (.str (Str.ofString "names"))))) ([some (.ref r), some (.str m), some (.ref t), some (.ref p), some (.str kd), none, none, none] : L2.St) H5 (decide (kd = Str.ofString "names"))) H5 (Ex.refl _) _ fun H7 e57 => ?_
      by_cases hn : kd = Str.ofString "names"
      · rw [decide_eq_true hn, if_pos rfl]
        refine el_lst (ea_cs (folds.map V.str)) (by decide) H7 (Ex.refl _) _ fun l H8 hl e8 h8 => ?_
        refine ⟨r, l, folds.map V.str, rfl, row5.ex (e57.trans e8), (row5.ex e57).ne_new hl, h8, by decide, by decide, fun v G hv d => ?_⟩
        obtain ⟨y, hy, rfl⟩ := one_str hv
        exact q' y G (.inl ⟨hn, hy⟩) (Dr.pre (e57.trans e8) d)
      · rw [decide_eq_false hn, if_neg (by decide)]
        refine ⟨_, rfl, r, p, L, rfl, row5.ex e57, nep, e57 _ _ hs5, hL1, by omega, fun v G hv d => ?_⟩
        obtain ⟨y, hy, rfl⟩ := hL v hv
        exact q' y G (.inr ⟨hn, hy⟩) (Dr.pre e57 d)
    have fin : ∀ (bs : Addr) (rest : List V) (G : Hp), Dr K r H G → G bs = some (.tup rest) → rest ≠ [] → rest.length ≤ 3 → (∀ a G', Ex G G' → G' a = some (.tup (.str m :: .str kd :: rest)) → ∃ d, Good G' (.ref a) (m, d)) →
        tRet (tOp (rCatA K) (tTup (tCons (tVar 1) (tCons (tVar 4) tNil))) (tVar 7)) { nx := fun _ H' => Q .non H', rt := Q } ([some (.ref r), some (.str m), some (.ref t), some (.ref p), some (.str kd), none, none, some (.ref bs)] : L2.St) G := by
      intro bs rest G d hb hne' hl hg
      refine op_raw (tup_raw ⟨_, rfl, _, rfl, by show 2 ≤ sizeLine; decide, fun c hc => ⟨_, rfl, c, bs, _, rest, rfl, rfl, st_of upd_same, st_of ((Ex.new hc) _ _ hb), sz_of ?_, fun z => (by cases z), fun _ z => absurd z hne', fun _ _ a ha => ?_⟩⟩)
      · show 2 + rest.length ≤ 100000
        omega
      · obtain ⟨dd, hd⟩ := hg a _ ((Ex.new hc).trans (Ex.new ha)) upd_same
        exact k a dd _ (d.ex ((Ex.new hc).trans (Ex.new ha))) hd
    refine q_raw (tup_raw (more1 _ fun y1 G6 hy1 d6 => ⟨by show 1 ≤ sizeLine; decide, fun b1 hb1 => ?_⟩))
    have d6' : Dr K r H (upd G6 b1 (.tup [.str y1])) := (d5.trans d6).ex (Ex.new hb1)
    have h6 : (upd G6 b1 (.tup [.str y1])) b1 = some (.tup [.str y1]) := upd_same
    have hs6 : (upd G6 b1 (.tup [.str y1])) p = some (.lst L) := (Ex.new hb1) _ _ (d6.kp _ _ nep hs5)
    have neb1 : b1 ≠ r := d6.row.ne_new hb1
    show tSeq _ _ _ ([some (.ref r), some (.str m), some (.ref t), some (.ref p), some (.str kd), none, none, some (.ref b1)] : L2.St) _
    generalize upd G6 b1 (.tup [.str y1]) = H6 at d6' h6 hs6 ⊢
    refine q_if (b := decide (kd = Str.ofString "choose")) (et_is (et_test (ev_op (ev_var rfl) ev_c (rv_eq rfl))) strEq) (fun hb H7 e7 => ?_) (fun hb H7 e7 => ?_)
    · have hc : kd = Str.ofString "choose" := by simpa using hb
      subst hc
      have hy : y1 ∈ ten := by
        rcases hy1 with ⟨z, _⟩ | ⟨_, z⟩
        · exact absurd z (by decide +kernel)
        · exact z
      have row7 := d6'.row.ex e7
      refine s_raw (op_raw ⟨_, rfl, tup_raw (drawL (r := r) (t := p) (xs := L) (ev_var rfl) (ev_var rfl) row7 nep (e7 _ _ hs6) hL1 (by omega) fun v2 G2 hv2 d2 => ?_)⟩)
      refine drawL (r := r) (t := p) (xs := L) (ev_var rfl) (ev_var rfl) d2.row nep (d2.kp _ _ nep (e7 _ _ hs6)) hL1 (by omega) fun v3 G3 hv3 d3 => ?_
      obtain ⟨y2, hy2, rfl⟩ := hL v2 hv2
      obtain ⟨y3, hy3, rfl⟩ := hL v3 hv3
      have hb3 : G3 b1 = some (.tup [.str y1]) := d3.kp _ _ neb1 (d2.kp _ _ neb1 (e7 _ _ h6))
      refine ⟨by show 2 ≤ sizeLine; decide, fun b2 hb2 => ⟨b1, b2, [.str y1], [.str y2, .str y3], rfl, rfl, st_of ((Ex.new hb2) _ _ hb3), st_of upd_same, by show 1 + 2 ≤ sizeLine; decide, fun z => (by cases z), fun _ z => (by cases z), fun _ _ b4 hb4 => ?_⟩⟩
      exact fin b4 [.str y1, .str y2, .str y3] _ ((((d6'.ex e7).trans d2).trans d3).ex ((Ex.new hb2).trans (Ex.new hb4))) upd_same (by simp) (by show 3 ≤ 3; decide) fun a G' e' h' => ⟨_, good_3 h' hm hy hy2 hy3⟩
    have nc : kd ≠ Str.ofString "choose" := by simpa using hb
    clear hb
    have row7 := d6'.row.ex e7
    refine s_if (b := inV (.str kd) [.str (Str.ofString "pick"), .str (Str.ofString "need")]) (et_test (ev_opL (ev_var rfl) (el_lst (ea_cs [.str (Str.ofString "pick"), .str (Str.ofString "need")]) (by decide)) fun _ _ h _ => rv_isL (sq_of h) rfl rfl)) (fun hb H8 e8 => ?_) (fun hb H8 e8 => ?_)
    · obtain ⟨ff, fn⟩ := k_pn kd hk hb
      have hy : y1 ∈ ten := by
        rcases hy1 with ⟨z, _⟩ | ⟨_, z⟩
        · exact absurd z fn
        · exact z
      refine s_raw (op_raw ⟨_, rfl, tup_raw (drawS (xs := wrds) (ev_var rfl) (row7.ex e8) (by decide) (by decide) fun y2 G2 hy2 d2 => ?_)⟩)
      have hb3 : G2 b1 = some (.tup [.str y1]) := d2.kp _ _ neb1 ((e7.trans e8) _ _ h6)
      refine ⟨by show 1 ≤ sizeLine; decide, fun b2 hb2 => ⟨b1, b2, [.str y1], [.str y2], rfl, rfl, st_of ((Ex.new hb2) _ _ hb3), st_of upd_same, by show 1 + 1 ≤ sizeLine; decide, fun z => (by cases z), fun _ z => (by cases z), fun _ _ b4 hb4 => ?_⟩⟩
      exact fin b4 [.str y1, .str y2] _ (((d6'.ex (e7.trans e8)).trans d2).ex ((Ex.new hb2).trans (Ex.new hb4))) upd_same (by simp) (by show 2 ≤ 3; decide) fun a G' e' h' => ⟨_, good_2 h' hm hk (ten_ok y1 hy).1 (wrds_ok y2 hy2).1 ff (ten_ok y1 hy).2 (wrds_ok y2 hy2).2⟩
    · refine fin b1 [.str y1] H8 (d6'.ex (e7.trans e8)) ((e7.trans e8) _ _ h6) (by simp) (by show 1 ≤ 3; decide) fun a G' e' h' => ⟨.tuple [.str m, .str kd, .str y1], ?_⟩
      rcases hy1 with ⟨hn, z⟩ | ⟨hn, z⟩
      · exact good_1 h' hm hk (folds_ok y1 z).1 (.inr ⟨hn, (folds_ok y1 z).2⟩)
      · exact good_1 h' hm hk (ten_ok y1 z).1 (.inl ⟨k_one kd hk nj nc hb hn, (ten_ok y1 z).2⟩)
end
end Bl
namespace Bl
open PySem PySem.Spec PyProof.Rows L2 Bk Bm Evl Be Cr Bp TL
abbrev sRulesL : Stmt := top 73
def eight : List Str := ["m", "n", "o", "p/q", "r", "s", "t/u", "v/abc123/def456"].map Str.ofString
theorem cut_to {xs : List V} {j : Nat} (h : j ≤ xs.length) : cutV xs none (some (j : Int)) = xs.take j := by
  have c1 : HT.sIx xs.length 0 none = 0 := HT.sIx_none _ _
  have c2 : HT.sIx xs.length xs.length (some (j : Int)) = j := by rw [HT.sIx_nat]; omega
  unfold cutV
  rw [c1, c2]
  simp
theorem ins_perm {α : Type} (gs : List α) (j : Nat) (g : α) : (gs.take j ++ [g] ++ gs.drop j).Perm (g :: gs) := by
  have h : (gs.take j ++ [g] ++ gs.drop j) = gs.take j ++ g :: gs.drop j := by simp
  rw [h]
  have p := List.perm_middle (a := g) (l₁ := gs.take j) (l₂ := gs.drop j)
  rw [List.take_append_drop] at p
  exact p
theorem five_nodup : five.Nodup := by decide +kernel
theorem five_new {i : Nat} {q : Str} (h : five[i]? = some q) : q ∉ five.take i := by
  intro hm
  obtain ⟨j, e⟩ := List.getElem?_of_mem hm
  have hj2 : j < i := by
    have h1 := (List.getElem?_eq_some_iff.mp e).1
    have := List.length_take_le i five
    omega
  rw [List.getElem?_take_of_lt hj2] at e
  have := nd_ix five_nodup h e
  omega
section
variable {P : Program} {w : World} {K : PySem.W.Frag} {mg : Str → Option Value} {base : Heap}
abbrev nRs : List Str := ["_law_row", "_law_most", "_law_all_made", "_law_found", "_law_made"]
theorem scRulesL : FnScope nRs ["_law_row", "_law_most"] (defScope sRulesL) := ⟨rfl, rfl, rfl, by decide +kernel, rfl, by decide +kernel, by decide +kernel⟩
/-- a drawn tuple of rules -/
def RsAt (H : Hp) (xs : List V) (gs : List (Str × PyData)) : Prop := Paired (Good H) xs gs ∧ (gs.map (·.1)).Nodup ∧ gs.length ≤ 5
def spRulesL : Sp := fun vs H Q _ => ∃ r, vs = [.ref r, .int 4] ∧ Row K H r ∧ ∀ p xs gs G, Dr K r H G → H p = none → G p = some (.tup xs) → RsAt G xs gs → 1 ≤ gs.length → Q (.ref p) G
/-- between the turns -/
def RInv (K : PySem.W.Frag) (r A D l : Addr) (H0 : Hp) (L : List V) (i : Nat) (σ : L2.St) (G : Hp) : Prop :=
  ∃ (vs : List V) (gs : List (Str × PyData)) (u : Option V), σ = [some (.ref r), some (.int 4), some (.ref A), some (.ref D), u] ∧ G D = some (.lst vs) ∧ G l = some (.lst L) ∧ G A = some (.lst (five.map V.str)) ∧
    Paired (Good G) vs gs ∧ (gs.map (·.1)).Nodup ∧ (∀ g ∈ gs, g.1 ∈ five.take i) ∧ gs.length = i ∧ Dr K r H0 G
theorem ok_rulesL {f : Addr} {fd : FuncData} (F : Fun K "_law_rules" "_law_rules" sRulesL f fd) (T : Gv mg) (cT : Cal P w K mg base CX0 1 "_law_taken" ["_law_row", "_law_many"] (spTaken (K := K)))
    (cR : Cal P w K mg base CX0 3 "_law_rule" ["_law_row", "_law_made", "_law_all_made"] (spRuleL (K := K))) : FnOk P w K mg base CX0 4 f fd ["_law_row", "_law_most"] (spRulesL (K := K)) := by
  refine F.ok scRulesL (fun vs H Q E h => ?_) (fun cdv A outer s H vs Q E hr h => ?_)
  · obtain ⟨r, rfl, _⟩ := h
    rfl
  · obtain ⟨r, rfl, row, k⟩ := h
    have hr1 : Room 1 _ := hr.mono (by decide)
    refine ⟨_, pss_cons (ps_par (i := 2) (j := 3) rfl scRulesL.nd rfl rfl (by decide) rfl rfl (pa_cons (pe_slice sl_list (pe_lst (pa_cons pe_str (pa_cons pe_str (pa_cons pe_str (pa_cons pe_str (pa_cons pe_str (pa_cons pe_str (pa_cons pe_str (pa_cons pe_str pa_nil))))))))) po_none
        (po_some (pe_callB (call_max2 rfl) (by rfl) T.max (by decide +kernel) (pa_cons pe_int (pa_cons (pv 1) pa_nil))))) (pa_cons (pe_lst pa_nil) pa_nil)) (by rfl))
      (pss_cons (ps_for PassesOwn.never rfl (pi_list (pe_slice sl_list (pv 2) po_none (po_some (pe_op op_add pe_int (pe_call cT.F hr1 (by rfl) cT.g cT.kp cT.b .nil pass0 (pa_cons (pv 0) (pa_cons (pv 1) pa_nil))))))) (pg_name (i := 4) scRulesL.nd rfl (Or.inl rfl))
        (pss_one (ps_expr (pe_bm PySem.F.plainAttrs_list PySem.F.slot_list_insert PySem.F.type_list_insert mt_insert (pv 3) (pa_cons (pe_call cT.F hr1 (by rfl) cT.g cT.kp cT.b .nil pass0 (pa_cons (pv 0) (pa_cons (pe_op op_add (pe_callB call_len_seq (by rfl) T.len PySem.boot_len (pa_cons (pv 3) pa_nil)) pe_int) pa_nil)))
          (pa_cons (pe_call cR.F hr (by rfl) cR.g cR.kp cR.b .nil pass0 (pa_cons (pv 0) (pa_cons (pv 4) (pa_cons (pv 2) pa_nil)))) pa_nil))))))
      (pss_one (ps_ret (pe_callTy call_tuple_of (by rfl) T.tup (by decide +kernel) (pa_cons (pv 3) pa_nil))))), ?_⟩
    refine ⟨by show 8 ≤ sizeLine; decide, fun q hq => ?_⟩
    refine ⟨_, rfl, 5, 4, rfl, _, rfl, q, eight.map V.str, rfl, sq_of upd_same, fun A' hA => ⟨by show 0 ≤ sizeLine; decide, fun D hD => ⟨_, _, rfl, ?_⟩⟩⟩
    have e0 : Ex H (upd (upd (upd H q (.lst (eight.map V.str))) A' (.lst (five.map V.str))) D (.lst [])) := (Ex.new (o := .lst (eight.map V.str)) hq).trans ((Ex.new (o := .lst (five.map V.str)) hA).trans (Ex.new (o := .lst []) hD))
    have hAt : (upd (upd (upd H q (.lst (eight.map V.str))) A' (.lst (five.map V.str))) D (.lst [])) A' = some (.lst (five.map V.str)) := (Ex.new hD) _ _ upd_same
    have hDt : (upd (upd (upd H q (.lst (eight.map V.str))) A' (.lst (five.map V.str))) D (.lst [])) D = some (.lst []) := upd_same
    have row0 : Row K (upd (upd (upd H q (.lst (eight.map V.str))) A' (.lst (five.map V.str))) D (.lst [])) r := row.ex e0
    have neD : D ≠ r := (row.ex ((Ex.new (o := .lst (eight.map V.str)) hq).trans (Ex.new (o := .lst (five.map V.str)) hA))).ne_new hD
    have neA : A' ≠ r := (row.ex (Ex.new (o := .lst (eight.map V.str)) hq)).ne_new hA
    have neDA : D ≠ A' := (ne_of_none upd_same hD).symm
    have hD0 : H D = none := fresh_back ((Ex.new (o := .lst (eight.map V.str)) hq).trans (Ex.new (o := .lst (five.map V.str)) hA)) hD
    show tSeq _ _ _ ([some (.ref r), some (.int 4), some (.ref A'), some (.ref D), none] : L2.St) (upd (upd (upd H q (.lst (eight.map V.str))) A' (.lst (five.map V.str))) D (.lst []))
    generalize upd (upd (upd H q (.lst (eight.map V.str))) A' (.lst (five.map V.str))) D (.lst []) = H1 at e0 hAt hDt row0 ⊢
    refine ⟨_, rfl, draw (m := 4) (ev_var rfl) (ev_var rfl) row0 (by decide) (by decide) fun n G0 hn hm d0 => ?_⟩
    refine ⟨1, n, rfl, rfl, _, rfl, A', _, rfl, sq_of (d0.kp _ _ neA hAt), fun l hl => ?_⟩
    have hcut : cutV (five.map V.str) none (some (1 + n)) = (five.take (1 + n.toNat)).map V.str := by
      have e : (1 + n) = ((1 + n.toNat : Nat) : Int) := by omega
      rw [e, cut_to (by show 1 + n.toNat ≤ 5; omega), List.map_take]
    rw [hcut]
    have neL : l ≠ r := d0.row.ne_new hl
    have neLD : l ≠ D := (ne_of_none (d0.kp _ _ neD hDt) hl).symm
    have neLA : l ≠ A' := (ne_of_none (d0.kp _ _ neA hAt) hl).symm
    have d1 : Dr K r H (upd G0 l (.lst ((five.take (1 + n.toNat)).map V.str))) := Dr.pre e0 (d0.ex (Ex.new hl))
    have hlen : ((five.take (1 + n.toNat)).map V.str).length = 1 + n.toNat := by
      rw [List.length_map, List.length_take]
      show min (1 + n.toNat) 5 = _
      omega
    refine ⟨l, rfl, ⟨_, sq_of upd_same⟩, for_list (K := K) (xs := (five.take (1 + n.toNat)).map V.str) (RInv K r A' D l H ((five.take (1 + n.toNat)).map V.str)) ?_ (fun i σ' G' _ q => ?_) (fun i x σ' G' hi q => ?_) (fun σ' G' q => ?_)⟩
    · exact ⟨[], [], none, rfl, (Ex.new hl) _ _ (d0.kp _ _ neD hDt), upd_same, (Ex.new hl) _ _ (d0.kp _ _ neA hAt), .nil, List.nodup_nil, fun _ z => (by cases z), rfl, d1⟩
    · obtain ⟨vs, gs, u, _, _, hl', _⟩ := q
      exact sq_of hl'
    · obtain ⟨vs, gs, u, rfl, hGD, hGl, hGA, pf, nd, mem, hgl, d⟩ := q
      obtain ⟨q5, hq5, rfl⟩ : ∃ z, five[i]? = some z ∧ x = V.str z := by
        rw [List.getElem?_map] at hi
        cases e : (five.take (1 + n.toNat))[i]? with
        | none => rw [e] at hi; cases hi
        | some z =>
          rw [e] at hi
          have hi2 : i < 1 + n.toNat := by
            have := (List.getElem?_eq_some_iff.mp e).1
            rw [List.length_take] at this
            omega
          rw [List.getElem?_take_of_lt hi2] at e
          exact ⟨z, e, (Option.some.inj hi).symm⟩
      have hi5 : i < 5 := (List.getElem?_eq_some_iff.mp hq5).1
      have pl := pr_len pf
      refine ⟨_, rfl, .inl ⟨rfl, vs, sq_of hGD⟩, draw (m := (gs.length : Int) + 1) (ev_var rfl) (ev_op (ev_is (ev_len (ev_var rfl) (sq_of hGD)) (by rw [pl])) ev_c rv_I0) d.row (by omega) (by omega) fun j G1 hj hjm d1 => ?_⟩
      refine ⟨_, rfl, _, rfl, _, rfl, r, A', q5, rfl, d1.row, neA, d1.kp _ _ neA hGA, List.mem_of_getElem? hq5, fun a dd G2 d2 hg => ?_⟩
      have hGD2 : G2 D = some (.lst vs) := d2.kp _ _ neD (d1.kp _ _ neD hGD)
      refine ⟨D, vs, j, .ref a, rfl, rfl, hGD2, sz_lt (by omega), hj, by omega, ?_⟩
      have d12 := d1.trans d2
      have pf2 : Paired (Good G2) vs gs := pr_mono pf fun _ _ z => z.dr d.row d12
      refine ⟨vs.take j.toNat ++ [.ref a] ++ vs.drop j.toNat, gs.take j.toNat ++ [(q5, dd)] ++ gs.drop j.toNat, _, rfl, upd_same, ?_, ?_, ?_, ?_, ?_, ?_, ?_⟩
      · rw [upd_ne neLD]
        exact d12.kp _ _ neL hGl
      · rw [upd_ne neDA.symm]
        exact d12.kp _ _ neA hGA
      · exact pr_app (pr_app (pr_take (pr_mono pf2 fun _ _ z => z.updL hGD2) _) (.cons (hg.updL hGD2) .nil)) (pr_drop (pr_mono pf2 fun _ _ z => z.updL hGD2) _)
      · have pm := (ins_perm gs j.toNat (q5, dd)).map (·.1)
        rw [pm.nodup_iff]
        refine List.nodup_cons.mpr ⟨fun hm => ?_, nd⟩
        obtain ⟨g, hg1, hg2⟩ := List.mem_map.mp hm
        have := mem g hg1
        rw [show g.1 = q5 from hg2] at this
        exact five_new hq5 this
      · intro g hg1
        rw [List.take_succ, hq5]
        rcases List.mem_cons.mp ((ins_perm gs j.toNat (q5, dd)).mem_iff.mp hg1) with rfl | hg1
        · exact List.mem_append_right _ (by simp)
        · exact List.mem_append_left _ (mem g hg1)
      · rw [(ins_perm gs j.toNat (q5, dd)).length_eq, List.length_cons, hgl]
      · exact (d.trans d12).updL hD0 hGD2 neD
    · obtain ⟨vs, gs, u, rfl, hGD, hGl, hGA, pf, nd, mem, hgl, d⟩ := q
      rw [hlen] at hgl
      refine ⟨_, rfl, D, vs, rfl, .inl ⟨sq_of hGD, fun p hp => ?_⟩⟩
      exact k p vs gs _ (d.ex (Ex.new hp)) (d.free row hp) upd_same ⟨pr_mono pf fun _ _ z => z.mono (Ex.new hp), nd, by omega⟩ (by omega)
end
end Bl
namespace Bl
open PySem PySem.Spec PyProof.Rows L2 Bk Bm Evl Be Cr Bp TL
section
variable {K : PySem.W.Frag} {H G : Hp} {r : Addr} {v : V}
theorem Kd.kp {n : String} {xs0 ys0 : List V} (h : Kd K H v n) (hr : H r = some (.lst xs0)) (hr' : G r = some (.lst ys0)) (kp : Kp r H G) : Kd K G v n := by
  obtain ⟨t, k⟩ := h
  refine ⟨?_, k⟩
  cases t with
  | base t =>
    refine .base ?_
    cases t with
    | non => exact .non
    | bl b => exact .bl b
    | int i => exact .int i
    | str x => exact .str x
    | flt x => exact .flt x
    | @lst a xs h =>
      by_cases c : a = r
      · subst c; exact .lst hr'
      · exact .lst (kp _ _ c h)
    | frz h => exact .frz (kp _ _ (ne_of h hr (by intro z; cases z)) h)
    | tup h => exact .tup (kp _ _ (ne_of h hr (by intro z; cases z)) h)
    | dK h => exact .dK (kp _ _ (ne_of h hr (by intro z; cases z)) h)
    | dT h => exact .dT (kp _ _ (ne_of h hr (by intro z; cases z)) h)
  | byt b => exact .byt b
  | set h => exact .set (kp _ _ (ne_of h hr (by intro z; cases z)) h)
  | kList h c => exact .kList h c
  | kTuple h c => exact .kTuple h c
  | kDict h c => exact .kDict h c
  | fTuple h => exact .fTuple (kp _ _ (ne_of h hr (by intro z; cases z)) h)
  | fDict h => exact .fDict (kp _ _ (ne_of h hr (by intro z; cases z)) h)
theorem Sc.ex {a : Addr} {ns : List Int} (h : Sc K H a ns) (e : Ex H G) : Sc K G a ns := by
  rcases h with ⟨o, h⟩ | h
  · exact .inl ⟨o, e _ _ h⟩
  · exact .inr h
theorem Th.kp {o : Option (List V)} {xs0 ys0 : List V} (h : Th K H v o) (hr : H r = some (.lst xs0)) (hx0 : xs0.length ≠ 1) (hr' : G r = some (.lst ys0)) (kp : Kp r H G) : Th K G v o := by
  cases h with
  | sm h k hn => exact .sm (Sm.kp h hr hx0 kp) (Kd.kp k hr hr' kp) hn
  | tu h hx hl => exact .tu (kp _ _ (ne_of h hr (by intro z; cases z)) h) (fun x hh => Sm.kp (hx x hh) hr hx0 kp) hl
theorem Ru.kp {b : Bool} {xs0 ys0 : List V} (h : Ru K H v b) (hr : H r = some (.lst xs0)) (hx0 : xs0.length ≠ 1) (hr' : G r = some (.lst ys0)) (kp : Kp r H G) : Ru K G v b := by
  cases h with
  | no k h => exact .no (Kd.kp k hr hr' kp) h
  | short h hl => exact .short (kp _ _ (ne_of h hr (by intro z; cases z)) h) hl
  | long h h0 h1 hk hp hl hf => exact .long (kp _ _ (ne_of h hr (by intro z; cases z)) h) (Sm.kp h0 hr hx0 kp) (Sm.kp h1 hr hx0 kp) hk (pr_mono hp fun _ _ z => Th.kp z hr hx0 hr' kp) hl fun z x hx => Sm.kp (hf z x hx) hr hx0 kp
theorem Itr.kp {o : Option Str} {xs0 ys0 : List V} (h : Itr K H v o) (hr : H r = some (.lst xs0)) (hx0 : xs0.length ≠ 1) (hr' : G r = some (.lst ys0)) (kp : Kp r H G) : Itr K G v o := by
  cases o with
  | some p =>
    obtain ⟨h1, ⟨a, ts, h2, h3⟩, h4⟩ := h
    exact ⟨Ru.kp h1 hr hx0 hr' kp, ⟨a, ts, h2, kp _ _ (ne_of h3 hr (by intro z; cases z)) h3⟩, h4⟩
  | none => exact Ru.kp h hr hx0 hr' kp
theorem Itr.dr {o : Option Str} (h : Itr K H v o) (row : Row K H r) (d : Dr K r H G) : Itr K G v o := by
  obtain ⟨a, i, s, z, ns, hr, _⟩ := row
  obtain ⟨rl', hr'⟩ := d.row.at
  exact Itr.kp h hr (by show 4 ≠ 1; decide) hr' d.kp
/-! sorted made paths are one list -/
def ix (z : Str) : Nat := five.findIdx fun y => decide (y = z)
theorem ix_lt : ∀ x ∈ five, ∀ y ∈ five, ltCps x.cps.toList y.cps.toList = decide (ix x < ix y) := by decide +kernel
theorem ix_inj : ∀ x ∈ five, ∀ y ∈ five, ix x = ix y → x = y := by decide +kernel
theorem ris_pw : ∀ (l : List Str) (p : Str), (∀ z ∈ p :: l, z ∈ five) → risingS p l = true → (p :: l).Pairwise fun a b => ix a ≤ ix b
  | [], p, _, _ => List.pairwise_singleton _ _
  | x :: r, p, hm, h => by
    have h' : (!ltCps x.cps.toList p.cps.toList) = true ∧ risingS x r = true := by
      have h0 : (!ltCps x.cps.toList p.cps.toList && risingS x r) = true := h
      simpa using h0
    have ih := ris_pw r x (fun z hz => hm z (List.mem_cons_of_mem _ hz)) h'.2
    have hx := hm x (List.mem_cons_of_mem _ List.mem_cons_self)
    have hp := hm p List.mem_cons_self
    have le : ix p ≤ ix x := by
      have h1 := h'.1
      rw [ix_lt x hx p hp] at h1
      have h2 : ¬ ix x < ix p := by simpa using h1
      omega
    refine List.pairwise_cons.mpr ⟨fun z hz => ?_, ih⟩
    rcases List.mem_cons.mp hz with rfl | hz
    · exact le
    · exact Nat.le_trans le ((List.pairwise_cons.mp ih).1 z hz)
theorem srt_pw {l : List Str} (hm : ∀ z ∈ l, z ∈ five) (h : sortedS l = true) : l.Pairwise fun a b => ix a ≤ ix b := by
  cases l with
  | nil => exact List.Pairwise.nil
  | cons x r => exact ris_pw r x hm h
theorem uniq : ∀ l m : List Str, l.Pairwise (fun a b => ix a ≤ ix b) → m.Pairwise (fun a b => ix a ≤ ix b) → l.Perm m → (∀ z ∈ l, z ∈ five) → l = m
  | [], m, _, _, p, _ => (List.nil_perm.mp p).symm
  | x :: r, [], _, _, p, _ => absurd p.length_eq (by simp)
  | x :: r, y :: t, hl, hm, p, h5 => by
    have hx : x ∈ y :: t := p.mem_iff.mp List.mem_cons_self
    have hy : y ∈ x :: r := p.mem_iff.mpr List.mem_cons_self
    have le1 : ix x ≤ ix y := by
      rcases List.mem_cons.mp hy with h | h
      · rw [h]; exact Nat.le_refl _
      · exact (List.pairwise_cons.mp hl).1 y h
    have le2 : ix y ≤ ix x := by
      rcases List.mem_cons.mp hx with h | h
      · rw [h]; exact Nat.le_refl _
      · exact (List.pairwise_cons.mp hm).1 x h
    have e : x = y := ix_inj x (h5 x List.mem_cons_self) y (h5 y hy) (by omega)
    subst e
    rw [uniq r t (List.pairwise_cons.mp hl).2 (List.pairwise_cons.mp hm).2 p.cons_inv fun z hz => h5 z (List.mem_cons_of_mem _ hz)]
/-! drawn rules as data -/
theorem Good.dp {md : Str × PyData} (h : Good H v md) : Dp K H v md.2 := by
  obtain ⟨a, k, ts, ods, rfl, h1, h2, h3, h4, h5, h6, h7, h8⟩ := h
  rw [h8]
  refine .tup (SqT.of h1) (.cons (.str _) (.cons (.str _) ?_))
  clear h1 h3 h5 h7 h8
  induction h2 with
  | nil => exact .nil
  | cons r _ ih =>
    refine .cons ?_ ih
    cases r with
    | s x h => exact .str x
    | @t b ys h hy hl =>
      refine .tup (SqT.of h) ?_
      clear h hy hl
      induction ys with
      | nil => exact .nil
      | cons y r ih => exact .cons (.str y) ih
theorem lay_strs : ∀ {ys : List Str}, (∀ y ∈ ys, okS y) → PyData.canLayAll0 (ys.map PyData.str) = true ∧ PyData.depthAll (ys.map PyData.str) ≤ 1
  | [], _ => ⟨rfl, by simp [PyData.depthAll]⟩
  | y :: r, h => by
    obtain ⟨i1, i2⟩ := lay_strs (ys := r) fun z hz => h z (List.mem_cons_of_mem _ hz)
    refine ⟨?_, ?_⟩
    · show (PyData.strOk y && PyData.canLayAll0 (r.map PyData.str)) = true
      rw [(h y List.mem_cons_self).2.1, i1]
      rfl
    · simp only [List.map_cons, PyData.depthAll, PyData.depth] at i2 ⊢
      omega
theorem Good.lay {md : Str × PyData} (h : Good H v md) : md.2.canLay0 = true ∧ md.2.depth ≤ 4 := by
  obtain ⟨a, k, ts, ods, rfl, h1, h2, h3, h4, h5, h6, h7, h8⟩ := h
  rw [h8]
  have rest : PyData.canLayAll0 (ods.map (·.2)) = true ∧ PyData.depthAll (ods.map (·.2)) ≤ 3 := by
    clear h1 h3 h5 h7 h8
    induction h2 with
    | nil => exact ⟨rfl, by simp [PyData.depthAll]⟩
    | cons r _ ih =>
      cases r with
      | s x h =>
        refine ⟨?_, ?_⟩
        · show (PyData.strOk x && PyData.canLayAll0 _) = true
          rw [h.2.1, ih.1]
          rfl
        · have := ih.2
          simp only [List.map_cons, PyData.depthAll, PyData.depth]
          omega
      | @t b ys h hy hl =>
        obtain ⟨l1, l2⟩ := lay_strs hy
        refine ⟨?_, ?_⟩
        · show (PyData.canLayAll0 (ys.map PyData.str) && PyData.canLayAll0 _) = true
          rw [l1, ih.1]
          rfl
        · have := ih.2
          simp only [List.map_cons, PyData.depthAll, PyData.depth]
          omega
  have m1 := (ten_ok _ (five_ten _ h6)).1.2.1
  have k1 := (knds_ok k h4).1.2.1
  refine ⟨?_, ?_⟩
  · show (PyData.strOk md.1 && (PyData.strOk k && PyData.canLayAll0 (ods.map (·.2)))) = true
    rw [m1, k1, rest.1]
    rfl
  · have := rest.2
    simp only [PyData.depthAll, PyData.depth]
    omega
theorem dp_rs {xs : List V} {gs : List (Str × PyData)} (h : Paired (Good H) xs gs) : DpAll K H xs (gs.map (·.2)) := by
  induction h with
  | nil => exact .nil
  | cons r _ ih => exact .cons r.dp ih
theorem lay_rs {xs : List V} {gs : List (Str × PyData)} (h : Paired (Good H) xs gs) : PyData.canLayAll0 (gs.map (·.2)) = true ∧ PyData.depthAll (gs.map (·.2)) ≤ 5 := by
  induction h with
  | nil => exact ⟨rfl, by simp [PyData.depthAll]⟩
  | @cons x g l m r _ ih =>
    obtain ⟨l1, l2⟩ := r.lay
    refine ⟨?_, ?_⟩
    · show (PyData.canLay0 g.2 && PyData.canLayAll0 (m.map (·.2))) = true
      rw [l1, ih.1]
      rfl
    · have := ih.2
      simp only [List.map_cons, PyData.depthAll]
      omega
def dRs (gs : List (Str × PyData)) : PyData := .tuple (gs.map (·.2))
theorem sh_rs {xs : List V} {gs : List (Str × PyData)} (h : Paired (Good H) xs gs) : SeqAt.shaped (dRs gs) = true := by
  obtain ⟨l1, l2⟩ := lay_rs h
  show (PyData.canLayAll0 (gs.map (·.2)) && decide (PyData.depth (.tuple (gs.map (·.2))) ≤ 64)) = true
  rw [l1, decide_eq_true (by simp only [PyData.depth]; omega)]
  rfl
theorem eq_self {d : PyData} (h : SeqAt.shaped d = true) : PyData.eqv d d = true := by
  have h0 : (PyData.canLay0 d && decide (PyData.depth d ≤ 64)) = true := h
  simp only [Bool.and_eq_true] at h0
  exact SeqAt.eqv_refl_plain d (PyData.plain_of_canLay0 d h0.1)
theorem eq_len : ∀ (xs ys : List PyData), xs.length ≠ ys.length → PyData.eqvAll xs ys = false
  | [], [], h => absurd rfl h
  | [], _ :: _, _ => rfl
  | _ :: _, [], _ => rfl
  | x :: xs, y :: ys, h => by
    rw [PyData.eqvAll, eq_len xs ys (by simpa using h), Bool.and_false]
end
end Bl
namespace Bl
open PySem PySem.Spec PyProof.Rows L2 Bk Bm Evl Be Cr Bp TL
abbrev sRef : Stmt := top 77
/-! where a tuple of rules is wrong -/
theorem way_five : ∀ p ∈ five, ∀ q ∈ five, p ≠ q → way p q = false := by decide +kernel
theorem fb_good : ∀ (ps acc : List Str) (rest : List (Option Str)), (acc ++ ps).Nodup → (∀ z ∈ acc ++ ps, z ∈ five) → fb acc (ps.map some ++ rest) = fb (acc ++ ps) rest
  | [], acc, rest, _, _ => by simp
  | p :: r, acc, rest, nd, h5 => by
    have hn : acc.any (way p) = false := by
      rw [List.any_eq_false]
      intro q hq
      have hp5 := h5 p (List.mem_append_right _ List.mem_cons_self)
      have hq5 := h5 q (List.mem_append_left _ hq)
      have hne : p ≠ q := fun e => by
        subst e
        exact (List.nodup_append.mp nd).2.2 p hq p List.mem_cons_self rfl
      rw [way_five p hp5 q hq5 hne]
      decide
    show (if acc.any (way p) = true then some acc.length else fb (acc ++ [p]) (r.map some ++ rest)) = _
    rw [if_neg (by rw [hn]; decide)]
    have e : acc ++ p :: r = acc ++ [p] ++ r := by simp
    rw [e] at nd h5 ⊢
    exact fb_good r (acc ++ [p]) rest nd h5
section
variable {K : PySem.W.Frag} {H G : Hp} {r : Addr} {v : V}
theorem rs_five {xs : List V} {gs : List (Str × PyData)} (h : Paired (Good H) xs gs) : ∀ z ∈ gs.map (·.1), z ∈ five := by
  induction h with
  | nil => intro z hz; cases hz
  | cons r _ ih =>
    intro z hz
    rcases List.mem_cons.mp hz with rfl | hz
    · obtain ⟨a, k, ts, ods, _, _, _, _, _, _, h6, _⟩ := r
      exact h6
    · exact ih z hz
theorem itr_rs {xs : List V} {gs : List (Str × PyData)} (h : Paired (Good H) xs gs) : Paired (Itr K H) xs (gs.map fun g => some g.1) := by
  induction h with
  | nil => exact .nil
  | cons r _ ih => exact .cons r.itr ih
theorem heads_rs {xs : List V} {gs : List (Str × PyData)} (h : Paired (Good H) xs gs) : Heads H xs (gs.map (·.1)) := by
  induction h with
  | nil => exact .nil
  | cons r _ ih =>
    obtain ⟨a, k, ts, ods, h0, h1, _⟩ := r
    exact .cons ⟨a, _, h0, h1⟩ ih
theorem RsAt.mono {xs : List V} {gs : List (Str × PyData)} (e : Ex H G) (h : RsAt H xs gs) : RsAt G xs gs := ⟨pr_mono h.1 fun _ _ z => z.mono e, h.2⟩
theorem RsAt.dr {xs : List V} {gs : List (Str × PyData)} (h : RsAt H xs gs) (row : Row K H r) (d : Dr K r H G) : RsAt G xs gs := ⟨pr_mono h.1 fun _ _ z => z.dr row d, h.2⟩
/-- drawn rules are good ones -/
theorem rl_good {a : Addr} {xs : List V} {gs : List (Str × PyData)} (ha : H a = some (.tup xs)) (h : RsAt H xs gs) : Rl K H (.ref a) none := by
  obtain ⟨h1, h2, h3⟩ := h
  have hl := pr_len h1
  have t := Rl.tup (K := K) ha (by omega) (itr_rs h1)
  have e : (gs.map fun g => some g.1) = (gs.map (·.1)).map some ++ [] := by simp
  rw [e, fb_good (gs.map (·.1)) [] [] (by simpa using h2) (by simpa using rs_five h1)] at t
  exact t
/-- what breaks a tuple of rules behind those that make ps -/
def Bd (K : PySem.W.Frag) (ps : List Str) (H : Hp) (v : V) : Prop := Itr K H v none ∨ ∃ p, Itr K H v (some p) ∧ ps.any (way p) = true
theorem Bd.mono {ps : List Str} (e : Ex H G) (h : Bd K ps H v) : Bd K ps G v := by
  rcases h with h | ⟨p, h, z⟩
  · exact .inl (h.mono e)
  · exact .inr ⟨p, h.mono e, z⟩
theorem Bd.dr {ps : List Str} (h : Bd K ps H v) (row : Row K H r) (d : Dr K r H G) : Bd K ps G v := by
  rcases h with h | ⟨p, h, z⟩
  · exact .inl (Itr.dr h row d)
  · exact .inr ⟨p, Itr.dr h row d, z⟩
theorem Bd.kp {ps : List Str} {xs0 ys0 : List V} (h : Bd K ps H v) (hr : H r = some (.lst xs0)) (hx0 : xs0.length ≠ 1) (hr' : G r = some (.lst ys0)) (kp : Kp r H G) : Bd K ps G v := by
  rcases h with h | ⟨p, h, z⟩
  · exact .inl (Itr.kp h hr hx0 hr' kp)
  · exact .inr ⟨p, Itr.kp h hr hx0 hr' kp, z⟩
theorem rl_bad {a : Addr} {xs : List V} {gs : List (Str × PyData)} {i : Nat} (h : RsAt H xs gs) (hi : i ≤ gs.length) (hb : Bd K ((gs.map (·.1)).take i) H v) (ha : H a = some (.tup (xs.take i ++ [v] ++ xs.drop i))) : Rl K H (.ref a) (some (.int (i : Int))) := by
  obtain ⟨h1, h2, h3⟩ := h
  have hl := pr_len h1
  obtain ⟨o, ho, hx⟩ : ∃ o, Itr K H v o ∧ ∀ rest, fb ((gs.map (·.1)).take i) (o :: rest) = some i := by
    have hlen : ((gs.map (·.1)).take i).length = i := by rw [List.length_take, List.length_map]; omega
    rcases hb with hb | ⟨p, hb, z⟩
    · exact ⟨none, hb, fun rest => by show some _ = some i; rw [hlen]⟩
    · refine ⟨some p, hb, fun rest => ?_⟩
      show (if ((gs.map (·.1)).take i).any (way p) = true then some _ else _) = some i
      rw [if_pos z, hlen]
  have it := itr_rs (K := K) h1
  have t := Rl.tup (K := K) (os := (gs.map fun g => some g.1).take i ++ [o] ++ (gs.map fun g => some g.1).drop i) ha (by
    simp only [List.length_append, List.length_take, List.length_drop, List.length_singleton]
    omega) (pr_app (pr_app (pr_take it i) (.cons ho .nil)) (pr_drop it i))
  have e : (gs.map fun g => some g.1).take i = ((gs.map (·.1)).take i).map some := by rw [← List.map_take, ← List.map_take, List.map_map]; rfl
  have nd : ((gs.map (·.1)).take i).Nodup := h2.sublist (List.take_sublist _ _)
  have h5 : ∀ z ∈ (gs.map (·.1)).take i, z ∈ five := fun z hz => rs_five h1 z (List.mem_of_mem_take hz)
  have e2 : fb [] ((gs.map fun g => some g.1).take i ++ [o] ++ (gs.map fun g => some g.1).drop i) = some i := by
    rw [e, List.append_assoc, fb_good _ [] _ (by simpa using nd) (by simpa using h5)]
    exact hx _
  rw [e2] at t
  exact t
end
section
variable {X : Cx} {CX : CXT} {k : Nat} {f C : Addr} {fd : FuncData} {ps : List Str} {sp : Sp} {E : L2.St → XK} {x : Str} {p pos : Pos} {e : Expr} {es : List Expr} {t : TA}
/-- C(e, ..) within a try -/
def tMakeS (C : Addr) (sp : Sp) (E : L2.St → XK) (t : TA) : TE := fun τ G Q => t τ G fun vs G1 => ∀ y dy, G1 y = none → G1 dy = none → dy ≠ y → sp (.ref y :: vs) (upd (upd G1 dy (.own y)) y (.ins C dy [])) (fun v G2 => v = .non ∧ Q (.ref y) G2) (E τ)
theorem make_run {pins : List (Addr × Obj)} {τ : L2.St} {G : Hp} {s : Shared} {Q : VK} {us : List Value} {vs : List V} (mk : Mk X.K C f) (fo : FnOk X.prog X.w X.K X.mg X.base CX k f fd ps sp) (hr : Room (k + 1) X.A) (hb : Binds X.K fd ps [])
    (ha : PassesAt CX X τ (E τ)) (J : Inv X pins τ G s) (rv : Vals vs us)
    (h : ∀ y dy, G y = none → G dy = none → dy ≠ y → sp (.ref y :: vs) (upd (upd G dy (.own y)) y (.ins C dy [])) (fun v G2 => v = .non ∧ Q (.ref y) G2) (E τ)) : wpAny (model X.prog X.w) X.A (call (.ref C) us) (EP X pins τ Q) X.xe s := by
  have promised := h (s.heap.objs.size + 1) s.heap.objs.size (J.hok.fresh (Nat.le_succ _)) (J.hok.fresh (Nat.le_refl _)) (Nat.ne_of_lt (Nat.lt_succ_self _))
  have J2 := Inv.made (C := C) J
  have all : Vals (V.ref (s.heap.objs.size + 1) :: vs) (Value.ref (s.heap.objs.size + 1) :: us) := .cons rfl rv
  have count : (Value.ref (s.heap.objs.size + 1) :: us).length = ps.length := by
    have c1 := all.length
    rw [fo.len _ _ _ _ promised] at c1
    exact c1.symm
  have bound := hb _ (Value.ref (s.heap.objs.size + 1) :: us) J2.kIn (by rw [List.append_nil]; exact count)
  rw [List.append_nil] at bound
  refine wpAny_call (make_map (f := f) J.kIn mk.makes mk.init (beq_iff_eq.mp mk.fn) (codeAny_mono (fo.run _ X.stack _ _ ⟨Value.ref (s.heap.objs.size + 1) :: us, []⟩ (Value.ref (s.heap.objs.size + 1) :: us) _ _ (E τ) (hr.make C us []) (J2.env0.make C us []) bound all promised) fun out s' got => ?_))
  cases out with
  | error er => exact ha pins _ _ er s' J2 got
  | ok fl =>
    cases fl with
    | ret u =>
      obtain ⟨v, G3, J3, ru, rfl, q3⟩ := J2.after got
      exact ⟨ru, ⟨V.ref (s.heap.objs.size + 1), G3, J3, rfl, q3⟩⟩
    | next => exact got.elim
    | brk => exact got.elim
    | cont => exact got.elim
theorem pe_makeS (mk : Mk X.K C f) (fo : FnOk X.prog X.w X.K X.mg X.base CX k f fd ps sp) (hr : Room (k + 1) X.A) (hg : Gl X x) (hm : X.mg x = some (.ref C)) (hb : Binds X.K fd ps []) (ha : ∀ τ, PassesAt CX X τ (E τ)) (hs : PA X (e :: es) t)
    (hdb : (x == ("__debug__" : Str)) = false := by decide) (h1 : starEach (e :: es) X.env = (false, eval e X.env) :: starEach es X.env := by rfl) (h2 : (backTo pos (starEach es X.env)).any (·.1) = false := by rfl) :
    PE X (.Call (.Name x p) (e :: es) [] pos) (tMakeS C sp E t) := by
  refine ⟨fun pins s τ G Q J h => wpAny_Call_Name_kw (ld_glob J hg hm (PySem.W.callWith_K (h₀ := X.base) J.ok.mod.kin mk.kp (thn (hs.run pos pins s τ G _ J h) fun us s1 got => ?_) h1 h2) hdb)⟩
  obtain ⟨vs, G1, J1, rv, q⟩ := got
  exact ⟨J1.kIn, make_run mk fo hr hb (ha τ) J1 rv q⟩
end
section
variable {P : Program} {w : World} {K : PySem.W.Frag} {mg : Str → Option Value} {base : Heap} {C fI pR fG fL fE : Addr}
end
end Bl
namespace Bt
open PySem PySem.Spec PyProof.Rows L2 Bk Bm Evl Be Cr Bp Bl TL
abbrev sIsFile : Stmt := top 21
abbrev sFollow : Stmt := top 22
section
variable {H H' : Hp} {K : PySem.W.Frag} {v : V}
end
/-- what is_file says of a thing -/
inductive Fil (K : PySem.W.Frag) (H : Hp) : V → Bool → Prop
  | no {v : V} {n : String} (k : Kd K H v n) (h : n ≠ "tuple") : Fil K H v false
  | len {a : Addr} {xs : List V} (h : H a = some (.tup xs)) (hl : xs.length ≠ 2) (hz : xs.length ≤ 1000) : Fil K H (.ref a) false
  | two {a : Addr} {u w : V} (h : H a = some (.tup [u, w])) (hu : Sm H u) (hw : Sm H w) : Fil K H (.ref a) (isPathV u && isTextV w)
theorem Fil.mono {K : PySem.W.Frag} {H H' : Hp} {v : V} {b : Bool} (e : Ex H H') (h : Fil K H v b) : Fil K H' v b := by
  cases h with
  | no k h => exact .no (k.mono e) h
  | len h hl hz => exact .len (e _ _ h) hl hz
  | two h hu hw => exact .two (e _ _ h) (hu.mono e) (hw.mono e)
section
variable {P : Program} {w : World} {K : PySem.W.Frag} {mg : Str → Option Value} {base : Heap}
/-! ### is_folder -/
/-! ### is_file -/
theorem scFile : FnScope ["value"] ["value"] (defScope sIsFile) := ⟨rfl, rfl, rfl, by decide +kernel, rfl, by decide +kernel, by decide +kernel⟩
def spFile : Sp := fun vs H Q _ => ∃ v b, vs = [v] ∧ Fil K H v b ∧ RetV (.bl b) H Q
theorem kd_tupX {H : Hp} {a : Addr} {n : String} {xs : List V} (h : H a = some (.tup xs)) (k : Kd K H (.ref a) n) (hk : n ≠ "tuple") : K.lookup a ≠ none := by
  obtain ⟨t, _⟩ := k
  intro hn
  cases t with
  | base t =>
    cases t with
    | lst e => rw [h] at e; cases e
    | frz e => rw [h] at e; cases e
    | tup e => exact hk rfl
    | dK e => rw [h] at e; cases e
    | dT e => rw [h] at e; cases e
  | set e => rw [h] at e; cases e
  | kList e c => rw [hn] at e; cases e
  | kTuple e c => exact hk rfl
  | kDict e c => rw [hn] at e; cases e
  | fTuple e => exact hk rfl
  | fDict e => rw [h] at e; cases e
theorem ok_file {f : Addr} {fd : FuncData} (F : Fun K "is_file" "is_file" sIsFile f fd) (T : Gv mg) (cP : Cal P w K mg base CX0 2 "is_path" ["value"] (spPath (K := K))) (cT : Cal P w K mg base CX0 2 "is_text" ["value"] (spText (K := K))) :
    FnOk P w K mg base CX0 3 f fd ["value"] (spFile (K := K)) := by
  refine F.ok scFile (fun vs H Q E h => ?_) (fun cdv A outer s H vs Q E hr h => ?_)
  · obtain ⟨x, b, rfl, _⟩ := h
    rfl
  · obtain ⟨v, b, rfl, fi, k⟩ := h
    refine ⟨_, pss_one (ps_ret (pe_and (pe_callB call_isi (by rfl) T.isi boot_isinstance (pa_cons (pv 0) (pa_cons (pe_bltn (v := .ty "tuple") (by rfl) T.tup (by decide +kernel) rfl) pa_nil)))
      (pe_and (pe_cmpR op_eq (pe_callB call_len_seq (by rfl) T.len PySem.boot_len (pa_cons (pv 0) pa_nil)) pe_int (nomark _))
      (pe_and (pe_call cP.F hr (by rfl) cP.g cP.kp cP.b .nil pass0 (pa_cons (pe_ix ix_tup (pv 0) pe_int (fun _ _ => rfl)) pa_nil))
      (pe_one (pe_call cT.F (hr.mono (by decide)) (by rfl) cT.g cT.kp cT.b .nil pass0 (pa_cons (pe_ix ix_tup (pv 0) pe_int (fun _ _ => rfl)) pa_nil))))))), ?_⟩
    refine s_ret (v := .bl b) ?_ k
    cases fi with
    | no kd hn =>
      have e : decide (_ = "tuple") = false := decide_eq_false hn
      exact ev_is (ev_and (b := false) (ev_isi (ev_var rfl) ev_c kd (.inr rfl)) (fun h => by rw [e] at h; cases h)) (by rw [e]; rfl)
    | @len a xs h hl hz =>
      refine ev_is (ev_and (a := true) (b := false) (ev_is (ev_isi (ev_var rfl) ev_c (kd_tup h) (.inr rfl)) rfl) fun _ => ?_) rfl
      have e : decide (V.int (xs.length : Int) = V.int 2) = false := decide_eq_false (fun z => by injection z with z; omega)
      exact ev_is (ev_and (b := false) (ev_is (ev_op (ev_lenT (ev_var rfl) (st_of h)) ev_c (rv_eq rfl)) (by rw [e])) (fun h => by cases h)) rfl
    | @two a u wv h hu hw =>
      refine ev_is (ev_and (a := true) (b := isPathV u && isTextV wv) (ev_is (ev_isi (ev_var rfl) ev_c (kd_tup h) (.inr rfl)) rfl) fun _ => ?_) (by simp)
      refine ev_is (ev_and (a := true) (b := isPathV u && isTextV wv) (ev_is (ev_op (ev_lenT (ev_var rfl) (st_of h)) ev_c (rv_eq rfl)) rfl) fun _ => ?_) (by simp)
      refine ev_and (ev_call (ea_cons (ev_op (ev_var rfl) ev_c (rv_ixT (st_of h) rfl)) ea_nil) (spv_path hu)) fun _ => ?_
      exact ev_call (ea_cons (ev_op (ev_var rfl) ev_c (rv_ixT (st_of h) rfl)) ea_nil) (spv_text hw)
end
end Bt
namespace Bt
open PySem PySem.Spec PyProof.Rows L2 Bk Bm Evl Be Cr Bp Bl TL
abbrev Fl := Str × Str
/-- a pair (path, text) stands at v -/
def FileAt (H : Hp) (v : V) (f : Fl) : Prop := ∃ b, v = .ref b ∧ H b = some (.tup [.str f.1, .str f.2])
theorem FileAt.mono {H H' : Hp} {v : V} {f : Fl} (e : Ex H H') (h : FileAt H v f) : FileAt H' v f := by
  obtain ⟨b, hv, hb⟩ := h
  exact ⟨b, hv, e _ _ hb⟩
def okF (f : Fl) : Prop := f.1.length ≤ 1000 ∧ f.2.length ≤ 1000 ∧ PyData.strOk f.1 = true ∧ PyData.strOk f.2 = true
theorem paired_mono {α β : Type} {F G : α → β → Prop} {l : List α} {m : List β} (h : Paired F l m) (f : ∀ a b, F a b → G a b) : Paired G l m := by
  induction h with
  | nil => exact .nil
  | cons r _ ih => exact .cons (f _ _ r) ih
theorem paired_mem {α β : Type} {F : α → β → Prop} {l : List α} {m : List β} (h : Paired F l m) {x : α} (hx : x ∈ l) : ∃ y ∈ m, F x y := by
  induction h with
  | nil => cases hx
  | cons r _ ih =>
    rcases List.mem_cons.mp hx with rfl | hx
    · exact ⟨_, List.mem_cons_self, r⟩
    · obtain ⟨y, hy, q⟩ := ih hx
      exact ⟨y, List.mem_cons_of_mem _ hy, q⟩
theorem paired_take {α β : Type} {F : α → β → Prop} {l : List α} {m : List β} (h : Paired F l m) : ∀ n, Paired F (l.take n) (m.take n) := by
  induction h with
  | nil => intro n; simp; exact .nil
  | cons r _ ih =>
    intro n
    cases n with
    | zero => exact .nil
    | succ n => exact .cons r (ih n)
theorem paired_len {α β : Type} {F : α → β → Prop} {l : List α} {m : List β} (h : Paired F l m) : l.length = m.length := by
  induction h with
  | nil => rfl
  | cons r _ ih => simp [ih]
theorem paired_get {α β : Type} {F : α → β → Prop} {l : List α} {m : List β} (h : Paired F l m) : ∀ {i : Nat} {x : α}, l[i]? = some x → ∃ y, m[i]? = some y ∧ F x y := by
  induction h with
  | nil => intro i x e; simp at e
  | cons r _ ih =>
    intro i x e
    cases i with
    | zero =>
      have e' := Option.some.inj e
      subst e'
      exact ⟨_, rfl, r⟩
    | succ i => exact ih (i := i) e
theorem paired_append {α β : Type} {F : α → β → Prop} {l l' : List α} {m m' : List β} (h : Paired F l m) (h' : Paired F l' m') : Paired F (l ++ l') (m ++ m') := by
  induction h with
  | nil => exact h'
  | cons r _ ih => exact .cons r ih
def dF (f : Fl) : PyData := .tuple [.str f.1, .str f.2]
theorem dp_files {K : PySem.W.Frag} {H : Hp} {xs : List V} {fs : List Fl} (h : Paired (FileAt H) xs fs) : DpAll K H xs (fs.map dF) := by
  induction h with
  | nil => exact .nil
  | cons r _ ih =>
    obtain ⟨b, rfl, hb⟩ := r
    exact .cons (.tup (SqT.of hb) (.cons (.str _) (.cons (.str _) .nil))) ih
theorem can_files : ∀ {fs : List Fl}, (∀ f ∈ fs, okF f) → PyData.canLayAll0 (fs.map dF) = true
  | [], _ => rfl
  | f :: r, h => by
    have h1 := h f List.mem_cons_self
    have ih := can_files (fs := r) fun g hg => h g (List.mem_cons_of_mem _ hg)
    show (PyData.canLay0 (dF f) && PyData.canLayAll0 (r.map dF)) = true
    rw [ih, Bool.and_true]
    show ((PyData.strOk f.1) && ((PyData.strOk f.2) && true)) = true
    rw [h1.2.2.1, h1.2.2.2]
    rfl
theorem depth_files : ∀ {fs : List Fl}, PyData.depthAll (fs.map dF) ≤ 3
  | [] => by simp [PyData.depthAll]
  | f :: r => by
    have ih := depth_files (fs := r)
    simp only [List.map_cons, PyData.depthAll, dF, PyData.depth] at ih ⊢
    omega
theorem shaped_files {fs : List Fl} (h : ∀ f ∈ fs, okF f) : SeqAt.shaped (.tuple (fs.map dF)) = true := by
  have h1 := can_files h
  have h2 := depth_files (fs := fs)
  have h3 : PyData.depth (.tuple (fs.map dF)) ≤ 64 := by
    simp only [PyData.depth]
    omega
  show (PyData.canLayAll0 (fs.map dF) && decide (PyData.depth (.tuple (fs.map dF)) ≤ 64)) = true
  rw [h1, decide_eq_true h3]
  rfl
/-- may the path stand behind these files -/
def follow (p : Str) (fs : List Fl) : Bool := match fs.getLast? with
  | none => true
  | some l => decide (l.1.cps.toList < p.cps.toList) && !(fs.any fun f => within p f.1)
section
variable {P : Program} {w : World} {K : PySem.W.Frag} {mg : Str → Option Value} {base : Heap}
theorem scFollow : FnScope ["path", "files", "file"] ["path", "files"] (defScope sFollow) := ⟨rfl, rfl, rfl, by decide +kernel, rfl, by decide +kernel, by decide +kernel⟩
def spFollow : Sp := fun vs H Q _ => ∃ p a xs fs, vs = [.str p, .ref a] ∧ SqT K H a xs ∧ Paired (FileAt H) xs fs ∧ (∀ f ∈ fs, okF f) ∧ p.length ≤ 1000 ∧ fs.length ≤ 1000 ∧ RetV (.bl (follow p fs)) H Q
theorem ok_follow {f : Addr} {fd : FuncData} (F : Fun K "may_follow" "may_follow" sFollow f fd) (T : Gv mg) (cL : Cal P w K mg base CX0 1 "lies_within" ["path", "folder"] spLies) :
    FnOk P w K mg base CX0 2 f fd ["path", "files"] (spFollow (K := K)) := by
  refine F.ok scFollow (fun vs H Q E h => ?_) (fun cdv A outer s H vs Q E hr h => ?_)
  · obtain ⟨p, a, xs, fs, rfl, _⟩ := h
    rfl
  · obtain ⟨p, a, xs, fs, rfl, hx, hp, hok, hl, hn, k⟩ := h
    have hu : (A.deeper (envOfC "may_follow" (defScope sFollow) s.heap.objs.size f cdv)).units + 64 < cLine := by have := hr.un; omega
    refine ⟨_, pss_cons (ps_if (pt_cmpR (op_eqD hu) (pv 1) (pe_tup pa_nil) (nomark _)) (pss_one (ps_ret pe_bl)) pss_nil)
      (pss_one (ps_ret (pe_and (pe_cmpR op_gt_str (pv 0) (pe_ix ix_tup (pe_ix ix_tup (pv 1) (pe_un un_neg pe_int) (fun _ _ => rfl)) pe_int (fun _ _ => rfl)) (nomark _))
        (pe_one (pe_not (pe_callB (cr_any rfl) (by rfl) T.any boot_any (pa_cons (pe_lc (own := [("file", 2)]) (g := gName 2) (tt := tYes) rfl scFollow.nd (pi_tup (pv 1)) (blkOk_by (N := ["path", "files", "file"]) (sc := defScope sFollow) (by decide +kernel))
          (fun _ _ _ _ _ => pg_name (i := 2) scFollow.nd rfl (Or.inl rfl)) (fun _ _ _ _ _ => pts_nil)
          (fun _ _ _ _ _ => pe_call cL.F hr rfl cL.g cL.kp cL.b .nil pass0 (pa_cons (pv 0) (pa_cons (pe_ix (r := rIxT K) ix_tup (pv 2) pe_int (fun _ _ => rfl)) pa_nil)))) pa_nil))))))), ?_⟩
    have test : EvT (tTest (tOp (rEqD K) (tVar 1) (tTup tNil))) (L2.start ["path", "files", "file"] [.str p, .ref a]) H (PyData.eqv (.tuple (fs.map dF)) (.tuple [])) :=
      et_test (ev_opU (ev_var rfl) (eu_tup ea_nil (by decide)) fun q H1 hq e1 H2 e2 Q' q' => ⟨.tuple (fs.map dF), .tuple [], .tup (ex_t (e1.trans e2) hx) (dp_files (paired_mono hp fun _ _ r => r.mono (e1.trans e2))), .tup (st_of (e2 _ _ hq)) .nil, shaped_files hok, by decide +kernel, q' H2 (Ex.refl _)⟩)
    refine q_when test (fun hb H1 e1 => ?_) (fun hb H1 e1 => ?_)
    · have hf : fs = [] := by
        cases fs with
        | nil => rfl
        | cons g r => simp [PyData.eqv, PyData.eqvAll] at hb
      subst hf
      exact s_ret (v := .bl true) ev_c fun H2 e2 => k H2 (e1.trans e2)
    · have hne : fs ≠ [] := fun z => by
        subst z
        simp [PyData.eqv, PyData.eqvAll] at hb
      obtain ⟨gs, g, rfl⟩ : ∃ gs g, fs = gs ++ [g] := ⟨fs.dropLast, fs.getLast hne, (List.dropLast_concat_getLast hne).symm⟩
      have hfol : follow p (gs ++ [g]) = (decide (g.1.cps.toList < p.cps.toList) && !((gs ++ [g]).any fun f => within p f.1)) := by
        unfold follow
        rw [List.getLast?_append]
        rfl
      have hlen := paired_len hp
      have hxg : xs[xs.length - 1]? = some (xs.getD (xs.length - 1) .non) := by
        rw [List.getD_eq_getElem?_getD]
        have : xs.length - 1 < xs.length := by rw [hlen]; simp
        rw [List.getElem?_eq_getElem this]
        rfl
      obtain ⟨y, hy, b, hb1, hb2⟩ := paired_get hp hxg
      have ey : y = g := by
        rw [hlen, List.length_append] at hy
        simp at hy
        exact hy.symm
      subst ey
      have hat : atI xs (-1) = some (.ref b) := by
        unfold atI ixN
        have h0 : 0 < xs.length := by rw [hlen]; simp
        rw [if_neg (by decide), if_pos (by omega)]
        have e1 : ((-1 : Int) + (xs.length : Int)).toNat = xs.length - 1 := by omega
        show xs[((-1 : Int) + (xs.length : Int)).toNat]? = _
        rw [e1, hxg, hb1]
      refine s_ret (v := .bl (follow p (gs ++ [y]))) ?_ fun H2 e2 => k H2 (e1.trans e2)
      rw [hfol]
      refine ev_and (ev_op (ev_var rfl) (ev_op (ev_op (ev_var rfl) (ev_un ev_c ru_neg) (rv_ixT (ex_t e1 hx) hat)) ev_c (rv_ixT (st_of (e1 _ _ hb2)) rfl)) rv_gtS) fun _ => ?_
      refine ev_notV (ev_is (ev_any (bs := (gs ++ [y]).map fun f => within p f.1) (fun H2 e2 Q2 q2 => ?_)) ?_)
      · have big := el_lcT (K := K) (σ := L2.start ["path", "files", "file"] [.str p, .ref a]) (H := H1) (j := 2) (te := tCall spLies [] E0 (tCons (tVar 0) (tCons (tOp (rIxT K) (tVar 2) (tC (.int 0))) tNil)))
          (fun v => match v with | .ref c => (match H c with | some (.tup (.str z :: _)) => .bl (within p z) | _ => .non) | _ => .non) (ev_var (i := 1) (v := .ref a) rfl) (ex_t e1 hx) (by rw [hlen]; omega) (fun x H3 e3 hx3 => ?_)
        · refine ev_isL big ?_ H2 e2 Q2 q2
          have hmap : ∀ {xs : List V} {fs : List Fl}, Paired (FileAt H) xs fs → xs.map (fun v => match v with | .ref c => (match H c with | some (.tup (.str z :: _)) => V.bl (within p z) | _ => .non) | _ => .non) = (fs.map fun f => within p f.1).map V.bl := by
            intro xs fs h
            induction h with
            | nil => rfl
            | cons r _ ih =>
              obtain ⟨c, rfl, hc⟩ := r
              simp only [List.map_cons, ih, hc]
          exact hmap hp
        · obtain ⟨f, hf, c, rfl, hc⟩ := paired_mem hp hx3
          have hcc := e3 _ _ (e1 _ _ hc)
          simp only [hc]
          exact ev_call (ea_cons (ev_var rfl) (ea_cons (ev_op (ev_var rfl) ev_c (rv_ixT (st_of hcc) rfl)) ea_nil)) fun H5 e5 Q' q' E' => ⟨p, f.1, rfl, Nat.le_trans (hok f hf).1 (by decide), q'⟩
      · simp
end
end Bt
namespace Bt
open PySem PySem.Spec PyProof.Rows L2 Bk Bm Evl Be Cr Bp Bl TL
section
variable {X : Cx} {C : Addr} {x : Str} {p pos : Pos}
end
section
variable {P : Program} {w : World} {K : PySem.W.Frag} {mg : Str → Option Value} {base : Heap}
/-! ### BadTree: its __init__ -/
abbrev sBtI : Stmt := inClass (top 3) 0
theorem scBtI : FnScope ["self", "index"] ["self", "index"] (defScope sBtI) := ⟨rfl, rfl, rfl, by decide +kernel, rfl, by decide +kernel, by decide +kernel⟩
theorem ok_btI {f C : Addr} {fd : FuncData} {q : Str} (F : Fun K "__init__" q sBtI f fd) : FnOk P w K mg base CX0 1 f fd ["self", "index"] (spXi K C) := by
  refine F.ok scBtI (fun vs H Q E h => ?_) (fun cdv A outer s H vs Q E hr h => ?_)
  · obtain ⟨x, v, rfl, _⟩ := h
    rfl
  · obtain ⟨a, v, rfl, ha, o, n, k⟩ := h
    refine ⟨_, pss_one (ps_ost (pv 0) (pv 1)), ?_⟩
    exact ⟨_, rfl, _, rfl, a, C, rfl, o, n, .inl ⟨ha, fun dx hd hne => k dx hd hne⟩⟩
end
end Bt
namespace Bt
open PySem PySem.Spec PyProof.Rows L2 Bk Bm Evl Be Cr Bp Bl TL
abbrev sCkTree : Stmt := top 23
/-- what an item of a tuple is: a file, or none -/
def Itm (K : PySem.W.Frag) (H : Hp) (v : V) : Option Fl → Prop
  | some f => FileAt H v f ∧ okF f ∧ (pathB f.1 && textB f.2) = true
  | none => Fil K H v false
theorem Itm.mono {K : PySem.W.Frag} {H H' : Hp} {v : V} {o : Option Fl} (e : Ex H H') (h : Itm K H v o) : Itm K H' v o := by
  cases o with
  | some f => exact ⟨h.1.mono e, h.2⟩
  | none => exact Fil.mono e h
theorem Itm.fil {K : PySem.W.Frag} {H : Hp} {v : V} {o : Option Fl} (h : Itm K H v o) : Fil K H v o.isSome := by
  cases o with
  | some f =>
    obtain ⟨⟨b, rfl, hb⟩, hk, hp⟩ := h
    have r := Fil.two (K := K) hb (Sm.str f.1 hk.1) (Sm.str f.2 hk.2.1)
    have e : (isPathV (.str f.1) && isTextV (.str f.2)) = true := hp
    rw [e] at r
    exact r
  | none => exact h
/-- the first place that is wrong -/
def fb : List Fl → List (Option Fl) → Option Nat
  | _, [] => none
  | acc, none :: _ => some acc.length
  | acc, some f :: r => if follow f.1 acc = true then fb (acc ++ [f]) r else some acc.length
section
variable {P : Program} {w : World} {K : PySem.W.Frag} {mg : Str → Option Value} {base : Heap}
theorem scCkTree : FnScope ["value", "index", "thing"] ["value"] (defScope sCkTree) := ⟨rfl, rfl, rfl, by decide +kernel, rfl, by decide +kernel, by decide +kernel⟩
/-- what is handed to check_tree: no tuple (of few things), or a tuple of items -/
inductive Tr (K : PySem.W.Frag) (H : Hp) : V → Option V → Prop
  | no {v : V} {n : String} (k : Kd K H v n) (h : n ≠ "tuple") : Tr K H v (some .non)
  | big {a : Addr} {xs : List V} (h : H a = some (.tup xs)) (hl : 20 < xs.length) : Tr K H (.ref a) (some .non)
  | tup {a : Addr} {xs : List V} {os : List (Option Fl)} (h : H a = some (.tup xs)) (hl : xs.length ≤ 20) (hp : Paired (Itm K H) xs os) : Tr K H (.ref a) ((fb [] os).map fun i => V.int ((i : Nat) : Int))
theorem Tr.mono {H H' : Hp} {v : V} {o : Option V} (e : Ex H H') (h : Tr K H v o) : Tr K H' v o := by
  cases h with
  | no k h => exact .no (k.mono e) h
  | big h hl => exact .big (e _ _ h) hl
  | tup h hl hp => exact .tup (e _ _ h) hl (paired_mono hp fun _ _ r => r.mono e)
def spCkTree (C : Addr) : Sp := fun vs H Q E => ∃ v o, vs = [v] ∧ Tr K H v o ∧ (o = none → RetV .non H Q) ∧ (∀ u, o = some u → RaiseI C u H E)
theorem ok_ckTree {f C fI : Addr} {fd fdI : FuncData} (F : Fun K "check_tree" "check_tree" sCkTree f fd) (T : Gv mg) (c : Xi K mg "BadTree" C fI) (FI : FnOk P w K mg base CX0 1 fI fdI ["self", "index"] (spXi K C)) (bI : Binds K fdI ["self", "index"] [])
    (cF : Cal P w K mg base CX0 3 "is_file" ["value"] (spFile (K := K))) (cM : Cal P w K mg base CX0 2 "may_follow" ["path", "files"] (spFollow (K := K))) : FnOk P w K mg base (L2.CX P w) 4 f fd ["value"] (spCkTree (K := K) C) := by
  refine F.okX scCkTree (fun vs H Q E h => ?_) (fun cdv A outer s H vs Q E hr h => ?_)
  · obtain ⟨x, o, rfl, _⟩ := h
    rfl
  · obtain ⟨v, o, rfl, tr, k1, k2⟩ := h
    obtain ⟨t1, m1⟩ := T.mf
    refine ⟨_, pss_cons (ps_if (pw_or (pt_not (pt_val (pe_callB call_isi (by rfl) T.isi boot_isinstance (pa_cons (pv 0) (pa_cons (pe_bltn (v := .ty "tuple") (by rfl) T.tup (by decide +kernel) rfl) pa_nil)))))
        (pw_or1 (pt_cmpR op_gt (pe_callB call_len_seq (by rfl) T.len PySem.boot_len (pa_cons (pv 0) pa_nil)) (pe_glob (v := .int 20) (by rfl) m1 ⟨_, rfl⟩) (nomark _)))).pt
        (pss_one (ps_raise rfl (takes_of rfl rfl rfl rfl) (pmk_xi c FI bI hr (by decide) (by rfl) pe_non))) pss_nil)
      (pss_one (ps_for (passes_of rfl) rfl (pi_enumT (by rfl) T.enu (pa_cons (pv 0) pa_nil)) (pg_tup rfl (pgs_cons (pg_name (i := 1) scCkTree.nd rfl (Or.inl rfl)) (pgs_cons (pg_name (i := 2) scCkTree.nd rfl (Or.inl rfl)) pgs_nil)))
        (pss_one (ps_if (pw_or (pt_not (pt_val (pe_call cF.F hr (by rfl) cF.g cF.kp cF.b .nil pass0 (pa_cons (pv 2) pa_nil))))
          (pw_or1 (pt_not (pt_val (pe_call cM.F (hr.mono (by decide)) (by rfl) cM.g cM.kp cM.b .nil pass0 (pa_cons (pe_ix ix_tup (pv 2) pe_int (fun _ _ => rfl)) (pa_cons (pe_slice sl_tupA (pv 0) po_none (po_some (pv 1))) pa_nil))))))).pt
          (pss_one (ps_raise rfl (takes_of rfl rfl rfl rfl) (pmk_xi c FI bI hr (by decide) (by rfl) (pv 1)))) pss_nil)))), ?_⟩
    cases tr with
    | no kd hn =>
      refine q_when (b := true) (et_is (et_or (b := true) (et_not (et_B (ev_isi (ev_var rfl) ev_c kd (.inr rfl)))) fun hb => ?_) ?_) (fun _ H1 e1 => ?_) (fun hb => by cases hb)
      · simp [hn] at hb
      · simp [hn]
      · exact xi_make c ev_c (RaiseI.go (k2 _ rfl) e1)
    | @big a xs h hl =>
      refine q_when (b := true) (et_is (et_or (b := true) (et_not (et_B (ev_isi (ev_var rfl) ev_c (kd_tup h) (.inr rfl)))) fun hb => ?_) (by simp)) (fun _ H1 e1 => ?_) (fun hb => by cases hb)
      · exact et_is (et_test (ev_op (ev_lenT (ev_var rfl) (st_of h)) ev_c rv_I0)) (by simp; omega)
      · exact xi_make c ev_c (RaiseI.go (k2 _ rfl) e1)
    | @tup a xs os h hl hp =>
      refine q_when (b := false) (et_is (et_or (b := false) (et_not (et_B (ev_isi (ev_var rfl) ev_c (kd_tup h) (.inr rfl)))) fun hb => ?_) (by simp)) (fun hb => by cases hb) (fun _ H1 e1 => ?_)
      · exact et_is (et_test (ev_op (ev_lenT (ev_var rfl) (st_of h)) ev_c rv_I0)) (by simp; omega)
      · refine ⟨_, rfl, a, xs, rfl, st_of (e1 _ _ h), for_enumT (K := K) (a := a) (xs := xs) (fun i τ G => ∃ (u v : Option V) (fs : List Fl), τ = [some (.ref a), u, v] ∧ Ex H G ∧ fs.length = i ∧ os.take i = fs.map some ∧ fb [] os = fb fs (os.drop i))
          ⟨none, none, [], rfl, e1, rfl, rfl, rfl⟩ (fun i τ G _ q => by obtain ⟨_, _, _, _, q, _⟩ := q; exact st_of (q _ _ h)) ?_ ?_⟩
        · rintro i x τ G T0 hi ⟨u, v, fs, rfl, eG, hfl, htk, hfb⟩ hT
          obtain ⟨o, ho, it⟩ := paired_get hp hi
          have hdr : os.drop i = o :: os.drop (i + 1) := by
            obtain ⟨hh, e⟩ := List.getElem?_eq_some_iff.mp ho
            rw [List.drop_eq_getElem_cons hh, e]
          rw [hdr] at hfb
          have e2 : Ex H (upd G T0 (.tup [.int (i : Nat), x])) := eG.trans (Ex.new hT)
          have hix : i ≤ xs.length := Nat.le_of_lt (List.getElem?_eq_some_iff.mp hi).1
          have hpf : Paired (FileAt H) (xs.take i) fs := by
            have h1 := paired_take hp i
            rw [htk] at h1
            have gen : ∀ {ys : List V} {gs : List Fl}, Paired (Itm K H) ys (gs.map some) → Paired (FileAt H) ys gs ∧ ∀ g ∈ gs, okF g := by
              intro ys gs
              induction gs generalizing ys with
              | nil => intro h; cases h; exact ⟨.nil, fun _ z => by cases z⟩
              | cons g r ih =>
                intro h
                cases h with
                | cons r1 r2 =>
                  obtain ⟨p1, p2⟩ := ih r2
                  exact ⟨.cons r1.1 p1, fun z hz => by
                    rcases List.mem_cons.mp hz with rfl | hz
                    · exact r1.2.1
                    · exact p2 z hz⟩
            exact (gen h1).1
          have hokf : ∀ g ∈ fs, okF g := by
            intro g hg
            have h1 : some g ∈ os.take i := by rw [htk]; exact List.mem_map.mpr ⟨g, hg, rfl⟩
            have h2 : some g ∈ os := List.mem_of_mem_take h1
            have gen : ∀ {ys : List V} {zs : List (Option Fl)}, Paired (Itm K H) ys zs → ∀ g, some g ∈ zs → okF g := by
              intro ys zs h
              induction h with
              | nil => intro g z; cases z
              | cons r _ ih =>
                intro g z
                rcases List.mem_cons.mp z with z | z
                · subst z; exact r.2.1
                · exact ih g z
            exact gen hp g h2
          have hfn : fs.length ≤ 1000 := by omega
          refine ⟨T0, _, rfl, SqT.of upd_same, rfl, _, _, rfl, _, _, rfl, rfl, ?_⟩
          show tIfS _ _ tNext _ ([some (.ref a), some (.int (i : Int)), some x] : L2.St) _
          have call1 : EvT (tNot (tB (tCall (spFile (K := K)) [] E0 (tCons (tVar 2) tNil)))) ([some (.ref a), some (.int (i : Int)), some x] : L2.St) (upd G T0 (.tup [.int (i : Nat), x])) (!(o.isSome)) :=
            et_not (et_B (ev_call (ea_cons (ev_var rfl) ea_nil) fun H3 e3 Q' q' E' => ⟨x, _, rfl, (it.mono (e2.trans e3)).fil, q'⟩))
          refine s_when (b := !(o.isSome) || !(match o with | some f => follow f.1 fs | none => true)) (et_or call1 fun hb => ?_) (fun hb H3 e3 => ?_) (fun hb H3 e3 => ?_)
          · cases o with
            | none => simp at hb
            | some f =>
              obtain ⟨⟨b, rfl, hbb⟩, hok, hpt⟩ := it
              intro H3 e3 Q' q'
              refine ev_op (z := .str f.1) (ev_var (i := 2) rfl) ev_c (rv_ixT (st_of ((e2.trans e3) _ _ hbb)) rfl) H3 (Ex.refl _) _ fun H4 e4 => ?_
              refine slice_to (i := i) (ev_var (i := 0) rfl) (ev_var (i := 1) rfl) (st_of (((e2.trans e3).trans e4) _ _ h)) hix H4 (Ex.refl _) _ fun p H5 e5 hp5 => ?_
              exact ⟨f.1, p, xs.take i, fs, rfl, hp5, paired_mono hpf fun _ _ r => r.mono (((e2.trans e3).trans e4).trans e5), hokf, hok.1, hfn, fun H6 e6 => ⟨_, rfl, q' H6 ((e4.trans e5).trans e6)⟩⟩
          · have hbad : fb [] os = some i := by
              rw [hfb]
              cases o with
              | none => show some fs.length = some i; rw [hfl]
              | some f =>
                have hn : follow f.1 fs = false := by simpa using hb
                show (if follow f.1 fs = true then _ else some fs.length) = some i
                rw [hn, if_neg (by decide), hfl]
            exact xi_make c (ev_var rfl) (RaiseI.go (k2 _ (by rw [hbad]; rfl)) (e2.trans e3))
          · cases o with
            | none => simp at hb
            | some f =>
              have hn : follow f.1 fs = true := by simpa using hb
              refine ⟨_, _, fs ++ [f], rfl, e2.trans e3, by simp [hfl], ?_, ?_⟩
              · rw [List.take_succ, htk, ho]
                simp
              · rw [hfb]
                show (if follow f.1 fs = true then _ else some fs.length) = _
                rw [if_pos hn]
        · rintro τ G ⟨u, v, fs, rfl, eG, hfl, htk, hfb⟩
          have hlen := paired_len hp
          have hn : fb [] os = none := by
            rw [hfb, hlen, List.drop_length]
            rfl
          exact k1 (by rw [hn]; rfl) G eG
end
end Bt
namespace Bt
open PySem PySem.Spec PyProof.Rows L2 Bk Bm Evl Be Cr Bp Bl TL
abbrev sWords : Stmt := top 70
abbrev sTree : Stmt := top 71
section
variable {K : PySem.W.Frag} {H G : Hp} {r D : Addr}
end
section
variable {P : Program} {w : World} {K : PySem.W.Frag} {mg : Str → Option Value} {base : Heap}
/-! ### the words -/
def someW : List Str := ["", "x", "yes", "yes", "b", "a b", "use a", "use b", "use d/x", "use m", "use n", "use", "use A", "y y", "use o"].map Str.ofString
def okW (x : Str) : Prop := x.length ≤ 200 ∧ textB x = true ∧ PyData.strOk x = true
theorem join_all (p : Nat → Bool) (S : List Nat) (hS : S.all p = true) : ∀ l : List (List Nat), (∀ x ∈ l, x.all p = true) → (joinL S l).all p = true
  | [], _ => rfl
  | [x], h => h x List.mem_cons_self
  | x :: y :: r, h => by
    have ih := join_all p S hS (y :: r) fun z hz => h z (List.mem_cons_of_mem _ hz)
    have hx := h x List.mem_cons_self
    show (x ++ (S ++ joinL S (y :: r))).all p = true
    rw [List.all_append, List.all_append, hx, hS, ih]
    rfl
theorem some_ok : ∀ y ∈ someW, y.length ≤ 7 ∧ (tl y).all sgnT = true := by decide +kernel
theorem str_ok {x : Str} (h : (tl x).all sgnT = true) : PyData.strOk x = true := by
  unfold PyData.strOk
  rw [Array.all_eq_true']
  intro c hc
  rw [List.all_eq_true] at h
  have h1 := h c (by simpa [tl] using hc)
  simp only [sgnT, Bool.or_eq_true, Bool.and_eq_true, decide_eq_true_eq] at h1
  simp
  omega
theorem joined_ok {ys : List Str} (h : ∀ y ∈ ys, y ∈ someW) (hl : ys.length ≤ 8) : okW (Txt.join (Str.ofString "\n") ys) ∧ (ys.map (·.length)).sum + ys.length * (Str.ofString "\n").length ≤ 16777216 := by
  have l1 : (Str.ofString "\n").length = 1 := rfl
  have sum : (ys.map (·.length)).sum ≤ 7 * ys.length := by
    clear hl
    induction ys with
    | nil => simp
    | cons y r ih =>
      have h1 := (some_ok y (h y List.mem_cons_self)).1
      have h2 := ih fun z hz => h z (List.mem_cons_of_mem _ hz)
      simp only [List.map_cons, List.sum_cons, List.length_cons]
      omega
  have len := StrLaws.join_length_le (Str.ofString "\n") ys
  rw [l1, Nat.mul_one] at len
  have sg : (tl (Txt.join (Str.ofString "\n") ys)).all sgnT = true := by
    rw [join_eq, tl_join]
    refine join_all sgnT _ (by decide +kernel) _ fun x hx => ?_
    obtain ⟨y, hy, rfl⟩ := List.mem_map.mp hx
    exact (some_ok y (h y hy)).2
  have le : (Txt.join (Str.ofString "\n") ys).length ≤ 64 := by
    rw [join_eq]
    omega
  refine ⟨⟨by omega, ?_, str_ok sg⟩, by rw [l1]; omega⟩
  unfold textB
  rw [decide_eq_true (by omega : (Txt.join (Str.ofString "\n") ys).length ≤ 200)]
  exact sg
abbrev nWords : List Str := ["_law_row", "_law_some", "_law_k"]
theorem scWords : FnScope nWords ["_law_row"] (defScope sWords) := ⟨rfl, rfl, rfl, by decide +kernel, rfl, by decide +kernel, by decide +kernel⟩
def spWords : Sp := fun vs H Q _ => ∃ r, vs = [.ref r] ∧ Row K H r ∧ ∀ x G, okW x → Dr K r H G → Q (.str x) G
theorem ok_words {f : Addr} {fd : FuncData} (F : Fun K "_law_words" "_law_words" sWords f fd) (T : Gv mg) (cT : Cal P w K mg base CX0 1 "_law_taken" ["_law_row", "_law_many"] (spTaken (K := K)))
    (cO : Cal P w K mg base CX0 2 "_law_one" ["_law_row", "_law_things"] (spOne (K := K))) : FnOk P w K mg base CX0 3 f fd ["_law_row"] (spWords (K := K)) := by
  refine F.ok scWords (fun vs H Q E h => ?_) (fun cdv A outer s H vs Q E hr h => ?_)
  · obtain ⟨r, rfl, _⟩ := h
    rfl
  · obtain ⟨r, rfl, row, k⟩ := h
    have hr1 : Room 1 _ := hr.mono (by decide)
    refine ⟨_, pss_cons (ps_set (i := 1) scWords.nd rfl (Or.inr rfl) (pe_lst (pa_cons pe_str (pa_cons pe_str (pa_cons pe_str (pa_cons pe_str (pa_cons pe_str (pa_cons pe_str (pa_cons pe_str (pa_cons pe_str (pa_cons pe_str (pa_cons pe_str (pa_cons pe_str (pa_cons pe_str (pa_cons pe_str pa_nil)))))))))))))))
      (pss_cons (ps_set (i := 1) scWords.nd rfl (Or.inr rfl) (pe_op op_cat (pv 1) (pe_lst (pa_cons pe_str (pa_cons pe_str pa_nil)))))
      (pss_one (ps_ret (pe_join pe_str (pe_lc (own := [("_law_k", 2)]) (g := gName 2) (tt := tYes) rfl scWords.nd
        (pi_range1 (by rfl) T.rng (pa_cons (pe_op op_add pe_int (pe_call cT.F hr1 (by rfl) cT.g cT.kp cT.b .nil pass0 (pa_cons (pv 0) (pa_cons (pe_ix ix_list (pe_lst (pa_cons pe_int (pa_cons pe_int (pa_cons pe_int (pa_cons pe_int pa_nil)))))
          (pe_call cT.F hr1 (by rfl) cT.g cT.kp cT.b .nil pass0 (pa_cons (pv 0) (pa_cons pe_int pa_nil))) (fun _ _ => rfl)) pa_nil)))) pa_nil))
        (blkOk_by (N := nWords) (sc := defScope sWords) (by decide +kernel)) (fun _ _ _ _ _ => pg_name (i := 2) scWords.nd rfl (Or.inl rfl)) (fun _ _ _ _ _ => pts_nil)
        (fun _ _ _ _ _ => pe_call cO.F hr rfl cO.g cO.kp cO.b .nil pass0 (pa_cons (pv 0) (pa_cons (pv 1) pa_nil)))))))), ?_⟩
    refine q_asgL (xs := (someW.take 13).map V.str) (el_lst (ea_cs _) (by decide)) fun p1 H1 hp1 e1 h1 => ?_
    refine q_asgL (xs := (someW.take 13).map V.str ++ (someW.drop 13).map V.str) (el_cat (ev_var rfl) h1 (el_lst (ea_cs ((someW.drop 13).map V.str)) (by decide)) (by decide)) fun p2 H2 hp2 e2 h2 => ?_
    have h2' : H2 p2 = some (.lst (someW.map V.str)) := h2
    clear h2
    have row2 : Row K H2 r := row.ex (e1.trans e2)
    have nep : p2 ≠ r := (row.ex e1).ne_new hp2
    refine ⟨⟨_, rfl⟩, ?_⟩
    refine ⟨_, rfl, by show 4 ≤ sizeLine; decide, fun q hq => ?_⟩
    have row3 : Row K (upd H2 q (.lst [.int 1, .int 2, .int 4, .int 8])) r := row2.ex (Ex.new hq)
    have neq : q ≠ r := row2.ne_new hq
    refine draw (m := 4) (ev_var rfl) ev_c row3 (by decide) (by decide) fun n1 G1 hn1 hm1 d1 => ?_
    obtain ⟨m2, ha2, l2, u2⟩ : ∃ m2 : Int, atI [V.int 1, V.int 2, V.int 4, V.int 8] n1 = some (.int m2) ∧ 1 ≤ m2 ∧ m2 ≤ 8 := by
      have : n1 = 0 ∨ n1 = 1 ∨ n1 = 2 ∨ n1 = 3 := by omega
      rcases this with rfl | rfl | rfl | rfl
      · exact ⟨1, rfl, by decide, by decide⟩
      · exact ⟨2, rfl, by decide, by decide⟩
      · exact ⟨4, rfl, by decide, by decide⟩
      · exact ⟨8, rfl, by decide, by decide⟩
    refine ⟨q, _, n1, _, rfl, rfl, sq_of (d1.kp _ _ neq upd_same), ha2, r, m2, rfl, d1.row, by omega, by omega, fun n2 G2 hn2 hm2 d2 => ?_⟩
    have d02 : Dr K r H2 G2 := Dr.trans (Dr.pre (Ex.new hq) d1) d2
    refine ⟨1, n2, rfl, rfl, 1 + n2, rfl, by omega, by omega, fun D hD => ?_⟩
    have hD2 : H2 D = none := d02.free row2 hD
    have neD : D ≠ r := row2.ne_new hD2
    have neDp : D ≠ p2 := (ne_of_none h2' hD2).symm
    refine lc_range (lo := 0) (n := (1 + n2).toNat) (fun i G => ∃ ys : List Str, ys.length = i ∧ (∀ y ∈ ys, y ∈ someW) ∧ G D = some (.lst (ys.map V.str)) ∧ Dr K r H2 G) ⟨[], rfl, fun _ z => (by cases z), upd_same, ?_⟩ ?_ ?_
    · exact ⟨d02.kp.updL hD2, d02.row.ex (Ex.new hD)⟩
    · rintro i G hi ⟨ys, hlen, hys, hGD, d⟩
      refine ⟨rfl, ?_⟩
      unfold tYes
      dsimp only
      rw [if_pos rfl]
      refine ⟨_, rfl, _, rfl, r, p2, someW.map V.str, rfl, d.row, nep, d.kp _ _ nep h2', by decide, by decide, fun v G' hv d' => ?_⟩
      obtain ⟨y, hy, rfl⟩ := List.mem_map.mp hv
      refine ⟨ys.map V.str, d'.kp _ _ neD hGD, sz_lt (by rw [List.length_map]; omega), ys ++ [y], by simp [hlen], fun z hz => ?_, by rw [upd_same]; simp, (Dr.trans d d').updL hD2 (d'.kp _ _ neD hGD) neD⟩
      rcases List.mem_append.mp hz with hz | hz
      · exact hys z hz
      · rw [List.mem_singleton.mp hz]
        exact hy
    · rintro G ⟨ys, hlen, hys, hGD, d⟩
      obtain ⟨w1, w2⟩ := joined_ok hys (by omega)
      exact ⟨_, D, ys, rfl, rfl, .inl (sq_of hGD), w2, k _ G w1 (Dr.pre (e1.trans e2) d)⟩
end
end Bt
namespace Bt
open PySem PySem.Spec PyProof.Rows L2 Bk Bm Evl Be Cr Bp Bl TL
def ps1 : List Str := ["a", "b", "c", "d/x", "d/y", "e/f/g"].map Str.ofString
def ps2 : List Str := ["m", "p/q"].map Str.ofString
theorem FileAt.kp {r : Addr} {H G : Hp} {v : V} {f : Fl} {xs : List V} (h : FileAt H v f) (hr : H r = some (.lst xs)) (k : Kp r H G) : FileAt G v f := by
  obtain ⟨b, rfl, hb⟩ := h
  exact ⟨b, rfl, k b _ (ne_of hb hr (by intro z; cases z)) hb⟩
theorem FileAt.updL {H : Hp} {D : Addr} {v : V} {f : Fl} {xs zs : List V} (h : FileAt H v f) (hr : H D = some (.lst xs)) : FileAt (upd H D (.lst zs)) v f := by
  obtain ⟨b, rfl, hb⟩ := h
  exact ⟨b, rfl, by rw [upd_ne (ne_of hb hr (by intro z; cases z))]; exact hb⟩
section
variable {P : Program} {w : World} {K : PySem.W.Frag} {mg : Str → Option Value} {base : Heap}
abbrev nTree : List Str := ["_law_row", "_law_found", "_law_path"]
theorem scTree : FnScope nTree ["_law_row"] (defScope sTree) := ⟨rfl, rfl, rfl, by decide +kernel, rfl, by decide +kernel, by decide +kernel⟩
/-- between the turns: the list at D holds files whose paths stand in done, in order -/
def TInv (K : PySem.W.Frag) (r : Addr) (H0 : Hp) (D : Addr) (done : List Str) (σ : L2.St) (G : Hp) : Prop :=
  ∃ (vs : List V) (fs : List Fl) (u : Option V), σ = [some (.ref r), some (.ref D), u] ∧ G D = some (.lst vs) ∧ Paired (FileAt G) vs fs ∧ (fs.map (·.1)).Sublist done ∧ (∀ f ∈ fs, okW f.2) ∧ Dr K r H0 G
theorem tree_turns {r D : Addr} {H0 G : Hp} {ps done : List Str} {tt : TT} {De : Ends} {σ : L2.St} (inv : TInv K r H0 D done σ G) (hD0 : H0 D = none) (hDr : D ≠ r) (hz : done.length + ps.length ≤ 100)
    (test : ∀ (q : Str) G (Q : Bool → Hp → Prop), Row K G r → (∀ b G', Dr K r G G' → Q b G') → tt [some (.ref r), some (.ref D), some (.str q)] G Q)
    (k : ∀ σ' G', TInv K r H0 D (done ++ ps) σ' G' → De.nx σ' G') :
    tFor (iList K (tLst (tCs (ps.map V.str)))) (gName 2) (tIfS tt (tDrop (tBM K "list" rAppend (tVar 1) (tCons (tTup (tCons (tVar 2) (tCons (tCall (spWords (K := K)) [] E0 (tCons (tVar 0) tNil)) tNil))) tNil))) tNext) De σ G := by
  obtain ⟨vs0, fs0, u0, es0, hD, _, _, _, d0⟩ := id inv
  refine s_forNL (xs := ps.map V.str) (el_lst (ea_cs _) (by rw [List.length_map]; omega)) (fun p i σ' G' => TInv K r H0 D (done ++ ps.take i) σ' G' ∧ G' p = some (.lst (ps.map V.str)) ∧ p ≠ D ∧ p ≠ r) (fun p H1 hp e h1 => ?_) (fun p i σ' G' _ q => sq_of q.2.1) (fun p i x σ' G' hi q => ?_) (fun p σ' G' q => ?_)
  · obtain ⟨vs, fs, u, es, hD, pf, sl, ok, d⟩ := inv
    refine ⟨⟨vs, fs, u, es, e _ _ hD, paired_mono pf fun _ _ z => z.mono e, by simpa using sl, ok, d.ex e⟩, h1, (ne_of_none hD hp).symm, d.row.ne_new hp⟩
  · obtain ⟨⟨vs, fs, u, rfl, hD, pf, sl, ok, d⟩, hp, npD, npr⟩ := q
    obtain ⟨q, hq, rfl⟩ : ∃ q, ps[i]? = some q ∧ x = V.str q := by
      rw [List.getElem?_map] at hi
      cases e : ps[i]? with
      | none => rw [e] at hi; cases hi
      | some q => rw [e] at hi; exact ⟨q, rfl, (Option.some.inj hi).symm⟩
    have htk : ps.take (i + 1) = ps.take i ++ [q] := by rw [List.take_succ, hq]; rfl
    have hlen : fs.length ≤ 100 := by
      have h1 := sl.length_le
      rw [List.length_map, List.length_append, List.length_take] at h1
      omega
    obtain ⟨rl, hrl⟩ := d.row.at
    refine test q G' _ d.row fun b G1 d1 => ?_
    have hD1 : G1 D = some (.lst vs) := d1.kp _ _ hDr hD
    have pf1 : Paired (FileAt G1) vs fs := paired_mono pf fun _ _ z => FileAt.kp z hrl d1.kp
    cases b with
    | false =>
      rw [if_neg (by decide)]
      exact ⟨⟨vs, fs, _, rfl, hD1, pf1, by rw [htk, ← List.append_assoc]; exact sl.trans (List.sublist_append_left _ _), ok, d.trans d1⟩, d1.kp _ _ npr hp, npD, npr⟩
    | true =>
      rw [if_pos rfl]
      refine ⟨_, rfl, Or.inl ⟨rfl, vs, sq_of hD1⟩, _, rfl, _, rfl, r, rfl, d1.row, fun y G2 hy d2 => ⟨by show 2 ≤ sizeLine; decide, fun T hT => ?_⟩⟩
      obtain ⟨rl1, hrl1⟩ := d1.row.at
      have hD2 : G2 D = some (.lst vs) := d2.kp _ _ hDr hD1
      have pf2 : Paired (FileAt G2) vs fs := paired_mono pf1 fun _ _ z => FileAt.kp z hrl1 d2.kp
      have hD3 : (upd G2 T (.tup [.str q, .str y])) D = some (.lst vs) := (Ex.new hT) _ _ hD2
      have pl := paired_len pf2
      refine ⟨D, vs, .ref T, rfl, rfl, hD3, sz_lt (by omega), ?_⟩
      have d02 : Dr K r H0 (upd G2 T (.tup [.str q, .str y])) := ((d.trans d1).trans d2).ex (Ex.new hT)
      refine ⟨⟨vs ++ [.ref T], fs ++ [(q, y)], _, rfl, upd_same, ?_, ?_, ?_, d02.updL hD0 hD3 hDr⟩, ?_, npD, npr⟩
      · refine paired_append (paired_mono pf2 fun _ _ z => FileAt.updL (z.mono (Ex.new hT)) hD3) (.cons ⟨T, rfl, ?_⟩ .nil)
        rw [upd_ne (ne_of_none hD2 hT).symm, upd_same]
      · rw [htk, ← List.append_assoc, List.map_append]
        exact sl.append (List.Sublist.refl _)
      · intro f hf
        rcases List.mem_append.mp hf with hf | hf
        · exact ok f hf
        · rw [List.mem_singleton.mp hf]
          exact hy
      · rw [upd_ne npD]
        exact (Ex.new hT) _ _ (d2.kp _ _ npr (d1.kp _ _ npr hp))
  · have e : ps.take (ps.map V.str).length = ps := by rw [List.length_map, List.take_length]
    rw [e] at q
    exact k σ' G' q.1
def TreeOk (fs : List Fl) : Prop := (fs.map (·.1)).Sublist (ps1 ++ ps2) ∧ ∀ f ∈ fs, okW f.2
def spTree : Sp := fun vs H Q _ => ∃ r, vs = [.ref r] ∧ Row K H r ∧ ∀ p xs fs G, Dr K r H G → H p = none → G p = some (.tup xs) → Paired (FileAt G) xs fs → TreeOk fs → Q (.ref p) G
theorem ok_tree {f : Addr} {fd : FuncData} (F : Fun K "_law_tree" "_law_tree" sTree f fd) (T : Gv mg) (cT : Cal P w K mg base CX0 1 "_law_taken" ["_law_row", "_law_many"] (spTaken (K := K)))
    (cW : Cal P w K mg base CX0 3 "_law_words" ["_law_row"] (spWords (K := K))) : FnOk P w K mg base CX0 4 f fd ["_law_row"] (spTree (K := K)) := by
  refine F.ok scTree (fun vs H Q E h => ?_) (fun cdv A outer s H vs Q E hr h => ?_)
  · obtain ⟨r, rfl, _⟩ := h
    rfl
  · obtain ⟨r, rfl, row, k⟩ := h
    have hr1 : Room 1 _ := hr.mono (by decide)
    refine ⟨_, pss_cons (ps_set (i := 1) scTree.nd rfl (Or.inl rfl) (pe_lst pa_nil))
      (pss_cons (ps_for PassesOwn.never rfl (pi_list (pe_lst (pa_cons pe_str (pa_cons pe_str (pa_cons pe_str (pa_cons pe_str (pa_cons pe_str (pa_cons pe_str pa_nil)))))))) (pg_name (i := 2) scTree.nd rfl (Or.inl rfl))
        (pss_one (ps_if (pt_cmpR op_gt (pe_call cT.F hr1 (by rfl) cT.g cT.kp cT.b .nil pass0 (pa_cons (pv 0) (pa_cons pe_int pa_nil))) pe_int (nomark _))
          (pss_one (ps_expr (pe_bm PySem.F.plainAttrs_list PySem.F.slot_list_append PySem.F.type_list_append mt_append (pv 1) (pa_cons (pe_tup (pa_cons (pv 2) (pa_cons (pe_call cW.F hr (by rfl) cW.g cW.kp cW.b .nil pass0 (pa_cons (pv 0) pa_nil)) pa_nil))) pa_nil)))) pss_nil)))
      (pss_cons (ps_for PassesOwn.never rfl (pi_list (pe_lst (pa_cons pe_str (pa_cons pe_str pa_nil)))) (pg_name (i := 2) scTree.nd rfl (Or.inl rfl))
        (pss_one (ps_if (pt_cmpR op_eq (pe_call cT.F hr1 (by rfl) cT.g cT.kp cT.b .nil pass0 (pa_cons (pv 0) (pa_cons pe_int pa_nil))) pe_int (nomark _))
          (pss_one (ps_expr (pe_bm PySem.F.plainAttrs_list PySem.F.slot_list_append PySem.F.type_list_append mt_append (pv 1) (pa_cons (pe_tup (pa_cons (pv 2) (pa_cons (pe_call cW.F hr (by rfl) cW.g cW.kp cW.b .nil pass0 (pa_cons (pv 0) pa_nil)) pa_nil))) pa_nil)))) pss_nil)))
      (pss_one (ps_ret (pe_callTy call_tuple_of (by rfl) T.tup (by decide +kernel) (pa_cons (pv 1) pa_nil)))))), ?_⟩
    refine q_asgL (xs := []) (el_lst ea_nil (by decide)) fun D H1 hD e1 h1 => ?_
    have row1 := row.ex e1
    have hDr : D ≠ r := row.ne_new hD
    refine tree_turns (K := K) (r := r) (D := D) (H0 := H) (ps := ps1) (done := []) (De := ⟨_, _, _, _⟩) ⟨[], [], none, rfl, h1, .nil, List.Sublist.refl _, fun _ z => (by cases z), Dr.pre e1 (Dr.refl row1)⟩ hD hDr (by decide) (fun q G Q' rw q' => ?_) fun σ' G' inv => ?_
    · exact draw (m := 4) (ev_var rfl) ev_c rw (by decide) (by decide) fun n G1 hn hm d => ⟨n, 0, rfl, rfl, _, rfl, q' _ G1 d⟩
    refine tree_turns (K := K) (r := r) (D := D) (H0 := H) (ps := ps2) (done := [] ++ ps1) (De := ⟨_, _, _, _⟩) inv hD hDr (by decide) (fun q G Q' rw q' => ?_) fun σ2 G2 inv2 => ?_
    · exact draw (m := 4) (ev_var rfl) ev_c rw (by decide) (by decide) fun n G1 hn hm d => ⟨rfl, _, rfl, q' _ G1 d⟩
    obtain ⟨vs, fs, u, rfl, hD2, pf, sl, ok, d⟩ := inv2
    refine ⟨_, rfl, D, vs, rfl, .inl ⟨sq_of hD2, fun l hl => ?_⟩⟩
    exact k l vs fs _ (d.ex (Ex.new hl)) (d.free row hl) upd_same (paired_mono pf fun _ _ z => z.mono (Ex.new hl)) ⟨sl, ok⟩
end
end Bt
namespace Bt
open PySem PySem.Spec PyProof.Rows L2 Bk Bm Evl Be Cr Bp Bl TL
abbrev sOddW : Stmt := top 75
section
variable {X : Cx}
end
section
variable {P : Program} {w : World} {K : PySem.W.Frag} {mg : Str → Option Value} {base : Heap}
theorem scOddW : FnScope ["_law_row"] ["_law_row"] (defScope sOddW) := ⟨rfl, rfl, rfl, by decide +kernel, rfl, by decide +kernel, by decide +kernel⟩
def oddW : List V := [.non, .int 0, .bl true, .str (Txt.mul (Str.ofString "a") 201)]
theorem mul_ok : MulOk (Str.ofString "a") 201 := by
  refine ⟨by decide, fun _ _ => by decide +kernel, fun _ _ => by decide +kernel⟩
theorem mul_bad : (Txt.mul (Str.ofString "a") 201).length ≤ 1000 ∧ textB (Txt.mul (Str.ofString "a") 201) = false := by decide +kernel
theorem ok_oddW {f : Addr} {fd : FuncData} (F : Fun K "_law_odd_words" "_law_odd_words" sOddW f fd) (T : Gv mg) (cT : Cal P w K mg base CX0 1 "_law_taken" ["_law_row", "_law_many"] (spTaken (K := K))) : FnOk P w K mg base CX0 2 f fd ["_law_row"] (spOdd (K := K) isTextV) := by
  refine F.ok scOddW (fun vs H Q E h => ?_) (fun cdv A outer s H vs Q E hr h => ?_)
  · obtain ⟨r, rfl, _⟩ := h
    rfl
  · obtain ⟨r, rfl, row, k⟩ := h
    refine ⟨_, pss_one (ps_ret (pe_ix ix_list (pe_lst (pa_cons pe_non (pa_cons pe_int (pa_cons pe_bl (pa_cons (pe_op op_mulS pe_str pe_int) (pa_cons (pe_tup (pa_cons pe_str pa_nil)) (pa_cons (pe_lst (pa_cons pe_str pa_nil)) (pa_cons pe_dnewK pa_nil))))))))
      (pe_call cT.F hr (by rfl) cT.g cT.kp cT.b .nil pass0 (pa_cons (pv 0) (pa_cons pe_int pa_nil))) (fun _ _ => rfl))), ?_⟩
    refine ⟨_, _, rfl, rfl, mul_ok, ⟨by show 1 ≤ sizeLine; decide, fun t ht => ⟨by show 1 ≤ sizeLine; decide, fun l hl => fun d hd => ⟨by show 7 ≤ sizeLine; decide, fun o ho => ?_⟩⟩⟩⟩
    have eAll := (Ex.new (o := .tup [.str (Str.ofString "a")]) ht).trans ((Ex.new (o := .lst [.str (Str.ofString "a")]) hl).trans ((Ex.new (o := .dK []) hd).trans (Ex.new (o := .lst (oddW ++ [V.ref t, V.ref l, V.ref d])) ho)))
    have row2 := row.ex eAll
    have ft := ((Ex.new (o := .lst [.str (Str.ofString "a")]) hl).trans ((Ex.new (o := .dK []) hd).trans (Ex.new (o := .lst (oddW ++ [V.ref t, V.ref l, V.ref d])) ho))) _ _ (upd_same (a := t) (o := .tup [.str (Str.ofString "a")]) (H := H))
    have fl := ((Ex.new (o := .dK []) hd).trans (Ex.new (o := .lst (oddW ++ [V.ref t, V.ref l, V.ref d])) ho)) _ _ (upd_same (a := l) (o := .lst [.str (Str.ofString "a")]))
    have fd' := (Ex.new (o := .lst (oddW ++ [V.ref t, V.ref l, V.ref d])) ho) _ _ (upd_same (a := d) (o := .dK []))
    have neo : o ≠ r := (row.ex ((Ex.new (o := .tup [.str (Str.ofString "a")]) ht).trans ((Ex.new (o := .lst [.str (Str.ofString "a")]) hl).trans (Ex.new (o := .dK []) hd)))).ne_new ho
    refine draw (m := 7) (ev_var rfl) ev_c row2 (by decide) (by decide) fun n G hn hm dd => ?_
    have hv : ∀ v ∈ oddW ++ [V.ref t, V.ref l, V.ref d], ∀ F : Hp, F t = some (.tup [.str (Str.ofString "a")]) → F l = some (.lst [.str (Str.ofString "a")]) → F d = some (.dK []) → Sm F v ∧ isTextV v = false := by
      intro v hv F f1 f2 f3
      simp only [oddW, List.mem_append, List.mem_cons, List.not_mem_nil, or_false] at hv
      rcases hv with ((rfl | rfl | rfl | rfl) | (rfl | rfl | rfl))
      · exact ⟨.non, rfl⟩
      · exact ⟨.int _, rfl⟩
      · exact ⟨.bl _, rfl⟩
      · exact ⟨.str _ mul_bad.1, mul_bad.2⟩
      · exact ⟨.t1 f1, rfl⟩
      · exact ⟨.l1 f2, rfl⟩
      · exact ⟨.d0 f3, rfl⟩
    have hin : n.toNat < (oddW ++ [V.ref t, V.ref l, V.ref d]).length := by
      show n.toNat < 7
      omega
    obtain ⟨s1, s2⟩ := hv _ (List.getElem_mem hin) _ ft fl fd'
    refine ⟨o, _, n, _, rfl, rfl, sq_of (dd.kp _ _ neo upd_same), at_of (j := n.toNat) (by omega) (List.getElem?_eq_getElem hin), ?_⟩
    exact k _ G (Dr.pre eAll dd) (Sm.dr s1 row2 dd) s2
end
end Bt
namespace Bt
open PySem PySem.Spec PyProof.Rows L2 Bk Bm Evl Be Cr Bp Bl TL
/-! ### the mathematics of spoilt trees -/
abbrev lt (p q : Str) : Prop := p.cps.toList < q.cps.toList
/-- q may stand behind p -/
def Rp (p q : Str) : Prop := lt p q ∧ within q p = false
instance (p q : Str) : Decidable (Rp p q) := inferInstanceAs (Decidable (_ ∧ _))
def allP : List Str := ps1 ++ ps2
theorem allP_pw : allP.Pairwise Rp := by decide +kernel
theorem allP_ok : ∀ p ∈ allP, pathB p = true ∧ p.length ≤ 5 ∧ PyData.strOk p = true ∧
    ((Txt.split p (Str.ofString "/")).length = 3 ∨ ((Txt.split p (Str.ofString "/")).length ≠ 3 ∧ pathB (p ++ Str.ofString "/z") = true ∧ within (p ++ Str.ofString "/z") p = true ∧ PyData.strOk (p ++ Str.ofString "/z") = true ∧ (p ++ Str.ofString "/z").length ≤ 1000)) := by decide +kernel
theorem lt_irr (p : Str) : ¬ lt p p := List.lt_irrefl _
theorem lt_asy {p q : Str} (h : lt p q) : ¬ lt q p := fun h' => lt_irr p (List.lt_trans h h')
theorem follow_good {pre : List Fl} {f : Fl} (h : ((pre ++ [f]).map (·.1)).Pairwise Rp) : follow f.1 pre = true := by
  rw [List.map_append, List.pairwise_append] at h
  have h1 : ∀ g ∈ pre, Rp g.1 f.1 := fun g hg => h.2.2 _ (List.mem_map.mpr ⟨g, hg, rfl⟩) _ (by simp)
  unfold follow
  cases e : pre.getLast? with
  | none => rfl
  | some l =>
    have hl : l ∈ pre := List.mem_of_getLast? e
    have h2 : (pre.any fun g => within f.1 g.1) = false := by
      rw [List.any_eq_false]
      intro g hg
      rw [(h1 g hg).2]
      decide
    show (decide (lt l.1 f.1) && !(pre.any fun g => within f.1 g.1)) = true
    rw [decide_eq_true (h1 l hl).1, h2]
    rfl
theorem fb_good : ∀ (suf pre : List Fl) (rest : List (Option Fl)), ((pre ++ suf).map (·.1)).Pairwise Rp → fb pre (suf.map some ++ rest) = fb (pre ++ suf) rest
  | [], pre, rest, _ => by simp
  | f :: r, pre, rest, h => by
    have e : pre ++ f :: r = (pre ++ [f]) ++ r := by simp
    have h0 : ((pre ++ [f]).map (·.1)).Pairwise Rp := by
      rw [e, List.map_append] at h
      exact (List.pairwise_append.mp h).1
    show (if follow f.1 pre = true then fb (pre ++ [f]) (r.map some ++ rest) else _) = _
    rw [if_pos (follow_good h0), fb_good r (pre ++ [f]) rest (by rw [← e]; exact h), e]
theorem tree_pw {fs : List Fl} (h : TreeOk fs) : (fs.map (·.1)).Pairwise Rp := allP_pw.sublist h.1
theorem tree_len {fs : List Fl} (h : TreeOk fs) : fs.length ≤ 8 := by
  have h1 := h.1.length_le
  rw [List.length_map] at h1
  exact h1
theorem tree_mem {fs : List Fl} (h : TreeOk fs) {f : Fl} (hf : f ∈ fs) : f.1 ∈ allP ∧ okW f.2 := ⟨h.1.subset (List.mem_map.mpr ⟨f, hf, rfl⟩), h.2 f hf⟩
theorem tree_okF {fs : List Fl} (h : TreeOk fs) {f : Fl} (hf : f ∈ fs) : okF f ∧ (pathB f.1 && textB f.2) = true := by
  obtain ⟨h1, h2⟩ := tree_mem h hf
  have h3 := allP_ok _ h1
  refine ⟨⟨by omega, by have := h2.1; omega, h3.2.2.1, h2.2.2⟩, ?_⟩
  rw [h3.1, h2.2.1]
  rfl
theorem fb_tree {fs : List Fl} (h : TreeOk fs) : fb [] (fs.map some) = none := by
  have e := fb_good fs [] [] (by simpa using tree_pw h)
  rw [List.append_nil] at e
  rw [e]
  rfl
/-- a wrong thing at a place of a good tree -/
theorem fb_at {fs : List Fl} (h : TreeOk fs) {i : Nat} (hi : i ≤ fs.length) {o : Option Fl} (ho : ∀ f, o = some f → follow f.1 (fs.take i) = false) (rest : List (Option Fl)) : fb [] ((fs.take i).map some ++ (o :: rest)) = some i := by
  have e := fb_good (fs.take i) [] (o :: rest) (by
    rw [List.nil_append]
    have h1 := tree_pw h
    exact h1.sublist ((List.take_sublist i fs).map _))
  rw [e]
  have hl : (fs.take i).length = i := by rw [List.length_take]; omega
  cases o with
  | none =>
    show some ([] ++ fs.take i).length = some i
    rw [List.nil_append, hl]
  | some f =>
    show (if follow f.1 ([] ++ fs.take i) = true then _ else some ([] ++ fs.take i).length) = some i
    rw [List.nil_append, ho f rfl, if_neg (by decide), hl]
/-- a path that stands at an earlier place -/
theorem follow_dup {fs : List Fl} (h : TreeOk fs) {i j : Nat} (hi : i ≤ fs.length) (hj : j < i) {f : Fl} (hf : fs[j]? = some f) : follow f.1 (fs.take i) = false := by
  have hl : (fs.take i).length = i := by rw [List.length_take]; omega
  have hfl : (fs.take i).getLast? = fs[i - 1]? := by
    rw [List.getLast?_eq_getElem?, hl, List.getElem?_take_of_lt (by omega)]
  have hb : i - 1 < fs.length := by omega
  unfold follow
  rw [hfl, List.getElem?_eq_getElem hb]
  show (decide (lt fs[i - 1].1 f.1) && _) = false
  have no : ¬ lt fs[i - 1].1 f.1 := by
    obtain ⟨hjl, e⟩ := List.getElem?_eq_some_iff.mp hf
    by_cases c : j = i - 1
    · subst c
      rw [e]
      exact lt_irr _
    · have pw := tree_pw h
      rw [List.pairwise_iff_getElem] at pw
      have r := pw j (i - 1) (by simpa using hjl) (by simpa using hb) (by omega)
      rw [List.getElem_map, List.getElem_map, e] at r
      exact lt_asy r.1
  rw [decide_eq_false no]
  rfl
/-- a path within the one ahead -/
theorem follow_in {fs : List Fl} {i : Nat} {l : Fl} {p : Str} (hl : fs[i]? = some l) (hw : within p l.1 = true) : follow p (fs.take (i + 1)) = false := by
  have hm : l ∈ fs.take (i + 1) := by
    rw [List.take_succ, hl]
    simp
  unfold follow
  cases e : (fs.take (i + 1)).getLast? with
  | none =>
    rw [List.getLast?_eq_none_iff.mp e] at hm
    cases hm
  | some z =>
    have h2 : ((fs.take (i + 1)).any fun g => within p g.1) = true := List.any_eq_true.mpr ⟨l, hm, hw⟩
    show (decide _ && !((fs.take (i + 1)).any fun g => within p g.1)) = false
    rw [h2]
    simp
end Bt
namespace Bt
open PySem PySem.Spec PyProof.Rows L2 Bk Bm Evl Be Cr Bp Bl TL
abbrev sOddT : Stmt := top 76
abbrev nOddT : List Str := ["_law_row", "_law_tree_here", "_law_kind", "_law_none", "_law_at", "_law_odd", "_law_bad", "_law_file", "_law_k"]
theorem scOddT : FnScope nOddT ["_law_row", "_law_tree_here"] (defScope sOddT) := ⟨rfl, rfl, rfl, by decide +kernel, rfl, by decide +kernel, by decide +kernel⟩
/-! ### tuples cut and put together -/
def EvX (te : TE) (σ : L2.St) (H : Hp) (xs : List V) : Prop := ∀ H1, Ex H H1 → ∀ Q : VK, (∀ p H2, Ex H1 H2 → H2 p = some (.tup xs) → Q (.ref p) H2) → te σ H1 Q
section
variable {K : PySem.W.Frag} {σ : L2.St} {H : Hp} {ta tb te ti : TE} {a : Addr} {xs ys : List V}
theorem ex_tup {ta : TA} {vs : List V} (h : EvA ta σ H vs) (hl : vs.length ≤ 100000) : EvX (tTup ta) σ H vs := fun H1 e Q q =>
  h H1 e _ fun H2 e2 => ⟨sz_of hl, fun p hp => q p _ (e2.trans (Ex.new hp)) upd_same⟩
theorem ex_cat (h1 : EvX ta σ H xs) (h2 : EvX tb σ H ys) (hl : xs.length + ys.length ≤ 100000) : EvX (tOp (rCatA K) ta tb) σ H (xs ++ ys) := fun H1 e Q q =>
  h1 H1 e _ fun a H2 e2 ha => h2 H2 (e.trans e2) _ fun b H3 e3 hb => ⟨a, b, xs, ys, rfl, rfl, st_of (e3 _ _ ha), st_of hb, sz_of hl,
    fun z => q b H3 (e2.trans e3) (by rw [z]; exact hb), fun _ z => q a H3 (e2.trans e3) (by rw [z, List.append_nil]; exact e3 _ _ ha), fun _ _ p hp => q p _ ((e2.trans e3).trans (Ex.new hp)) upd_same⟩
theorem ex_to {i : Nat} (h : Ev te σ H (.ref a)) (hi : Ev ti σ H (.int (i : Int))) (hx : H a = some (.tup xs)) (hl : i ≤ xs.length) : EvX (tSl (rSlA K) te tNoPart (tPart ti)) σ H (xs.take i) := fun H1 e Q q =>
  h H1 e _ fun H2 e2 => hi H2 (e.trans e2) _ fun H3 e3 => ⟨(i : Int), rfl, a, xs, rfl, st_of (((e.trans e2).trans e3) _ _ hx), by
    have c1 : HT.sIx xs.length 0 none = 0 := HT.sIx_none _ _
    have c2 : HT.sIx xs.length xs.length (some (i : Int)) = i := by rw [HT.sIx_nat]; omega
    have c3 : cutV xs none (some (i : Int)) = xs.take i := by
      unfold cutV
      rw [c1, c2]
      simp
    rw [c1, c2]
    refine ⟨fun z => ?_, fun z p hp => ?_⟩
    · refine q a H3 (e2.trans e3) ?_
      rw [z.2, List.take_length]
      exact ((e.trans e2).trans e3) _ _ hx
    · refine q p _ ((e2.trans e3).trans (Ex.new hp)) ?_
      rw [c3]
      exact upd_same⟩
theorem ex_from {i : Nat} (h : Ev te σ H (.ref a)) (hi : Ev ti σ H (.int (i : Int))) (hx : H a = some (.tup xs)) (hl : i ≤ xs.length) : EvX (tSl (rSlA K) te (tPart ti) tNoPart) σ H (xs.drop i) := fun H1 e Q q =>
  h H1 e _ fun H2 e2 => hi H2 (e.trans e2) _ fun H3 e3 => ⟨(i : Int), rfl, a, xs, rfl, st_of (((e.trans e2).trans e3) _ _ hx), by
    have c1 : HT.sIx xs.length 0 (some (i : Int)) = i := by rw [HT.sIx_nat]; omega
    have c2 : HT.sIx xs.length xs.length none = xs.length := HT.sIx_none _ _
    have c3 : cutV xs (some (i : Int)) none = xs.drop i := by
      unfold cutV
      rw [c1, c2, List.take_of_length_le (by rw [List.length_drop]; omega)]
    rw [c1, c2]
    refine ⟨fun z => ?_, fun z p hp => ?_⟩
    · refine q a H3 (e2.trans e3) ?_
      rw [z.1]
      exact ((e.trans e2).trans e3) _ _ hx
    · refine q p _ ((e2.trans e3).trans (Ex.new hp)) ?_
      rw [c3]
      exact upd_same⟩
end
theorem small_str : ∀ k < 21, Nat.log2 k < 1920 ∧ (toString (k : Int) : Str).length ≤ 100 := by decide +kernel
/-- a thing that is no file -/
inductive OddIt (H : Hp) : V → Prop
  | non : OddIt H .non
  | i0 : OddIt H (.int 0)
  | sz : OddIt H (.str (Str.ofString "z"))
  | t1 {a : Addr} (h : H a = some (.tup [.str (Str.ofString "a")])) : OddIt H (.ref a)
  | l2 {a : Addr} (h : H a = some (.lst [.str (Str.ofString "z"), .str (Str.ofString "")])) : OddIt H (.ref a)
  | t3 {a : Addr} (h : H a = some (.tup [.str (Str.ofString "z"), .str (Str.ofString ""), .str (Str.ofString "")])) : OddIt H (.ref a)
  | pt {a : Addr} {u : V} (h : H a = some (.tup [u, .str (Str.ofString "")])) (su : Sm H u) (bu : isPathV u = false) : OddIt H (.ref a)
  | wt {a : Addr} {u : V} (h : H a = some (.tup [.str (Str.ofString "z"), u])) (su : Sm H u) (bu : isTextV u = false) : OddIt H (.ref a)
theorem OddIt.ex {H G : Hp} {v : V} (h : OddIt H v) (e : Ex H G) : OddIt G v := by
  cases h with
  | non => exact .non
  | i0 => exact .i0
  | sz => exact .sz
  | t1 h => exact .t1 (e _ _ h)
  | l2 h => exact .l2 (e _ _ h)
  | t3 h => exact .t3 (e _ _ h)
  | pt h su bu => exact .pt (e _ _ h) (su.mono e) bu
  | wt h su bu => exact .wt (e _ _ h) (su.mono e) bu
theorem OddIt.dr {K : PySem.W.Frag} {r : Addr} {H G : Hp} {v : V} (h : OddIt H v) (row : Row K H r) (d : Dr K r H G) : OddIt G v := by
  obtain ⟨a, i, s, z, ns, hr, _⟩ := id row
  cases h with
  | non => exact .non
  | i0 => exact .i0
  | sz => exact .sz
  | t1 h => exact .t1 (d.kp _ _ (ne_of h hr (by intro z; cases z)) h)
  | l2 h => exact .l2 (d.kp _ _ (ne_of h hr (by intro z; cases z)) h)
  | t3 h => exact .t3 (d.kp _ _ (ne_of h hr (by intro z; cases z)) h)
  | pt h su bu => exact .pt (d.kp _ _ (ne_of h hr (by intro z; cases z)) h) (Sm.dr su row d) bu
  | wt h su bu => exact .wt (d.kp _ _ (ne_of h hr (by intro z; cases z)) h) (Sm.dr su row d) bu
theorem OddIt.fil {K : PySem.W.Frag} {H : Hp} {v : V} (h : OddIt H v) : Fil K H v false := by
  cases h with
  | non => exact .no kd_non (by decide)
  | i0 => exact .no (kd_int 0) (by decide)
  | sz => exact .no (kd_str _) (by decide)
  | t1 h => exact .len h (by decide) (by decide)
  | l2 h => exact .no (kd_lst h) (by decide)
  | t3 h => exact .len h (by decide) (by decide)
  | pt h su bu =>
    have q := Fil.two (K := K) h su (.str (Str.ofString "") (by decide))
    rw [bu] at q
    exact q
  | @wt a u h su bu =>
    have q := Fil.two (K := K) h (.str (Str.ofString "z") (by decide)) su
    rw [bu, Bool.and_false] at q
    exact q
theorem itm_files {K : PySem.W.Frag} {H : Hp} {xs : List V} {fs : List Fl} (h : Paired (FileAt H) xs fs) (ok : ∀ f ∈ fs, okF f ∧ (pathB f.1 && textB f.2) = true) : Paired (Itm K H) xs (fs.map some) := by
  induction h with
  | nil => exact .nil
  | cons r _ ih => exact .cons ⟨r, ok _ List.mem_cons_self⟩ (ih fun f hf => ok f (List.mem_cons_of_mem _ hf))
theorem paired_drop {α β : Type} {F : α → β → Prop} {l : List α} {m : List β} (h : Paired F l m) : ∀ n, Paired F (l.drop n) (m.drop n) := by
  induction h with
  | nil => intro n; simp; exact .nil
  | cons r t ih =>
    intro n
    cases n with
    | zero => exact .cons r t
    | succ n => exact ih n
/-- a thing put into a good tree -/
theorem tr_spoilt {K : PySem.W.Frag} {H : Hp} {q : Addr} {xs : List V} {fs : List Fl} {b : V} {o : Option Fl} {i : Nat} (hq : H q = some (.tup (xs.take i ++ [b] ++ xs.drop i))) (pf : Paired (FileAt H) xs fs) (ok : TreeOk fs) (hi : i ≤ fs.length)
    (it : Itm K H b o) (ho : ∀ f, o = some f → follow f.1 (fs.take i) = false) : Tr K H (.ref q) (some (.int (i : Int))) := by
  have ip : Paired (Itm K H) xs (fs.map some) := itm_files pf fun f hf => tree_okF ok hf
  have ps : Paired (Itm K H) (xs.take i ++ [b] ++ xs.drop i) ((fs.take i).map some ++ (o :: (fs.drop i).map some)) := by
    have h1 := paired_append (paired_append (paired_take ip i) (.cons it .nil)) (paired_drop ip i)
    rw [List.map_take, List.map_drop]
    simpa using h1
  have hl := paired_len ps
  have hl2 := paired_len pf
  have h8 := tree_len ok
  have t := Tr.tup hq (by simp only [List.length_append, List.length_take, List.length_drop, List.length_cons, List.length_nil]; omega) ps
  rw [fb_at ok hi ho] at t
  exact t
section
variable {P : Program} {w : World} {K : PySem.W.Frag} {mg : Str → Option Value} {base : Heap}
def spOddT : Sp := fun vs H Q _ => ∃ r p xs fs, vs = [.ref r, .ref p] ∧ Row K H r ∧ H p = some (.tup xs) ∧ Paired (FileAt H) xs fs ∧ TreeOk fs ∧
  ∀ l bad u G, Dr K r H G → G l = some (.lst [bad, u]) → Tr K G bad (some u) → (u = .non ∨ ∃ i : Nat, u = .int (i : Int)) → Q (.ref l) G
theorem ok_oddT {f : Addr} {fd : FuncData} (F : Fun K "_law_odd_tree" "_law_odd_tree" sOddT f fd) (T : Gv mg) (cT : Cal P w K mg base CX0 1 "_law_taken" ["_law_row", "_law_many"] (spTaken (K := K)))
    (cP : Cal P w K mg base CX0 2 "_law_odd_path" ["_law_row"] (spOdd (K := K) isPathV)) (cW : Cal P w K mg base CX0 2 "_law_odd_words" ["_law_row"] (spOdd (K := K) isTextV)) : FnOk P w K mg base CX0 3 f fd ["_law_row", "_law_tree_here"] (spOddT (K := K)) := by
  refine F.ok scOddT (fun vs H Q E h => ?_) (fun cdv A outer s H vs Q E hr h => ?_)
  · obtain ⟨r, p, xs, fs, rfl, _⟩ := h
    rfl
  · obtain ⟨r, p, xs, fs, rfl, row, hp, pf, ok, k⟩ := h
    have hr1 : Room 1 _ := hr.mono (by decide)
    refine ⟨_, pss_cons (ps_set (i := 2) scOddT.nd rfl (Or.inl rfl) (pe_call cT.F hr1 (by rfl) cT.g cT.kp cT.b .nil pass0 (pa_cons (pv 0) (pa_cons pe_int pa_nil))))
      (pss_cons (ps_if (pt_cmpR op_eq (pv 2) pe_int (nomark _))
        (pss_cons (ps_set (i := 3) scOddT.nd rfl (Or.inl rfl) (pe_lst (pa_cons pe_non (pa_cons (pe_callTy call_list_of (by rfl) T.lst (by decide +kernel) (pa_cons (pv 1) pa_nil)) (pa_cons pe_int (pa_cons pe_str (pa_cons pe_dnewK
          (pa_cons (pe_callTy call_tuple_of (by rfl) T.tup (by decide +kernel) (pa_cons (pe_lc (own := [("_law_k", 8)]) (g := gName 8) (tt := tYes) rfl scOddT.nd (pi_range1 (by rfl) T.rng (pa_cons pe_int pa_nil)) (blkOk_by (N := nOddT) (sc := defScope sOddT) (by decide +kernel))
            (fun _ _ _ _ _ => pg_name (i := 8) scOddT.nd rfl (Or.inl rfl)) (fun _ _ _ _ _ => pts_nil)
            (fun _ _ _ _ _ => pe_tup (pa_cons (pe_op op_add_str pe_str (pe_callTy call_str_int (by rfl) T.str (by decide +kernel) (pa_cons (pv 8) pa_nil))) (pa_cons pe_str pa_nil)))) pa_nil))
          (pa_cons pe_bl pa_nil)))))))))
        (pss_one (ps_ret (pe_lst (pa_cons (pe_ix ix_list (pv 3) (pe_call cT.F hr1 (by rfl) cT.g cT.kp cT.b .nil pass0 (pa_cons (pv 0) (pa_cons pe_int pa_nil))) (fun _ _ => rfl)) (pa_cons pe_non pa_nil)))))) pss_nil)
      (pss_cons (ps_set (i := 4) scOddT.nd rfl (Or.inl rfl) (pe_call cT.F hr1 (by rfl) cT.g cT.kp cT.b .nil pass0 (pa_cons (pv 0) (pa_cons (pe_op op_add (pe_callB call_len_seq (by rfl) T.len PySem.boot_len (pa_cons (pv 1) pa_nil)) pe_int) pa_nil))))
      (pss_cons (ps_set (i := 5) scOddT.nd rfl (Or.inl rfl) (pe_lst (pa_cons pe_non (pa_cons (pe_tup (pa_cons pe_str pa_nil)) (pa_cons (pe_lst (pa_cons pe_str (pa_cons pe_str pa_nil)))
          (pa_cons (pe_tup (pa_cons (pe_call cP.F hr (by rfl) cP.g cP.kp cP.b .nil pass0 (pa_cons (pv 0) pa_nil)) (pa_cons pe_str pa_nil)))
          (pa_cons (pe_tup (pa_cons pe_str (pa_cons (pe_call cW.F hr (by rfl) cW.g cW.kp cW.b .nil pass0 (pa_cons (pv 0) pa_nil)) pa_nil)))
          (pa_cons (pe_tup (pa_cons pe_str (pa_cons pe_str (pa_cons pe_str pa_nil)))) (pa_cons pe_int (pa_cons pe_str pa_nil))))))))))
      (pss_cons (ps_set (i := 6) scOddT.nd rfl (Or.inl rfl) (pe_ix ix_list (pv 5) (pe_call cT.F hr1 (by rfl) cT.g cT.kp cT.b .nil pass0 (pa_cons (pv 0) (pa_cons (pe_callB call_len_seq (by rfl) T.len PySem.boot_len (pa_cons (pv 5) pa_nil)) pa_nil))) (fun _ _ => rfl)))
      (pss_cut (ps_if (pw_and (pt_cmpR op_lt (pv 2) pe_int (nomark _)) (pw_and1 (pt_cmpR op_gt (pv 4) pe_int (nomark _)))).pt
        (pss_cons (ps_set (i := 7) scOddT.nd rfl (Or.inl rfl) (pe_ix ix_tup (pv 1) (pe_call cT.F hr1 (by rfl) cT.g cT.kp cT.b .nil pass0 (pa_cons (pv 0) (pa_cons (pv 4) pa_nil))) (fun _ _ => rfl)))
        (pss_cons (ps_set (i := 6) scOddT.nd rfl (Or.inl rfl) (pe_ix ix_list (pe_lst (pa_cons (pv 7) (pa_cons (pe_tup (pa_cons (pe_ix ix_tup (pv 7) pe_int (fun _ _ => rfl)) (pa_cons pe_str pa_nil)))
            (pa_cons (pe_tup (pa_cons (pe_op op_add_str (pe_ix ix_tup (pe_ix ix_tup (pv 1) (pe_op op_sub (pv 4) pe_int) (fun _ _ => rfl)) pe_int (fun _ _ => rfl)) pe_str) (pa_cons pe_str pa_nil))) pa_nil))))
          (pe_call cT.F hr1 (by rfl) cT.g cT.kp cT.b .nil pass0 (pa_cons (pv 0) (pa_cons pe_int pa_nil))) (fun _ _ => rfl)))
        (pss_one (ps_if (pt_cmpR op_eq (pe_callB call_len_seq (by rfl) T.len PySem.boot_len (pa_cons (pe_split (pe_ix ix_tup (pe_ix ix_tup (pv 1) (pe_op op_sub (pv 4) pe_int) (fun _ _ => rfl)) pe_int (fun _ _ => rfl)) pe_str) pa_nil)) pe_int (nomark _))
          (pss_one (ps_set (i := 6) scOddT.nd rfl (Or.inl rfl) (pv 7))) pss_nil)))) pss_nil)
      (pss_one (ps_ret (pe_lst (pa_cons (pe_op op_catA (pe_op op_catA (pe_slice sl_tupA (pv 1) po_none (po_some (pv 4))) (pe_tup (pa_cons (pv 6) pa_nil))) (pe_slice sl_tupA (pv 1) (po_some (pv 4)) po_none)) (pa_cons (pv 4) pa_nil)))))))))), ?_⟩
    have hpr : p ≠ r := by
      obtain ⟨rl, hrl⟩ := row.at
      exact ne_of hp hrl (by intro z; cases z)
    refine draw (m := 6) (ev_var rfl) ev_c row (by decide) (by decide) fun kd G1 hk0 hk6 d1 => ?_
    have hp1 : G1 p = some (.tup xs) := d1.kp _ _ hpr hp
    refine q_when (b := decide (V.int kd = V.int 0)) (et_test (ev_op (ev_var rfl) ev_c (rv_eq rfl))) (fun hb H2 e2 => ?_) (fun hb H2 e2 => ?_)
    · -- a thing that is no tree
      have row2 : Row K H2 r := d1.row.ex e2
      refine ⟨_, rfl, p, xs, rfl, .inr (st_of (e2 _ _ hp1)), fun l hl d hd => ⟨21, rfl, by decide, by decide, fun D hD => ?_⟩⟩
      have e3 : Ex H2 (upd (upd H2 l (.lst xs)) d (.dK [])) := (Ex.new hl).trans (Ex.new hd)
      refine lc_range (lo := 0) (n := (21 : Int).toNat) (fun i G => Ex (upd (upd H2 l (.lst xs)) d (.dK [])) G ∧ ∃ vs, G D = some (.lst vs) ∧ vs.length = i) ⟨Ex.new hD, [], upd_same, rfl⟩ ?_ ?_
      · rintro i G hi ⟨eG, vs, hGD, hvs⟩
        refine ⟨rfl, ?_⟩
        unfold tYes
        dsimp only
        rw [if_pos rfl]
        have e0 : (0 : Int) + (i : Int) = (i : Int) := Int.zero_add _
        have h21 : i < 21 := hi
        obtain ⟨s1, s2⟩ := small_str i h21
        refine ⟨_, rfl, (0 : Int) + (i : Int), rfl, by rw [e0]; exact s1, _, _, rfl, rfl, ?_, by show 2 ≤ sizeLine; decide, fun t ht => ⟨vs, (Ex.new ht) _ _ hGD, sz_lt (by omega), (eG.trans (Ex.new ht)).mut hD, vs ++ [.ref t], upd_same, by simp [hvs]⟩⟩
        rw [e0]
        refine Nat.le_trans (Nat.add_le_add_left s2 1) (by rw [sizeLine_eq]; decide)
      · rintro G ⟨eG, vs, hGD, hvs⟩
        refine ⟨D, vs, rfl, .inl ⟨sq_of hGD, fun l2 hl2 => ⟨by show 7 ≤ sizeLine; decide, fun o ho => ?_⟩⟩⟩
        have e4 : Ex G (upd (upd G l2 (.tup vs)) o (.lst [.non, .ref l, .int 0, .str (Str.ofString "a"), .ref d, .ref l2, .bl true])) := (Ex.new hl2).trans (Ex.new ho)
        have row4 := row2.ex ((e3.trans eG).trans e4)
        have neo : o ≠ r := ((row2.ex (e3.trans eG)).ex (Ex.new hl2)).ne_new ho
        have nel : l ≠ r := row2.ne_new hl
        have ned : d ≠ r := (row2.ex (Ex.new hl)).ne_new hd
        have nel2 : l2 ≠ r := (row2.ex (e3.trans eG)).ne_new hl2
        refine ⟨_, rfl, draw (m := 7) (ev_var rfl) ev_c row4 (by decide) (by decide) fun n G5 hn hm d5 => ?_⟩
        have hin : n.toNat < ([.non, .ref l, .int 0, .str (Str.ofString "a"), .ref d, .ref l2, .bl true] : List V).length := by show n.toNat < 7; omega
        refine ⟨o, _, n, _, rfl, rfl, sq_of (d5.kp _ _ neo upd_same), at_of (j := n.toNat) (by omega) (List.getElem?_eq_getElem hin), by show 2 ≤ sizeLine; decide, fun z hz => ?_⟩
        have dAll : Dr K r H (upd G5 z (.lst [([.non, .ref l, .int 0, .str (Str.ofString "a"), .ref d, .ref l2, .bl true] : List V)[n.toNat], .non])) := ((d1.ex ((e2.trans (e3.trans eG)).trans e4)).trans d5).ex (Ex.new hz)
        have fl : G5 l = some (.lst xs) := d5.kp _ _ nel (e4 _ _ (eG _ _ ((Ex.new hd) _ _ upd_same)))
        have fd5 : G5 d = some (.dK []) := d5.kp _ _ ned (e4 _ _ (eG _ _ upd_same))
        have fl2 : G5 l2 = some (.tup vs) := d5.kp _ _ nel2 ((Ex.new ho) _ _ upd_same)
        have trs : ∀ v ∈ ([.non, .ref l, .int 0, .str (Str.ofString "a"), .ref d, .ref l2, .bl true] : List V), Tr K G5 v (some .non) := by
          intro v hv
          simp only [List.mem_cons, List.not_mem_nil, or_false] at hv
          rcases hv with rfl | rfl | rfl | rfl | rfl | rfl | rfl
          · exact .no kd_non (by decide)
          · exact .no (kd_lst fl) (by decide)
          · exact .no (kd_int 0) (by decide)
          · exact .no (kd_str _) (by decide)
          · exact .no (kd_dK fd5) (by decide)
          · exact .big fl2 (by rw [hvs]; decide)
          · exact .no (kd_bl true) (by decide)
        exact k z _ .non _ dAll upd_same ((trs _ (List.getElem_mem hin)).mono (Ex.new hz)) (.inl rfl)
    · -- a thing put into the tree
      have dH2 : Dr K r H H2 := d1.ex e2
      have hp2 : H2 p = some (.tup xs) := e2 _ _ hp1
      have hlen := paired_len pf
      have h8 := tree_len ok
      refine draw (m := (xs.length : Int) + 1) (ev_var rfl) (ev_op (ev_lenT (ev_var rfl) (st_of hp2)) ev_c rv_I0) dH2.row (by omega) (by omega) fun at0 G3 ha0 ha1 d3 => ?_
      obtain ⟨i, rfl⟩ : ∃ i : Nat, at0 = (i : Int) := ⟨at0.toNat, by omega⟩
      have hi : i ≤ fs.length := by omega
      have hp3 : G3 p = some (.tup xs) := d3.kp _ _ hpr hp2
      refine ⟨by show 1 ≤ sizeLine; decide, fun t1 ht1 => ⟨by show 2 ≤ sizeLine; decide, fun l1 hl1 => ?_⟩⟩
      have e4 : Ex G3 (upd (upd G3 t1 (.tup [.str (Str.ofString "a")])) l1 (.lst [.str (Str.ofString "z"), .str (Str.ofString "")])) := (Ex.new ht1).trans (Ex.new hl1)
      have row4 := d3.row.ex e4
      have it1 : OddIt (upd (upd G3 t1 (.tup [.str (Str.ofString "a")])) l1 (.lst [.str (Str.ofString "z"), .str (Str.ofString "")])) (.ref t1) := .t1 ((Ex.new hl1) _ _ upd_same)
      have it2 : OddIt (upd (upd G3 t1 (.tup [.str (Str.ofString "a")])) l1 (.lst [.str (Str.ofString "z"), .str (Str.ofString "")])) (.ref l1) := .l2 upd_same
      have d34 : Dr K r H (upd (upd G3 t1 (.tup [.str (Str.ofString "a")])) l1 (.lst [.str (Str.ofString "z"), .str (Str.ofString "")])) := (dH2.trans d3).ex e4
      have hp4 := e4 _ _ hp3
      generalize upd (upd G3 t1 (.tup [.str (Str.ofString "a")])) l1 (.lst [.str (Str.ofString "z"), .str (Str.ofString "")]) = G4 at row4 it1 it2 d34 hp4 ⊢
      refine ⟨_, rfl, r, rfl, row4, fun u Gu du su bu => ⟨by show 2 ≤ sizeLine; decide, fun t2 ht2 => ?_⟩⟩
      have it1 := (it1.dr row4 du).ex (Ex.new (o := .tup [u, .str (Str.ofString "")]) ht2)
      have it2 := (it2.dr row4 du).ex (Ex.new (o := .tup [u, .str (Str.ofString "")]) ht2)
      have it3 : OddIt (upd Gu t2 (.tup [u, .str (Str.ofString "")])) (.ref t2) := .pt upd_same (su.mono (Ex.new ht2)) bu
      have row5 := du.row.ex (Ex.new (o := .tup [u, .str (Str.ofString "")]) ht2)
      have d5 := (d34.trans du).ex (Ex.new (o := .tup [u, .str (Str.ofString "")]) ht2)
      have hp5 := (Ex.new (o := .tup [u, .str (Str.ofString "")]) ht2) _ _ (du.kp _ _ hpr hp4)
      generalize upd Gu t2 (.tup [u, .str (Str.ofString "")]) = G5 at row5 it1 it2 it3 d5 hp5 ⊢
      refine ⟨_, rfl, r, rfl, row5, fun wv Gw dw sw bw => ⟨by show 2 ≤ sizeLine; decide, fun t3 ht3 => ?_⟩⟩
      have it1 := (it1.dr row5 dw).ex (Ex.new (o := .tup [.str (Str.ofString "z"), wv]) ht3)
      have it2 := (it2.dr row5 dw).ex (Ex.new (o := .tup [.str (Str.ofString "z"), wv]) ht3)
      have it3 := (it3.dr row5 dw).ex (Ex.new (o := .tup [.str (Str.ofString "z"), wv]) ht3)
      have it4 : OddIt (upd Gw t3 (.tup [.str (Str.ofString "z"), wv])) (.ref t3) := .wt upd_same (sw.mono (Ex.new ht3)) bw
      have row6 := dw.row.ex (Ex.new (o := .tup [.str (Str.ofString "z"), wv]) ht3)
      have d6 := (d5.trans dw).ex (Ex.new (o := .tup [.str (Str.ofString "z"), wv]) ht3)
      have hp6 := (Ex.new (o := .tup [.str (Str.ofString "z"), wv]) ht3) _ _ (dw.kp _ _ hpr hp5)
      generalize upd Gw t3 (.tup [.str (Str.ofString "z"), wv]) = G6 at row6 it1 it2 it3 it4 d6 hp6 ⊢
      refine ⟨by show 3 ≤ sizeLine; decide, fun t4 ht4 => ⟨by show 8 ≤ sizeLine; decide, fun o ho => ?_⟩⟩
      have e7 : Ex G6 (upd (upd G6 t4 (.tup [.str (Str.ofString "z"), .str (Str.ofString ""), .str (Str.ofString "")])) o (.lst [.non, .ref t1, .ref l1, .ref t2, .ref t3, .ref t4, .int 0, .str (Str.ofString "z")])) := (Ex.new ht4).trans (Ex.new ho)
      have neo : o ≠ r := (row6.ex (Ex.new ht4)).ne_new ho
      have it1 := it1.ex e7
      have it2 := it2.ex e7
      have it3 := it3.ex e7
      have it4 := it4.ex e7
      have it5 : OddIt (upd (upd G6 t4 (.tup [.str (Str.ofString "z"), .str (Str.ofString ""), .str (Str.ofString "")])) o (.lst [.non, .ref t1, .ref l1, .ref t2, .ref t3, .ref t4, .int 0, .str (Str.ofString "z")])) (.ref t4) := .t3 ((Ex.new ho) _ _ upd_same)
      have row7 := row6.ex e7
      have d7 := d6.ex e7
      have hp7 := e7 _ _ hp6
      have ho7 : (upd (upd G6 t4 (.tup [.str (Str.ofString "z"), .str (Str.ofString ""), .str (Str.ofString "")])) o (.lst [.non, .ref t1, .ref l1, .ref t2, .ref t3, .ref t4, .int 0, .str (Str.ofString "z")])) o = some (.lst [.non, .ref t1, .ref l1, .ref t2, .ref t3, .ref t4, .int 0, .str (Str.ofString "z")]) := upd_same
      generalize upd (upd G6 t4 (.tup [.str (Str.ofString "z"), .str (Str.ofString ""), .str (Str.ofString "")])) o (.lst [.non, .ref t1, .ref l1, .ref t2, .ref t3, .ref t4, .int 0, .str (Str.ofString "z")]) = G7 at row7 it1 it2 it3 it4 it5 d7 hp7 ho7 ⊢
      have odds : ∀ v ∈ ([.non, .ref t1, .ref l1, .ref t2, .ref t3, .ref t4, .int 0, .str (Str.ofString "z")] : List V), OddIt G7 v := by
        intro v hv
        simp only [List.mem_cons, List.not_mem_nil, or_false] at hv
        rcases hv with rfl | rfl | rfl | rfl | rfl | rfl | rfl | rfl
        · exact .non
        · exact it1
        · exact it2
        · exact it3
        · exact it4
        · exact it5
        · exact .i0
        · exact .sz
      -- bad = odd[..]
      refine ⟨_, rfl, draw (m := 8) (ev_var rfl) (ev_is (ev_len (ev_var rfl) (sq_of ho7)) rfl) row7 (by decide) (by decide) fun n G8 hn hm d8 => ?_⟩
      have hin : n.toNat < ([.non, .ref t1, .ref l1, .ref t2, .ref t3, .ref t4, .int 0, .str (Str.ofString "z")] : List V).length := by show n.toNat < 8; omega
      refine ⟨o, _, n, _, rfl, rfl, sq_of (d8.kp _ _ neo ho7), at_of (j := n.toNat) (by omega) (List.getElem?_eq_getElem hin), ?_⟩
      have ob := (odds _ (List.getElem_mem hin)).dr row7 d8
      generalize ([.non, .ref t1, .ref l1, .ref t2, .ref t3, .ref t4, .int 0, .str (Str.ofString "z")] : List V)[n.toNat] = b0 at ob ⊢
      have d08 : Dr K r H G8 := d7.trans d8
      have hp8 : G8 p = some (.tup xs) := d08.kp _ _ hpr hp
      have files : ∀ {G}, Dr K r H G → Paired (FileAt G) xs fs := fun d => by
        obtain ⟨rl, hrl⟩ := row.at
        exact paired_mono pf fun _ _ z => FileAt.kp z hrl d.kp
      refine q_cut (M := fun σ' G => ∃ (b : V) (oo : Option Fl) (u2 u3 u5 u7 u8 : Option V), σ' = [some (.ref r), some (.ref p), u2, u3, some (.int (i : Int)), u5, some b, u7, u8] ∧ Dr K r H G ∧ Itm K G b oo ∧ (∀ f, oo = some f → follow f.1 (fs.take i) = false)) ?_ ?_
      · refine s_when (b := decide (kd < 3) && decide ((0 : Int) < (i : Int))) (et_and (et_test (ev_op (ev_var rfl) ev_c rv_I0)) fun _ => et_test (ev_op (ev_var rfl) ev_c rv_I0)) (fun hb9 F1 e9 => ?_) (fun _ F1 e9 => ⟨b0, none, _, _, _, _, _, rfl, d08.ex e9, (ob.ex e9).fil, by intro f z; cases z⟩)
        have hipos : 0 < i := by
          simp only [Bool.and_eq_true, decide_eq_true_eq] at hb9
          omega
        have d9 : Dr K r H F1 := d08.ex e9
        refine ⟨_, rfl, draw (m := (i : Int)) (ev_var rfl) (ev_var rfl) d9.row (by omega) (by omega) fun j F2 hj0 hj1 d10 => ?_⟩
        have d2 : Dr K r H F2 := d9.trans d10
        have hp10 := d2.kp _ _ hpr hp
        have jlt : j.toNat < xs.length := by omega
        obtain ⟨f, hf, bj, ebj, hbj⟩ := paired_get (files d2) (List.getElem?_eq_getElem jlt)
        have llt : i - 1 < xs.length := by omega
        obtain ⟨g, hg, bg, ebg, hbg⟩ := paired_get (files d2) (List.getElem?_eq_getElem llt)
        refine ⟨p, xs, j, _, rfl, rfl, st_of hp10, at_of (j := j.toNat) (by omega) (List.getElem?_eq_getElem jlt), ?_⟩
        rw [ebj]
        have hatg : atI xs ((i : Int) - 1) = some (.ref bg) := at_of (j := i - 1) (by omega) (by rw [List.getElem?_eq_getElem llt, ebg])
        have gok := tree_okF ok (List.mem_of_getElem? hg)
        have fok := tree_okF ok (List.mem_of_getElem? hf)
        have gp := (tree_mem ok (List.mem_of_getElem? hg)).1
        have ga := allP_ok _ gp
        refine ⟨_, rfl, _, rfl, bj, _, 0, _, rfl, rfl, st_of hbj, rfl, by show 2 ≤ sizeLine; decide, fun q1 hq1 => ?_⟩
        have e11 : Ex F2 (upd F2 q1 (.tup [.str f.1, .str (Str.ofString "other")])) := Ex.new hq1
        have h11 : (upd F2 q1 (.tup [.str f.1, .str (Str.ofString "other")])) q1 = some (.tup [.str f.1, .str (Str.ofString "other")]) := upd_same
        show tCons (tTup _) _ _ (upd F2 q1 (.tup [.str f.1, .str (Str.ofString "other")])) _
        have d3 := d2.ex e11
        generalize upd F2 q1 (.tup [.str f.1, .str (Str.ofString "other")]) = F3 at e11 h11 d3 ⊢
        refine ⟨_, rfl, _, rfl, _, _, rfl, rfl, p, xs, _, _, rfl, rfl, st_of (e11 _ _ hp10), hatg, bg, _, 0, _, rfl, rfl, st_of (e11 _ _ hbg), rfl, _, _, rfl, rfl, Nat.le_trans (Nat.add_le_add_right gok.1.1 2) (by rw [sizeLine_eq]; decide), by show 2 ≤ sizeLine; decide, fun q2 hq2 => ⟨by show 3 ≤ sizeLine; decide, fun o3 ho3 => ?_⟩⟩
        have e12 : Ex F3 (upd (upd F3 q2 (.tup [.str (g.1 ++ Str.ofString "/z"), .str (Str.ofString "")])) o3 (.lst [.ref bj, .ref q1, .ref q2])) := (Ex.new hq2).trans (Ex.new ho3)
        have h12 : (upd (upd F3 q2 (.tup [.str (g.1 ++ Str.ofString "/z"), .str (Str.ofString "")])) o3 (.lst [.ref bj, .ref q1, .ref q2])) q2 = some (.tup [.str (g.1 ++ Str.ofString "/z"), .str (Str.ofString "")]) := (Ex.new ho3) _ _ upd_same
        have o12 : (upd (upd F3 q2 (.tup [.str (g.1 ++ Str.ofString "/z"), .str (Str.ofString "")])) o3 (.lst [.ref bj, .ref q1, .ref q2])) o3 = some (.lst [.ref bj, .ref q1, .ref q2]) := upd_same
        have neo3 : o3 ≠ r := (d3.row.ex (Ex.new hq2)).ne_new ho3
        have d4 := d3.ex e12
        generalize upd (upd F3 q2 (.tup [.str (g.1 ++ Str.ofString "/z"), .str (Str.ofString "")])) o3 (.lst [.ref bj, .ref q1, .ref q2]) = F4 at e12 h12 o12 d4 ⊢
        refine draw (m := 3) (ev_var rfl) ev_c d4.row (by decide) (by decide) fun n3 F5 hn30 hn33 d5' => ?_
        have d5 := d4.trans d5'
        obtain ⟨rl4, hrl4⟩ := d4.row.at
        have tup5 : ∀ {b : Addr} {l : List V}, F4 b = some (.tup l) → F5 b = some (.tup l) := fun hb => d5'.kp _ _ (ne_of hb hrl4 (by intro z; cases z)) hb
        have hn3 : n3.toNat < ([.ref bj, .ref q1, .ref q2] : List V).length := by show n3.toNat < 3; omega
        refine ⟨o3, _, n3, _, rfl, rfl, sq_of (d5'.kp _ _ neo3 o12), at_of (j := n3.toNat) (by omega) (List.getElem?_eq_getElem hn3), ?_⟩
        have fdup : follow f.1 (fs.take i) = false := follow_dup ok hi (by omega : j.toNat < i) hf
        have e24 : Ex F2 F4 := e11.trans e12
        have hbj5 := tup5 (e24 _ _ hbj)
        have hbg5 := tup5 (e24 _ _ hbg)
        have hp5' := tup5 (e24 _ _ hp10)
        refine s_when (b := decide (V.int ((Txt.split g.1 (Str.ofString "/")).length : Int) = V.int 3)) (et_test (ev_op (ev_is (ev_lenN (el_split (ev_op (ev_op (ev_var rfl) (ev_op (ev_var rfl) ev_c rv_I0) (rv_ixT (st_of hp5') hatg)) ev_c (rv_ixT (st_of hbg5) rfl)) ev_c (by decide) (Nat.le_trans gok.1.1 (by decide)))) (by rw [List.length_map])) ev_c (rv_eq rfl))) (fun hb6 F6 e6 => ?_) (fun hb6 F6 e6 => ?_)
        · exact ⟨_, rfl, .ref bj, some f, _, _, _, _, _, rfl, d5.ex e6, ⟨⟨bj, rfl, e6 _ _ hbj5⟩, fok⟩, by intro f' z; cases z; exact fdup⟩
        · have h3 : (Txt.split g.1 (Str.ofString "/")).length ≠ 3 := by
            intro z
            rw [z] at hb6
            simp at hb6
          have gg := ga.2.2.2.resolve_left h3
          obtain ⟨b1, oo, eb1, it1, fo1⟩ : ∃ b1 oo, ([.ref bj, .ref q1, .ref q2] : List V)[n3.toNat] = b1 ∧ Itm K F6 b1 oo ∧ (∀ f', oo = some f' → follow f'.1 (fs.take i) = false) := by
            have : n3.toNat = 0 ∨ n3.toNat = 1 ∨ n3.toNat = 2 := by omega
            rcases this with z | z | z
            · refine ⟨.ref bj, some f, by simp only [z]; rfl, ⟨⟨bj, rfl, e6 _ _ hbj5⟩, fok⟩, by intro f' z; cases z; exact fdup⟩
            · refine ⟨.ref q1, some (f.1, Str.ofString "other"), by simp only [z]; rfl, ⟨⟨q1, rfl, e6 _ _ (tup5 (e12 _ _ h11))⟩, ⟨fok.1.1, by show (Str.ofString "other").length ≤ 1000; decide, fok.1.2.2.1, by show PyData.strOk (Str.ofString "other") = true; decide +kernel⟩, ?_⟩, by intro f' z; cases z; exact fdup⟩
              have h1 : pathB f.1 = true := (Bool.and_eq_true_iff.mp fok.2).1
              show (pathB f.1 && textB (Str.ofString "other")) = true
              rw [h1]
              decide +kernel
            · refine ⟨.ref q2, some (g.1 ++ Str.ofString "/z", Str.ofString ""), by simp only [z]; rfl, ⟨⟨q2, rfl, e6 _ _ (tup5 h12)⟩, ⟨gg.2.2.2.2, by show (Str.ofString "").length ≤ 1000; decide, gg.2.2.2.1, by show PyData.strOk (Str.ofString "") = true; decide +kernel⟩, ?_⟩, fun f' z => ?_⟩
              · show (pathB (g.1 ++ Str.ofString "/z") && textB (Str.ofString "")) = true
                rw [gg.2.1]
                decide +kernel
              · cases z
                have q := follow_in (i := i - 1) hg gg.2.2.1
                have e1 : i - 1 + 1 = i := by omega
                rw [e1] at q
                exact q
          exact ⟨b1, oo, _, _, _, _, _, by rw [← eb1]; rfl, d5.ex e6, it1, fo1⟩
      · rintro σ' G ⟨b, oo, u2, u3, u5, u7, u8, rfl, d, it, hf⟩
        have hpG := d.kp _ _ hpr hp
        have val := ex_cat (K := K) (σ := [some (.ref r), some (.ref p), u2, u3, some (.int (i : Int)), u5, some b, u7, u8]) (H := G) (ex_cat (K := K) (ex_to (K := K) (ev_var (i := 1) rfl) (ev_var (i := 4) rfl) hpG (by omega)) (ex_tup (ea_cons (ev_var (i := 6) (v := b) rfl) ea_nil) (by show 1 ≤ 100000; decide)) (by rw [List.length_take]; show _ + 1 ≤ _; omega))
          (ex_from (K := K) (ev_var (i := 1) rfl) (ev_var (i := 4) rfl) hpG (by omega)) (by simp only [List.length_append, List.length_take, List.length_drop, List.length_cons, List.length_nil]; omega)
        refine val G (Ex.refl _) _ fun q G2 eq hq => ⟨_, rfl, by show 2 ≤ sizeLine; decide, fun l hl => ?_⟩
        have eAll : Ex G (upd G2 l (.lst [.ref q, .int (i : Int)])) := eq.trans (Ex.new hl)
        exact k l _ _ _ (d.ex eAll) upd_same (tr_spoilt ((Ex.new hl) _ _ hq) (files (d.ex eAll)) ok hi (it.mono eAll) hf) (.inr ⟨i, rfl⟩)
end
end Bt
namespace Bt
open PySem PySem.Spec PyProof.Rows L2 Bk Bm Evl Be Cr Bp Bl TL
section
variable {K : PySem.W.Frag} {H G : Hp} {r : Addr} {v : V}
theorem Kd.dr {n : String} (h : Kd K H v n) (row : Row K H r) (d : Dr K r H G) : Kd K G v n := by
  obtain ⟨rl, hr⟩ := row.at
  obtain ⟨rl', hr'⟩ := d.row.at
  obtain ⟨t, k⟩ := h
  refine ⟨?_, k⟩
  cases t with
  | base t =>
    refine .base ?_
    cases t with
    | non => exact .non
    | bl b => exact .bl b
    | int i => exact .int i
    | str x => exact .str x
    | flt x => exact .flt x
    | @lst a xs h =>
      by_cases c : a = r
      · subst c; exact .lst hr'
      · exact .lst (d.kp _ _ c h)
    | frz h => exact .frz (d.kp _ _ (ne_of h hr (by intro z; cases z)) h)
    | tup h => exact .tup (d.kp _ _ (ne_of h hr (by intro z; cases z)) h)
    | dK h => exact .dK (d.kp _ _ (ne_of h hr (by intro z; cases z)) h)
    | dT h => exact .dT (d.kp _ _ (ne_of h hr (by intro z; cases z)) h)
  | byt b => exact .byt b
  | set h => exact .set (d.kp _ _ (ne_of h hr (by intro z; cases z)) h)
  | kList h c => exact .kList h c
  | kTuple h c => exact .kTuple h c
  | kDict h c => exact .kDict h c
  | fTuple h => exact .fTuple (d.kp _ _ (ne_of h hr (by intro z; cases z)) h)
  | fDict h => exact .fDict (d.kp _ _ (ne_of h hr (by intro z; cases z)) h)
theorem Fil.dr {b : Bool} (h : Fil K H v b) (row : Row K H r) (d : Dr K r H G) : Fil K G v b := by
  obtain ⟨rl, hr⟩ := row.at
  cases h with
  | no k h => exact .no (Kd.dr k row d) h
  | len h hl hz => exact .len (d.kp _ _ (ne_of h hr (by intro z; cases z)) h) hl hz
  | two h hu hw => exact .two (d.kp _ _ (ne_of h hr (by intro z; cases z)) h) (Sm.dr hu row d) (Sm.dr hw row d)
theorem Itm.dr {o : Option Fl} (h : Itm K H v o) (row : Row K H r) (d : Dr K r H G) : Itm K G v o := by
  obtain ⟨rl, hr⟩ := row.at
  cases o with
  | some f => exact ⟨FileAt.kp h.1 hr d.kp, h.2⟩
  | none => exact Fil.dr h row d
theorem Tr.dr {o : Option V} (h : Tr K H v o) (row : Row K H r) (d : Dr K r H G) : Tr K G v o := by
  obtain ⟨rl, hr⟩ := row.at
  cases h with
  | no k h => exact .no (Kd.dr k row d) h
  | big h hl => exact .big (d.kp _ _ (ne_of h hr (by intro z; cases z)) h) hl
  | tup h hl hp => exact .tup (d.kp _ _ (ne_of h hr (by intro z; cases z)) h) hl (paired_mono hp fun _ _ z => Itm.dr z row d)
theorem good_tr {p : Addr} {xs : List V} {fs : List Fl} (hp : H p = some (.tup xs)) (pf : Paired (FileAt H) xs fs) (ok : TreeOk fs) : Tr K H (.ref p) none := by
  have hl := paired_len pf
  have h8 := tree_len ok
  have t := Tr.tup (K := K) hp (by omega) (itm_files pf fun f hf => tree_okF ok hf)
  rw [fb_tree ok] at t
  exact t
end
section
variable {P : Program} {w : World} {K : PySem.W.Frag} {mg : Str → Option Value} {base : Heap}
end
end Bt
/-! what records and looks ask at their beginning: no look yet -/
namespace Kr
open PySem PySem.Spec PyProof.Rows L2 Bk Bm Evl Be
theorem walk_w {J : It} {n : Nat} {Gd : Hp → Prop} {Y : Nat → Hp → V → Hp → Prop} (w : Walk J n Gd Y) {F0 : Hp} {Qd : Hp → Prop} {Step : (Hp → Prop) → V → Hp → Prop} (Pv : Nat → Hp → Prop) (h0 : Pv 0 F0) (hG : ∀ i F, i ≤ n → Pv i F → Gd F)
    (hs : ∀ i x F F', i < n → Pv i F → Y i F x F' → Step (Pv (i + 1)) x F') (hd : ∀ F, Pv n F → Qd F) :
    ∃ Wk : Nat → Nat → Hp → Prop, (∃ m, Wk 0 m F0) ∧ ∀ i m F, Wk i m F → (J.stop i F ∧ Qd F) ∨ (J.go i F ∧ ∃ Nx : Hp → Prop, (∀ F', Nx F' → ∃ m', m' < m ∧ Wk (i + 1) m' F') ∧ ∀ x F', J.yld i F x F' → Step Nx x F') := by
  refine ⟨fun i m F => m + i = n ∧ Pv i F, ⟨n, Nat.add_zero n, h0⟩, fun i m F ⟨hm, p⟩ => ?_⟩
  have q := hG i F (by omega) p
  cases m with
  | zero =>
    have e : i = n := by omega
    subst e
    exact .inl ⟨w.stops F q, hd F p⟩
  | succ m => exact .inr ⟨w.goes i F (by omega) q, Pv (i + 1), fun F' p' => ⟨m, Nat.lt_succ_self m, by omega, p'⟩, fun x F' y => hs i x F F' (by omega) p (w.yields i F x F' (by omega) q y)⟩
end Kr
namespace Bt
open PySem PySem.Spec PyProof.Rows L2 Bk Bm Evl Be Cr Kr Bp Bl TL
abbrev sNext : Stmt := top 43
abbrev sStopped : Stmt := top 44
abbrev sPlaces : Stmt := top 45
abbrev sIsRec : Stmt := top 62
abbrev sIsLook : Stmt := top 63
abbrev sCkRule : Stmt := top 65
abbrev sCkRec : Stmt := top 66
abbrev zS : Str := Str.ofString "z"
/-- an expression, a test that is never come to -/
def tNo : TE := fun _ _ _ => False
def tNoT : TT := fun _ _ _ => False
theorem pe_no {X : Cx} {e : Expr} : PE X e tNo := ⟨fun _ _ _ _ _ _ h => h.elim⟩
theorem pt_no {X : Cx} {e : Expr} : PT X e tNoT := ⟨fun _ _ _ _ _ _ h => h.elim⟩
/-- a rule, as far as its first look is told -/
def NR (H : Hp) (a : Addr) : Prop := ∃ m k ts, H a = some (.tup (.str m :: .str k :: ts)) ∧ ((k = Str.ofString "join" ∧ ∃ (b : Addr) (ys : List Str), ts = [.ref b] ∧ H b = some (.tup (ys.map V.str)) ∧ ys.length ≤ 100 ∧ ∀ y ∈ ys, y ≠ zS) ∨ (k ≠ Str.ofString "join" ∧ ∃ y r, ts = .str y :: r ∧ y ≠ zS))
theorem NR.mono {H G : Hp} {a : Addr} (e : Ex H G) (h : NR H a) : NR G a := by
  obtain ⟨m, k, ts, h1, h2⟩ := h
  refine ⟨m, k, ts, e _ _ h1, ?_⟩
  rcases h2 with ⟨h3, b, ys, h4, h5, h6⟩ | h2
  · exact .inl ⟨h3, b, ys, h4, e _ _ h5, h6⟩
  · exact .inr h2
/-- a place -/
def Pc (H : Hp) (x : V) : Prop := ∃ p w wh, x = .ref p ∧ H p = some (.tup [.str w, .str wh]) ∧ wh ≠ zS
theorem Pc.mono {H G : Hp} {x : V} (e : Ex H G) (h : Pc H x) : Pc G x := by
  obtain ⟨p, w, wh, h1, h2, h3⟩ := h
  exact ⟨p, w, wh, h1, e _ _ h2, h3⟩
section
variable {P : Program} {w : World} {K : PySem.W.Frag} {mg : Str → Option Value} {base : Heap}
theorem scStopped : FnScope ["looks"] ["looks"] (defScope sStopped) := ⟨rfl, rfl, rfl, by decide +kernel, rfl, by decide +kernel, by decide +kernel⟩
def spStopped : Sp := fun vs H Q _ => ∃ l, vs = [.ref l] ∧ H l = some (.tup []) ∧ RetV (.bl false) H Q
theorem ok_stopped {f : Addr} {fd : FuncData} (F : Fun K "is_stopped" "is_stopped" sStopped f fd) (T : Gv mg) : FnOk P w K mg base CX0 1 f fd ["looks"] spStopped := by
  refine F.ok scStopped (fun vs H Q E h => ?_) (fun cdv A outer s H vs Q E hr h => ?_)
  · obtain ⟨l, rfl, _⟩ := h
    rfl
  · obtain ⟨l, rfl, hl, k⟩ := h
    refine ⟨_, pss_one (ps_ret (pe_and (pe_cmpR op_gt (pe_callB call_len_seq (by rfl) T.len PySem.boot_len (pa_cons (pv 0) pa_nil)) pe_int (nomark _)) (pe_one pe_no))), ?_⟩
    refine s_ret (v := .bl false) ?_ k
    exact ev_is (ev_and (a := false) (b := false) (ev_is (ev_op (ev_lenT (ev_var rfl) (st_of hl)) ev_c rv_I0) rfl) (fun h => by cases h)) rfl
abbrev nPl : List Str := ["rule", "looks", "kind", "paths", "path"]
theorem scPlaces : FnScope nPl ["rule", "looks"] (defScope sPlaces) := ⟨rfl, rfl, rfl, by decide +kernel, rfl, by decide +kernel, by decide +kernel⟩
def spPlaces : Sp := fun vs H Q _ => ∃ a l, vs = [.ref a, .ref l] ∧ NR H a ∧ H l = some (.tup []) ∧ ∀ q xs H', Ex H H' → H' q = some (.lst xs) → xs.length ≤ 100 → (∀ x ∈ xs, Pc H' x) → Q (.ref q) H'
theorem ok_places {f : Addr} {fd : FuncData} (F : Fun K "places_known" "places_known" sPlaces f fd) (T : Gv mg) : FnOk P w K mg base CX0 1 f fd ["rule", "looks"] (spPlaces) := by
  refine F.ok scPlaces (fun vs H Q E h => ?_) (fun cdv A outer s H vs Q E hr h => ?_)
  · obtain ⟨a, l, rfl, _⟩ := h
    rfl
  · obtain ⟨a, l, rfl, nr, hl, k⟩ := h
    refine ⟨_, pss_cons (ps_set (i := 2) scPlaces.nd rfl (Or.inl rfl) (pe_ix (r := rIxT K) ix_tup (pv 0) pe_int (fun _ _ => rfl)))
      (pss_cons (ps_if (pt_cmpR op_eq (pv 2) pe_str (nomark _)) (pss_one (ps_ret (pe_lst (pa_cons (pe_tup (pa_cons pe_str (pa_cons (pe_ix (r := rIxT K) ix_tup (pv 0) pe_int (fun _ _ => rfl)) pa_nil))) pa_nil)))) pss_nil)
      (pss_cons (ps_set (i := 3) scPlaces.nd rfl (Or.inl rfl) (pe_ifExp (pt_cmpR op_eq (pv 2) pe_str (nomark _)) (pe_callTy call_list_of (by rfl) T.lst (by decide +kernel) (pa_cons (pe_ix (r := rIxT K) ix_tup (pv 0) pe_int (fun _ _ => rfl)) pa_nil)) (pe_lst (pa_cons (pe_ix (r := rIxT K) ix_tup (pv 0) pe_int (fun _ _ => rfl)) pa_nil))))
      (pss_cons (ps_if (pw_and (pt_truth (pv 1) (by intro _; rfl)) (pw_and1 pt_no)).pt pss_never pss_nil)
      (pss_cons (ps_if (pw_and (pt_truth (pv 1) (by intro _; rfl)) (pw_and1 pt_no)).pt pss_never pss_nil)
      (pss_one (ps_ret (pe_lc (own := [("path", 4)]) (g := gName 4) (tt := tYes) rfl scPlaces.nd (pi_list (pv 3)) (blkOk_by (N := nPl) (sc := defScope sPlaces) (by decide +kernel))
        (fun _ _ _ _ _ => pg_name (i := 4) scPlaces.nd rfl (Or.inl rfl)) (fun _ _ _ _ _ => pts_nil) (fun _ _ _ _ _ => pe_tup (pa_cons pe_str (pa_cons (pv 4) pa_nil)))))))))), ?_⟩
    obtain ⟨m, kd, ts, ha, hk⟩ := nr
    -- the end, over a list of paths
    have fin : ∀ (p : Addr) (ys : List Str) (G : Hp), Ex H G → G p = some (.lst (ys.map V.str)) → ys.length ≤ 100 → (∀ y ∈ ys, y ≠ zS) →
        tSeq (tIfS (tAnd (fun σ H Q => tVar 1 σ H fun x H' => ∃ k, TruV K x H' k ∧ Q k H') tNoT) tNever tNext) (tSeq (tIfS (tAnd (fun σ H Q => tVar 1 σ H fun x H' => ∃ k, TruV K x H' k ∧ Q k H') tNoT) tNever tNext)
          (tRet (tLc (iList K (tVar 3)) (gName 4) tYes (tTup (tCons (tC (.str (Str.ofString "path"))) (tCons (tVar 4) tNil))) [4]))) { nx := fun _ H' => Q .non H', rt := Q } ([some (.ref a), some (.ref l), some (.str kd), some (.ref p), none] : L2.St) G := by
      intro p ys G eG hp hn hz
      have hlG := eG _ _ hl
      have skip : ∀ (De : Ends) (σ : L2.St), σ[1]? = some (some (.ref l)) → De.nx σ G → tIfS (tAnd (fun σ H Q => tVar 1 σ H fun x H' => ∃ k, TruV K x H' k ∧ Q k H') tNoT) tNever tNext De σ G := by
        intro De σ s1 h
        refine ⟨_, s1, false, .inr (.inl ⟨[], st_of hlG, rfl⟩), ?_⟩
        dsimp only
        rw [if_neg (by decide), if_neg (by decide)]
        exact h
      refine skip _ _ rfl (skip _ _ rfl ?_)
      refine ⟨_, rfl, p, rfl, ⟨ys.map V.str, sq_of hp⟩, fun D hD => walk_w (walk_list (K := K) (a := p) (xs := ys.map V.str)) (fun i F => Ex G F ∧ ∃ zs, F D = some (.lst zs) ∧ zs.length = i ∧ ∀ x ∈ zs, Pc F x)
        ⟨Ex.new hD, [], upd_same, rfl, fun _ z => by cases z⟩ (fun i F _ q => sq_of (q.1 _ _ hp)) (fun i x F F' hi q y => ?_) (fun F q => ?_)⟩
      · obtain ⟨eF, zs, hFD, hzl, hzp⟩ := q
        obtain ⟨rfl, hx⟩ := y
        obtain ⟨y, hy, rfl⟩ : ∃ y, ys[i]? = some y ∧ x = V.str y := by
          rw [List.getElem?_map] at hx
          cases e : ys[i]? with
          | none => rw [e] at hx; cases hx
          | some m => rw [e] at hx; exact ⟨m, rfl, (Option.some.inj hx).symm⟩
        refine ⟨rfl, ?_⟩
        unfold tYes
        dsimp only
        rw [if_pos rfl]
        refine ⟨_, rfl, by show 2 ≤ sizeLine; decide, fun q hq => ?_⟩
        have eq1 := Ex.new (o := .tup [V.str (Str.ofString "path"), V.str y]) hq
        have hD2 := eq1 _ _ hFD
        refine ⟨zs, hD2, sz_lt (by rw [List.length_map] at hi; omega), (eF.trans eq1).mut hD, zs ++ [.ref q], upd_same, by rw [List.length_append, hzl]; rfl, fun x hx => ?_⟩
        have up : ∀ {x : V}, Pc (upd F' q (.tup [V.str (Str.ofString "path"), V.str y])) x → Pc (upd (upd F' q (.tup [V.str (Str.ofString "path"), V.str y])) D (.lst (zs ++ [.ref q]))) x := by
          intro x h
          obtain ⟨p, w, wh, h1, h2, h3⟩ := h
          exact ⟨p, w, wh, h1, by rw [upd_ne (ne_of h2 hD2 (by intro z; cases z))]; exact h2, h3⟩
        rcases List.mem_append.mp hx with hx | hx
        · exact up ((hzp x hx).mono eq1)
        · have := List.mem_singleton.mp hx
          subst this
          exact up ⟨q, _, _, rfl, upd_same, hz y (List.mem_of_getElem? hy)⟩
      · obtain ⟨eF, zs, hFD, hzl, hzp⟩ := q
        exact k D zs F (eG.trans eF) hFD (by rw [hzl, List.length_map]; exact hn) hzp
    refine q_asg (v := .str kd) (ev_op (ev_var (i := 0) rfl) ev_c (rv_ixT (st_of ha) (atI_nat (j := 1) rfl))) fun H1 e1 => ?_
    show tSeq _ _ _ ([some (.ref a), some (.ref l), some (.str kd), none, none] : L2.St) H1
    have ha1 := e1 _ _ ha
    refine q_when (b := decide (kd = Str.ofString "names")) (et_test (ev_is (ev_op (ev_var rfl) ev_c (rv_eq rfl)) (by simp))) (fun hb H2 e2 => ?_) (fun hb H2 e2 => ?_)
    · have hkn : kd = Str.ofString "names" := by simpa using hb
      rcases hk with ⟨rfl, _⟩ | ⟨_, y, r, rfl, hy⟩
      · exact absurd hkn (by decide +kernel)
      · refine ev_op (z := .str y) (ev_var (i := 0) rfl) ev_c (rv_ixT (st_of (e2 _ _ ha1)) (atI_nat (j := 2) rfl)) H2 (Ex.refl _) _ fun H3 e3 => ⟨by show 2 ≤ sizeLine; decide, fun q hq => ⟨by show 1 ≤ sizeLine; decide, fun d hd => ?_⟩⟩
        exact k d _ _ ((e1.trans e2).trans (e3.trans ((Ex.new hq).trans (Ex.new hd)))) upd_same (by show 1 ≤ 100; decide) fun x hx => by
          have := List.mem_singleton.mp hx
          subst this
          exact ⟨q, _, _, rfl, Ex.new hd _ _ upd_same, hy⟩
    · have e12 := e1.trans e2
      rcases hk with ⟨rfl, b, ys, rfl, hb2, hn, hz⟩ | ⟨hkj, y, r, rfl, hy⟩
      · refine q_raw ?_
        refine et_test (b := true) (ev_is (ev_op (ev_var rfl) ev_c (rv_eq rfl)) (by simp)) H2 (Ex.refl _) _ fun H2' e2' => ?_
        dsimp only
        rw [if_pos rfl]
        replace e2 := e2.trans e2'
        replace e12 := e1.trans e2
        refine ev_op (z := .ref b) (ev_var (i := 0) rfl) ev_c (rv_ixT (st_of (e2 _ _ ha1)) (atI_nat (j := 2) rfl)) H2' (Ex.refl _) _ fun H3 e3 => ⟨b, ys.map V.str, rfl, .inr (st_of ((e12.trans e3) _ _ hb2)), fun p hp => ?_⟩
        exact fin p ys _ (e12.trans (e3.trans (Ex.new hp))) upd_same hn hz
      · refine q_raw ?_
        refine et_test (b := false) (ev_is (ev_op (ev_var rfl) ev_c (rv_eq rfl)) (by simp [hkj])) H2 (Ex.refl _) _ fun H2' e2' => ?_
        dsimp only
        rw [if_neg (by decide)]
        replace e2 := e2.trans e2'
        replace e12 := e1.trans e2
        refine ev_op (z := .str y) (ev_var (i := 0) rfl) ev_c (rv_ixT (st_of (e2 _ _ ha1)) (atI_nat (j := 2) rfl)) H2' (Ex.refl _) _ fun H3 e3 => ⟨by show 1 ≤ sizeLine; decide, fun p hp => ?_⟩
        exact fin p [y] _ (e12.trans (e3.trans (Ex.new hp))) upd_same (by show 1 ≤ 100; decide) (fun z hz => by
          have := List.mem_singleton.mp hz
          subst this
          exact hy)
end
end Bt
namespace Bt
open PySem PySem.Spec PyProof.Rows L2 Bk Bm Evl Be Cr Kr Bp Bl TL
section
variable {P : Program} {w : World} {K : PySem.W.Frag} {mg : Str → Option Value} {base : Heap}
/-! ### next_place -/
theorem scNext : FnScope ["rule", "looks", "places"] ["rule", "looks"] (defScope sNext) := ⟨rfl, rfl, rfl, by decide +kernel, rfl, by decide +kernel, by decide +kernel⟩
def spNext : Sp := fun vs H Q _ => ∃ a l, vs = [.ref a, .ref l] ∧ NR H a ∧ H l = some (.tup []) ∧ (∀ H', Ex H H' → Q .non H') ∧ ∀ x H', Ex H H' → Pc H' x → Q x H'
theorem ok_next {f : Addr} {fd : FuncData} (F : Fun K "next_place" "next_place" sNext f fd) (T : Gv mg) (cS : Cal P w K mg base CX0 1 "is_stopped" ["looks"] spStopped) (cP : Cal P w K mg base CX0 1 "places_known" ["rule", "looks"] spPlaces) :
    FnOk P w K mg base CX0 2 f fd ["rule", "looks"] spNext := by
  refine F.ok scNext (fun vs H Q E h => ?_) (fun cdv A outer s H vs Q E hr h => ?_)
  · obtain ⟨a, l, rfl, _⟩ := h
    rfl
  · obtain ⟨a, l, rfl, nr, hl, k1, k2⟩ := h
    refine ⟨_, pss_cons (ps_if (pt_val (pe_call cS.F hr (by rfl) cS.g cS.kp cS.b .nil pass0 (pa_cons (pv 1) pa_nil))) pss_never pss_nil)
      (pss_cons (ps_set (i := 2) scNext.nd rfl (Or.inl rfl) (pe_call cP.F hr (by rfl) cP.g cP.kp cP.b .nil pass0 (pa_cons (pv 0) (pa_cons (pv 1) pa_nil))))
      (pss_one (ps_ret (pe_ifExp (pt_cmpR op_lt (pe_callB call_len_seq (by rfl) T.len PySem.boot_len (pa_cons (pv 1) pa_nil)) (pe_callB call_len_seq (by rfl) T.len PySem.boot_len (pa_cons (pv 2) pa_nil)) (nomark _))
        (pe_ix (r := rIxL K) ix_list (pv 2) (pe_callB call_len_seq (by rfl) T.len PySem.boot_len (pa_cons (pv 1) pa_nil)) (fun _ _ => rfl)) pe_non)))), ?_⟩
    refine q_when (b := false) (et_B (ev_call (ea_cons (ev_var rfl) ea_nil) fun H1 e1 Q' q' E' => ⟨l, rfl, e1 _ _ hl, q'⟩)) (fun z => by cases z) (fun _ H1 e1 => ?_)
    refine q_raw ?_
    refine ⟨_, rfl, _, rfl, a, l, rfl, nr.mono e1, e1 _ _ hl, fun q xs H2 e2 hq hn hp => ?_⟩
    show tRet _ _ ([some (.ref a), some (.ref l), some (.ref q)] : L2.St) H2
    have e12 := e1.trans e2
    have hl2 := e12 _ _ hl
    have len1 : ∀ G, Ex H2 G → Ev (tCB (rLenS K) (tCons (tVar 1) tNil)) ([some (.ref a), some (.ref l), some (.ref q)] : L2.St) G (.int ((0 : Nat) : Int)) := fun G e => ev_is (ev_lenT (ev_var rfl) (st_of (e _ _ hl2))) rfl
    cases xs with
    | nil =>
      refine et_test (b := false) (ev_is (ev_op (len1 _ (Ex.refl _)) (ev_len (ev_var rfl) (sq_of hq)) rv_I0) rfl) H2 (Ex.refl _) _ fun H3 e3 => ?_
      dsimp only
      rw [if_neg (by decide)]
      exact k1 _ (e12.trans e3)
    | cons x r =>
      refine et_test (b := true) (ev_is (ev_op (len1 _ (Ex.refl _)) (ev_len (ev_var rfl) (sq_of hq)) rv_I0) (by simp)) H2 (Ex.refl _) _ fun H3 e3 => ?_
      dsimp only
      rw [if_pos rfl]
      refine ev_op (z := x) (ev_var (i := 2) rfl) (len1 _ e3) (rv_ixL (sq_of (e3 _ _ hq)) (atI_nat (j := 0) rfl)) H3 (Ex.refl _) _ fun H4 e4 => ?_
      exact k2 x H4 ((e12.trans e3).trans e4) ((hp x List.mem_cons_self).mono (e3.trans e4))
/-! ### is_look_at -/
/-- a value that no record begins with -/
def NL (H : Hp) (v : V) : Prop := v = .non ∨ ∃ c, v = .ref c ∧ H c = some (.tup [.str (Str.ofString "missing"), .str zS])
theorem NL.mono {H G : Hp} {v : V} (e : Ex H G) (h : NL H v) : NL G v := by
  rcases h with h | ⟨c, h1, h2⟩
  · exact .inl h
  · exact .inr ⟨c, h1, e _ _ h2⟩
theorem scIsLook : FnScope ["place", "value", "word", "where"] ["place", "value"] (defScope sIsLook) := ⟨rfl, rfl, rfl, by decide +kernel, rfl, by decide +kernel, by decide +kernel⟩
def spIsLook : Sp := fun vs H Q _ => ∃ x v, vs = [x, v] ∧ Pc H x ∧ NL H v ∧ RetV (.bl false) H Q
theorem ok_isLook {f : Addr} {fd : FuncData} (F : Fun K "is_look_at" "is_look_at" sIsLook f fd) (T : Gv mg) : FnOk P w K mg base CX0 1 f fd ["place", "value"] spIsLook := by
  refine F.ok scIsLook (fun vs H Q E h => ?_) (fun cdv A outer s H vs Q E hr h => ?_)
  · obtain ⟨x, v, rfl, _⟩ := h
    rfl
  · obtain ⟨x, v, rfl, pc, nl, k⟩ := h
    obtain ⟨p, wd, wh, rfl, hp, hz⟩ := pc
    refine ⟨_, pss_cons (ps_asg (pv 0) (pg_tup rfl (pgs_cons (pg_name (i := 2) scIsLook.nd rfl (Or.inl rfl)) (pgs_cons (pg_name (i := 3) scIsLook.nd rfl (Or.inl rfl)) pgs_nil))))
      (pss_cons (ps_if (pw_or (pt_not (pt_val (pe_callB call_isi (by rfl) T.isi boot_isinstance (pa_cons (pv 1) (pa_cons (pe_bltn (v := .ty "tuple") (by rfl) T.tup (by decide +kernel) rfl) pa_nil)))))
        (pw_or (pt_cmpR op_lt (pe_callB call_len_seq (by rfl) T.len PySem.boot_len (pa_cons (pv 1) pa_nil)) pe_int (nomark _)) (pw_or1 (pt_cmpR op_ne (pe_ix (r := rIxT K) ix_tup (pv 1) pe_int (fun _ _ => rfl)) (pv 3) (nomark _))))).pt (pss_one (ps_ret pe_bl)) pss_nil) pss_never), ?_⟩
    refine ⟨_, rfl, p, _, rfl, SqT.of hp, rfl, _, _, rfl, _, _, rfl, rfl, ?_⟩
    dsimp only
    show tSeq (tIfS _ _ _) _ _ ([some (.ref p), some v, some (.str wd), some (.str wh)] : L2.St) H
    refine q_when (b := true) ?_ (fun _ H1 e1 => ?_) (fun z => by cases z)
    · rcases nl with rfl | ⟨c, rfl, hc⟩
      · exact et_is (et_or (b := true) (et_not (et_B (ev_isi (ev_var rfl) ev_c kd_non (.inr rfl)))) fun hb => (by simp at hb)) rfl
      · refine et_is (et_or (b := true) (et_not (et_B (ev_isi (ev_var rfl) ev_c (kd_tup hc) (.inr rfl)))) fun hb => ?_) (by simp)
        refine et_is (et_or (a := false) (b := true) (et_is (et_test (ev_op (ev_lenT (ev_var rfl) (st_of hc)) ev_c rv_I0)) (by simp)) fun hb => ?_) rfl
        refine et_test (ev_is (ev_op (ev_op (z := .str zS) (ev_var rfl) ev_c (rv_ixT (st_of hc) rfl)) (ev_var (i := 3) rfl) (rv_ne rfl)) ?_)
        simp [hz.symm]
    · exact k H1 e1
end
end Bt
namespace Bt
open PySem PySem.Spec PyProof.Rows L2 Bk Bm Evl Be Cr Kr Bp Bl TL
/-- a value that is no record -/
inductive Rv (K : PySem.W.Frag) (H : Hp) : V → Prop
  | k {v : V} {n : String} (h : Kd K H v n) (hn : n ≠ "tuple") : Rv K H v
  | t {a : Addr} {x : V} (h : H a = some (.tup [x])) (hx : NL H x) : Rv K H (.ref a)
theorem Rv.mono {K : PySem.W.Frag} {H G : Hp} {v : V} (e : Ex H G) (h : Rv K H v) : Rv K G v := by
  cases h with
  | k h hn => exact .k (h.mono e) hn
  | t h hx => exact .t (e _ _ h) (hx.mono e)
section
variable {K : PySem.W.Frag} {H G : Hp} {r : Addr} {v : V}
theorem slice_toU {σ : L2.St} {te ti : TE} {a : Addr} {xs : List V} {i : Nat} (h : Ev te σ H (.ref a)) (hi : Ev ti σ H (.int (i : Int))) (hx : H a = some (.tup xs)) (hl : i ≤ xs.length) :
    ∀ H1, Ex H H1 → ∀ Q : VK, (∀ p H2, Ex H1 H2 → H2 p = some (.tup (xs.take i)) → Q (.ref p) H2) → tSl (rSlA K) te tNoPart (tPart ti) σ H1 Q := fun H1 e Q q =>
  h H1 e _ fun H2 e2 => hi H2 (e.trans e2) _ fun H3 e3 => ⟨(i : Int), rfl, a, xs, rfl, st_of (((e.trans e2).trans e3) _ _ hx), by
    have c1 : HT.sIx xs.length 0 none = 0 := HT.sIx_none _ _
    have c2 : HT.sIx xs.length xs.length (some (i : Int)) = i := by rw [HT.sIx_nat]; omega
    rw [cut_to hl, c1, c2]
    refine ⟨fun z => ?_, fun z p hp => q p _ ((e2.trans e3).trans (Ex.new hp)) upd_same⟩
    have z2 : xs.take i = xs := by rw [z.2]; exact List.take_length
    refine q a H3 (e2.trans e3) ?_
    rw [z2]
    exact ((e.trans e2).trans e3) _ _ hx⟩
theorem slice_fromU {σ : L2.St} {te ti : TE} {a : Addr} {xs : List V} {i : Nat} (h : Ev te σ H (.ref a)) (hi : Ev ti σ H (.int (i : Int))) (hx : H a = some (.tup xs)) (hl : i ≤ xs.length) :
    ∀ H1, Ex H H1 → ∀ Q : VK, (∀ p H2, Ex H1 H2 → H2 p = some (.tup (xs.drop i)) → Q (.ref p) H2) → tSl (rSlA K) te (tPart ti) tNoPart σ H1 Q := fun H1 e Q q =>
  h H1 e _ fun H2 e2 => hi H2 (e.trans e2) _ fun H3 e3 => ⟨(i : Int), rfl, a, xs, rfl, st_of (((e.trans e2).trans e3) _ _ hx), by
    have c1 : HT.sIx xs.length 0 (some (i : Int)) = i := by rw [HT.sIx_nat]; omega
    have c2 : HT.sIx xs.length xs.length none = xs.length := HT.sIx_none _ _
    have c3 : cutV xs (some (i : Int)) none = xs.drop i := by
      unfold cutV
      rw [c1, c2]
      exact List.take_of_length_le (by rw [List.length_drop]; omega)
    rw [c1, c2]
    refine ⟨fun z => ?_, fun z p hp => q p _ ((e2.trans e3).trans (Ex.new hp)) (by rw [c3]; exact upd_same)⟩
    have z2 : xs.drop i = xs := by rw [z.1]; rfl
    refine q a H3 (e2.trans e3) ?_
    rw [z2]
    exact ((e.trans e2).trans e3) _ _ hx⟩
theorem catU_go {a b : Addr} {xs ys : List V} {Q : VK} (ha : G a = some (.tup xs)) (hb : G b = some (.tup ys)) (hz : xs.length + ys.length ≤ 100000) (k : ∀ p G', Ex G G' → G' p = some (.tup (xs ++ ys)) → Q (.ref p) G') : rCatA K (.ref a) (.ref b) G Q := by
  refine ⟨a, b, xs, ys, rfl, rfl, st_of ha, st_of hb, sz_of hz, fun z => k b G (Ex.refl _) (by rw [z]; exact hb), fun _ z => k a G (Ex.refl _) (by rw [z, List.append_nil]; exact ha), fun _ _ p hp => k p _ (Ex.new hp) upd_same⟩
end
section
variable {P : Program} {w : World} {K : PySem.W.Frag} {mg : Str → Option Value} {base : Heap}
theorem rv_isN {x : V} {H : Hp} : RV (fun x y H Q => y = V.non ∧ Q (.bl (decide (x = V.non))) H) x .non H (.bl (decide (x = V.non))) := fun H1 _ Q q => ⟨rfl, q H1 (Ex.refl _)⟩
abbrev nIsRec : List Str := ["rule", "value", "at", "look", "place"]
theorem scIsRec : FnScope nIsRec ["rule", "value"] (defScope sIsRec) := ⟨rfl, rfl, rfl, by decide +kernel, rfl, by decide +kernel, by decide +kernel⟩
def spIsRec (K : PySem.W.Frag) : Sp := fun vs H Q _ => ∃ a v, vs = [.ref a, v] ∧ NR H a ∧ Rv K H v ∧ RetV (.bl false) H Q
theorem ok_isRec {f : Addr} {fd : FuncData} (F : Fun K "is_record" "is_record" sIsRec f fd) (T : Gv mg) (cN : Cal P w K mg base CX0 2 "next_place" ["rule", "looks"] spNext) (cL : Cal P w K mg base CX0 1 "is_look_at" ["place", "value"] spIsLook) :
    FnOk P w K mg base CX0 3 f fd ["rule", "value"] (spIsRec K) := by
  refine F.ok scIsRec (fun vs H Q E h => ?_) (fun cdv A outer s H vs Q E hr h => ?_)
  · obtain ⟨a, v, rfl, _⟩ := h
    rfl
  · obtain ⟨a, v, rfl, nr, rv, k⟩ := h
    have hr1 : Room 1 _ := hr.mono (by decide)
    refine ⟨_, pss_cons (ps_if (pt_not (pt_val (pe_callB call_isi (by rfl) T.isi boot_isinstance (pa_cons (pv 1) (pa_cons (pe_bltn (v := .ty "tuple") (by rfl) T.tup (by decide +kernel) rfl) pa_nil))))) (pss_one (ps_ret pe_bl)) pss_nil)
      (pss_cons (ps_for PassesOwn.never rfl (pi_enumT (by rfl) T.enu (pa_cons (pv 1) pa_nil)) (pg_tup rfl (pgs_cons (pg_name (i := 2) scIsRec.nd rfl (Or.inl rfl)) (pgs_cons (pg_name (i := 3) scIsRec.nd rfl (Or.inl rfl)) pgs_nil)))
        (pss_cons (ps_set (i := 4) scIsRec.nd rfl (Or.inl rfl) (pe_call cN.F hr (by rfl) cN.g cN.kp cN.b .nil pass0 (pa_cons (pv 0) (pa_cons (pe_slice sl_tupA (pv 1) po_none (po_some (pv 2))) pa_nil))))
        (pss_one (ps_if (pw_or (pt_cmpR op_isN (pv 4) pe_non (nomark _)) (pw_or1 (pt_not (pt_val (pe_call cL.F hr1 (by rfl) cL.g cL.kp cL.b .nil pass0 (pa_cons (pv 4) (pa_cons (pv 3) pa_nil))))))).pt (pss_one (ps_ret pe_bl)) pss_nil)))) pss_never), ?_⟩
    cases rv with
    | @k v n h hn =>
      have e : decide (n = "tuple") = false := decide_eq_false hn
      refine q_when (b := true) (et_is (et_not (et_B (ev_isi (ev_var rfl) ev_c h (.inr rfl)))) (by rw [e]; rfl)) (fun _ H1 e1 => ?_) (fun z => by cases z)
      exact k H1 e1
    | @t b x h hx =>
      refine q_when (b := false) (et_is (et_not (et_B (ev_isi (ev_var rfl) ev_c (kd_tup h) (.inr rfl)))) (by simp)) (fun z => by cases z) (fun _ H1 e1 => ?_)
      have hb1 := e1 _ _ h
      refine ⟨_, rfl, b, [x], rfl, st_of hb1, for_enumT (K := K) (a := b) (xs := [x]) (fun i τ G => i = 0 ∧ τ = [some (.ref a), some (.ref b), none, none, none] ∧ Ex H1 G)
        ⟨rfl, rfl, Ex.refl _⟩ (fun i τ G _ q => st_of (q.2.2 _ _ hb1)) ?_ (fun τ G q => by have := q.1; simp at this)⟩
      rintro i y τ G T0 hi ⟨rfl, rfl, eG⟩ hT
      have hy : y = x := (Option.some.inj hi).symm
      subst hy
      have eT := Ex.new (o := .tup [.int ((0 : Nat) : Int), y]) hT
      refine ⟨T0, _, rfl, SqT.of upd_same, rfl, _, _, rfl, _, _, rfl, rfl, ?_⟩
      dsimp only
      show tSeq (tAsg _ _) _ _ ([some (.ref a), some (.ref b), some (.int ((0 : Nat) : Int)), some y, none] : L2.St) _
      have e2 := (e1.trans eG).trans eT
      have hb2 := e2 _ _ h
      refine q_raw ?_
      refine ⟨_, rfl, slice_toU (i := 0) (ev_var (i := 1) rfl) (ev_var (i := 2) rfl) hb2 (Nat.zero_le _) _ (Ex.refl _) _ fun p H5 e5 hp5 => ?_⟩
      have e25 := e2.trans e5
      refine ⟨a, p, rfl, nr.mono e25, hp5, fun H6 e6 => ?_, fun z H6 e6 pc => ?_⟩
      · show tIfS _ _ tNext _ ([some (.ref a), some (.ref b), some (.int ((0 : Nat) : Int)), some y, some .non] : L2.St) H6
        refine s_when (b := true) (et_is (et_or (a := true) (b := true) (et_test (ev_is (ev_op (ev_var (i := 4) rfl) ev_c rv_isN) (by simp))) fun hb => (by cases hb)) rfl) (fun _ H7 e7 => ?_) (fun z => by cases z)
        exact k H7 ((e25.trans e6).trans e7)
      · show tIfS _ _ tNext _ ([some (.ref a), some (.ref b), some (.int ((0 : Nat) : Int)), some y, some z] : L2.St) H6
        obtain ⟨q, wd, wh, rfl, hq, hz⟩ := id pc
        refine s_when (b := true) (et_is (et_or (a := false) (b := true) (et_test (b := false) (ev_is (ev_op (ev_var (i := 4) rfl) ev_c rv_isN) (by simp))) fun hb => ?_) rfl) (fun _ H7 e7 => ?_) (fun z => by cases z)
        · exact et_is (et_not (et_B (ev_call (ea_cons (ev_var rfl) (ea_cons (ev_var rfl) ea_nil)) fun H7 e7 Q' q' E' => ⟨_, y, rfl, pc.mono e7, hx.mono ((e25.trans e6).trans e7), q'⟩))) rfl
        · exact k H7 ((e25.trans e6).trans e7)
end
end Bt
namespace Bt
open PySem PySem.Spec PyProof.Rows L2 Bk Bm Evl Be Cr Kr Bp Bl TL
abbrev sFirst : Stmt := top 57
abbrev sReplays : Stmt := top 58
abbrev sBlunt : Stmt := top 59
abbrev sLooks : Stmt := top 60
section
variable {P : Program} {w : World} {K : PySem.W.Frag} {mg : Str → Option Value} {base : Heap} {C fI pR fG fL fE Cb Cr Cx Ct : Addr}
/-! ### check_book -/
theorem kit_own {n : String} (h1 : PySem.W.isClsIn K C = true) (h2 : PySem.W.typeIn K (.ref C) = some (.type "type")) (hn : n ∈ (["NoneType", "bool", "int", "str", "list", "tuple", "dict"] : List String)) : PySem.W.kitOne K (.type n) (.ref C) = some false := by
  unfold PySem.W.kitOne
  rw [if_neg (by intro z; cases z)]
  have e : ((PySem.W.clsIn K C).isSome && PySem.W.typeIn K (.ref C) == some (.type "type")) = true := by
    rw [h2]
    have h1' : (PySem.W.clsIn K C).isSome = true := h1
    rw [h1']
    rfl
  show (if ((PySem.W.clsIn K C).isSome && PySem.W.typeIn K (.ref C) == some (.type "type")) = true then PySem.W.subIn K (.type n) (.ref C) else none) = some false
  rw [if_pos e]
  simp only [List.mem_cons, List.not_mem_nil, or_false] at hn
  rcases hn with rfl | rfl | rfl | rfl | rfl | rfl | rfl <;> rfl
theorem ev_isN {σ : L2.St} {H : Hp} {te tx : TE} {v : V} {n : String} (h1 : PySem.W.isClsIn K C = true) (h2 : PySem.W.typeIn K (.ref C) = some (.type "type")) (h : Ev te σ H v) (hc : Ev tx σ H (.ref C)) (k : Kd K H v n) : Ev (tCB (rIsi K) (tCons te (tCons tx tNil))) σ H (.bl false) := fun H1 e Q q =>
  h H1 e _ fun H2 e2 => hc H2 (e.trans e2) _ fun H3 e3 => by
    obtain ⟨ty, kk⟩ := id (k.mono ((e.trans e2).trans e3))
    exact ⟨v, .ref C, .type n, .ref C, _, rfl, .own C, ty, kit_own h1 h2 kk, q H3 (e2.trans e3)⟩
def spCkB2 (K : PySem.W.Frag) (C Cb : Addr) : Sp := fun vs H Q E => ∃ v, vs = [v] ∧ ((∃ n, Kd K H v n ∧ ∀ G, Ex H G → E (.ref Cb) none G) ∨ (∃ a u, v = .ref a ∧ BkAt H C a u ∧ RetV .non H Q))
theorem ok_ckBook2 {f : Addr} {fd : FuncData} (F : Fun K "check_book" "check_book" sCkBook f fd) (T : Gv mg) (c : Xc K mg "BadBook" Cb) (B : Bks K mg C fI pR fG fL fE) (h1 : PySem.W.isClsIn K C = true) (h2 : PySem.W.typeIn K (.ref C) = some (.type "type")) :
    FnOk P w K mg base (L2.CX P w) 2 f fd ["value"] (spCkB2 K C Cb) := by
  refine F.okX scCkBook (fun vs H Q E h => ?_) (fun cdv A outer s H vs Q E hr h => ?_)
  · obtain ⟨v, rfl, _⟩ := h
    rfl
  · obtain ⟨v, rfl, h⟩ := h
    refine ⟨_, pss_one (ps_if (pt_not (pt_val (pe_callB call_isi (by rfl) T.isi boot_isinstance (pa_cons (pv 0) (pa_cons (pe_glob (v := .ref C) (by rfl) B.g rfl) pa_nil))))) (pss_one (ps_raise rfl (takes_of rfl rfl rfl rfl) (pmk_own0 c (by rfl)))) pss_nil), ?_⟩
    rcases h with ⟨n, kd, k⟩ | ⟨a, u, rfl, b, k⟩
    · refine s_if (b := true) (et_is (et_not (et_B (ev_isN h1 h2 (ev_var rfl) ev_c kd))) rfl) (fun _ H1 e1 => ?_) (fun z => by cases z)
      exact k H1 e1
    · refine s_if (b := false) (et_is (et_not (et_B (ev_isB B (ev_var rfl) ev_c b))) rfl) (fun z => by cases z) (fun _ H1 e1 => ?_)
      exact k H1 e1
/-! ### check_rule, check_record -/
theorem scCkRule : FnScope ["value"] ["value"] (defScope sCkRule) := ⟨rfl, rfl, rfl, by decide +kernel, rfl, by decide +kernel, by decide +kernel⟩
def spCkRule (K : PySem.W.Frag) (Cr : Addr) : Sp := fun vs H Q E => ∃ v b, vs = [v] ∧ Ru K H v b ∧ (b = true → RetV .non H Q) ∧ (b = false → ∀ G, Ex H G → E (.ref Cr) none G)
theorem ok_ckRule {f : Addr} {fd : FuncData} (F : Fun K "check_rule" "check_rule" sCkRule f fd) (c : Xc K mg "BadRule" Cr) (cR : Cal P w K mg base CX0 5 "is_rule" ["value"] (spRule (K := K))) : FnOk P w K mg base (L2.CX P w) 6 f fd ["value"] (spCkRule K Cr) := by
  refine F.okX scCkRule (fun vs H Q E h => ?_) (fun cdv A outer s H vs Q E hr h => ?_)
  · obtain ⟨v, b, rfl, _⟩ := h
    rfl
  · obtain ⟨v, b, rfl, ru, k1, k2⟩ := h
    refine ⟨_, pss_one (ps_if (pt_not (pt_val (pe_call cR.F hr (by rfl) cR.g cR.kp cR.b .nil pass0 (pa_cons (pv 0) pa_nil)))) (pss_one (ps_raise rfl (takes_of rfl rfl rfl rfl) (pmk_own0 c (by rfl)))) pss_nil), ?_⟩
    refine s_if (b := !b) (et_not (et_B (ev_call (ea_cons (ev_var rfl) ea_nil) fun H1 e1 Q' q' E' => ⟨v, b, rfl, ru.mono e1, q'⟩))) (fun hb H1 e1 => ?_) (fun hb H1 e1 => ?_)
    · exact k2 (by simpa using hb) H1 e1
    · exact k1 (by simpa using hb) H1 e1
theorem scCkRec : FnScope ["rule", "value"] ["rule", "value"] (defScope sCkRec) := ⟨rfl, rfl, rfl, by decide +kernel, rfl, by decide +kernel, by decide +kernel⟩
def spCkRec (K : PySem.W.Frag) (Cx : Addr) : Sp := fun vs H Q E => ∃ a v, vs = [.ref a, v] ∧ NR H a ∧ Rv K H v ∧ ∀ G, Ex H G → E (.ref Cx) none G
theorem ok_ckRec {f : Addr} {fd : FuncData} (F : Fun K "check_record" "check_record" sCkRec f fd) (c : Xc K mg "BadRecord" Cx) (cR : Cal P w K mg base CX0 3 "is_record" ["rule", "value"] (spIsRec K)) : FnOk P w K mg base (L2.CX P w) 4 f fd ["rule", "value"] (spCkRec K Cx) := by
  refine F.okX scCkRec (fun vs H Q E h => ?_) (fun cdv A outer s H vs Q E hr h => ?_)
  · obtain ⟨a, v, rfl, _⟩ := h
    rfl
  · obtain ⟨a, v, rfl, nr, rv, k⟩ := h
    refine ⟨_, pss_one (ps_if (pt_not (pt_val (pe_call cR.F hr (by rfl) cR.g cR.kp cR.b .nil pass0 (pa_cons (pv 0) (pa_cons (pv 1) pa_nil))))) (pss_one (ps_raise rfl (takes_of rfl rfl rfl rfl) (pmk_own0 c (by rfl)))) pss_nil), ?_⟩
    refine s_if (b := true) (et_is (et_not (et_B (ev_call (ea_cons (ev_var rfl) (ea_cons (ev_var rfl) ea_nil)) fun H1 e1 Q' q' E' => ⟨a, v, rfl, nr.mono e1, rv.mono e1, q'⟩))) rfl) (fun _ H1 e1 => ?_) (fun z => by cases z)
    exact k H1 e1
/-! ### what is refused -/
/-- what is wrong with the four values; o is what is raised for it -/
inductive Wr (K : PySem.W.Frag) (C Cb Ct Cr Cx : Addr) (H : Hp) : V → V → V → V → Addr → Option V → Prop
  | book {b t ru re : V} {n : String} (h : Kd K H b n) : Wr K C Cb Ct Cr Cx H b t ru re Cb none
  | tree {a : Addr} {u t ru re x : V} (h : BkAt H C a u) (ht : Tr K H t (some x)) : Wr K C Cb Ct Cr Cx H (.ref a) t ru re Ct (some x)
  | rule {a : Addr} {u t ru re : V} (h : BkAt H C a u) (ht : Tr K H t none) (hr : Ru K H ru false) : Wr K C Cb Ct Cr Cx H (.ref a) t ru re Cr none
  | record {a c : Addr} {u t re : V} (h : BkAt H C a u) (ht : Tr K H t none) (hr : Ru K H (.ref c) true) (nr : NR H c) (hv : Rv K H re) : Wr K C Cb Ct Cr Cx H (.ref a) t (.ref c) re Cx none
theorem Wr.mono {H G : Hp} {b t ru re : V} {X : Addr} {o : Option V} (e : Ex H G) (h : Wr K C Cb Ct Cr Cx H b t ru re X o) : Wr K C Cb Ct Cr Cx G b t ru re X o := by
  cases h with
  | book h => exact .book (h.mono e)
  | tree h ht => exact .tree (h.mono e) (ht.mono e)
  | rule h ht hr => exact .rule (h.mono e) (ht.mono e) (hr.mono e)
  | record h ht hr nr hv => exact .record (h.mono e) (ht.mono e) (hr.mono e) (nr.mono e) (hv.mono e)
def Rz (X : Addr) (o : Option V) (H : Hp) (E : XK) : Prop := match o with
  | none => ∀ G, Ex H G → E (.ref X) none G
  | some u => RaiseI X u H E
def spWr (K : PySem.W.Frag) (C Cb Ct Cr Cx : Addr) : Sp := fun vs H Q E => ∃ b t ru re X o, vs = [b, t, ru, re] ∧ Wr K C Cb Ct Cr Cx H b t ru re X o ∧ Rz X o H E
abbrev nLooks : List Str := ["book", "tree", "rule", "record", "build", "look"]
theorem scLooks : FnScope nLooks ["book", "tree", "rule", "record"] (defScope sLooks) := ⟨rfl, rfl, rfl, by decide +kernel, rfl, by decide +kernel, by decide +kernel⟩
theorem ok_looks {f : Addr} {fd : FuncData} (F : Fun K "looks_now" "looks_now" sLooks f fd) (cB : Cal P w K mg base (L2.CX P w) 2 "check_book" ["value"] (spCkB2 K C Cb)) (cT : Cal P w K mg base (L2.CX P w) 4 "check_tree" ["value"] (spCkTree (K := K) Ct))
    (cR : Cal P w K mg base (L2.CX P w) 6 "check_rule" ["value"] (spCkRule K Cr)) (cX : Cal P w K mg base (L2.CX P w) 4 "check_record" ["rule", "value"] (spCkRec K Cx)) : FnOk P w K mg base (L2.CX P w) 7 f fd ["book", "tree", "rule", "record"] (spWr K C Cb Ct Cr Cx) := by
  refine F.okX scLooks (fun vs H Q E h => ?_) (fun cdv A outer s H vs Q E hr h => ?_)
  · obtain ⟨b, t, ru, re, X, o, rfl, _⟩ := h
    rfl
  · obtain ⟨b, t, ru, re, X, o, rfl, wr, k⟩ := h
    refine ⟨_, pss_cons (ps_expr (pe_call cB.F (hr.mono (by decide)) (by rfl) cB.g cB.kp cB.b .nil (lets (takes_of rfl rfl rfl rfl)) (pa_cons (pv 0) pa_nil)))
      (pss_cons (ps_expr (pe_call cT.F (hr.mono (by decide)) (by rfl) cT.g cT.kp cT.b .nil (lets (takes_of rfl rfl rfl rfl)) (pa_cons (pv 1) pa_nil)))
      (pss_cons (ps_expr (pe_call cR.F hr (by rfl) cR.g cR.kp cR.b .nil (lets (takes_of rfl rfl rfl rfl)) (pa_cons (pv 2) pa_nil)))
      (pss_cons (ps_expr (pe_call cX.F (hr.mono (by decide)) (by rfl) cX.g cX.kp cX.b .nil (lets (takes_of rfl rfl rfl rfl)) (pa_cons (pv 2) (pa_cons (pv 3) pa_nil)))) pss_never))), ?_⟩
    cases wr with
    | book h => exact ⟨_, rfl, b, rfl, .inl ⟨_, h, k⟩⟩
    | @tree a u _ _ _ x h ht => exact ⟨_, rfl, _, rfl, .inr ⟨a, u, rfl, h, fun H1 e1 => ⟨_, rfl, t, _, rfl, ht.mono e1, fun z => (by cases z), fun v hv => by cases hv; exact RaiseI.go k e1⟩⟩⟩
    | @rule a u _ _ _ h ht hr' => exact ⟨_, rfl, _, rfl, .inr ⟨a, u, rfl, h, fun H1 e1 => ⟨_, rfl, t, _, rfl, ht.mono e1, fun _ H2 e2 => ⟨_, rfl, ru, _, rfl, hr'.mono (e1.trans e2), fun z => (by cases z), fun _ G e3 => k G ((e1.trans e2).trans e3)⟩, fun v hv => by cases hv⟩⟩⟩
    | @record a c u _ _ h ht hr' nr hv => exact ⟨_, rfl, _, rfl, .inr ⟨a, u, rfl, h, fun H1 e1 => ⟨_, rfl, t, _, rfl, ht.mono e1, fun _ H2 e2 => ⟨_, rfl, _, _, rfl, hr'.mono (e1.trans e2), fun _ H3 e3 => ⟨_, rfl, _, rfl, c, re, rfl, nr.mono ((e1.trans e2).trans e3), hv.mono ((e1.trans e2).trans e3), fun G e4 => k G (((e1.trans e2).trans e3).trans e4)⟩, fun z => by cases z⟩, fun v hv => by cases hv⟩⟩⟩
abbrev nFirst : List Str := ["book", "tree", "rule", "record", "looks", "changed", "at", "look"]
theorem scFirst : FnScope nFirst ["book", "tree", "rule", "record"] (defScope sFirst) := ⟨rfl, rfl, rfl, by decide +kernel, rfl, by decide +kernel, by decide +kernel⟩
theorem ok_first {k : Nat} (hk : 7 ≤ k) {f : Addr} {fd : FuncData} (F : Fun K "first_changed" "first_changed" sFirst f fd) (cL : Cal P w K mg base (L2.CX P w) 7 "looks_now" ["book", "tree", "rule", "record"] (spWr K C Cb Ct Cr Cx)) : FnOk P w K mg base (L2.CX P w) (k + 1) f fd ["book", "tree", "rule", "record"] (spWr K C Cb Ct Cr Cx) := by
  refine F.okX scFirst (fun vs H Q E h => ?_) (fun cdv A outer s H vs Q E hr h => ?_)
  · obtain ⟨b, t, ru, re, X, o, rfl, _⟩ := h
    rfl
  · obtain ⟨b, t, ru, re, X, o, rfl, wr, k⟩ := h
    refine ⟨_, pss_cons (ps_set (i := 4) scFirst.nd rfl (Or.inr rfl) (pe_call cL.F (hr.mono hk) (by rfl) cL.g cL.kp cL.b .nil (lets (takes_of rfl rfl rfl rfl)) (pa_cons (pv 0) (pa_cons (pv 1) (pa_cons (pv 2) (pa_cons (pv 3) pa_nil)))))) pss_never, ?_⟩
    exact q_raw ⟨_, rfl, _, rfl, _, rfl, _, rfl, b, t, ru, re, X, o, rfl, wr, k⟩
abbrev nBlunt : List Str := ["book", "tree", "rule", "record", "looks", "at", "look"]
theorem scBlunt : FnScope nBlunt ["book", "tree", "rule", "record"] (defScope sBlunt) := ⟨rfl, rfl, rfl, by decide +kernel, rfl, by decide +kernel, by decide +kernel⟩
theorem ok_blunt {k : Nat} (hk : 7 ≤ k) {f : Addr} {fd : FuncData} (F : Fun K "blunt_replays" "blunt_replays" sBlunt f fd) (cL : Cal P w K mg base (L2.CX P w) 7 "looks_now" ["book", "tree", "rule", "record"] (spWr K C Cb Ct Cr Cx)) : FnOk P w K mg base (L2.CX P w) (k + 1) f fd ["book", "tree", "rule", "record"] (spWr K C Cb Ct Cr Cx) := by
  refine F.okX scBlunt (fun vs H Q E h => ?_) (fun cdv A outer s H vs Q E hr h => ?_)
  · obtain ⟨b, t, ru, re, X, o, rfl, _⟩ := h
    rfl
  · obtain ⟨b, t, ru, re, X, o, rfl, wr, k⟩ := h
    refine ⟨_, pss_cons (ps_set (i := 4) scBlunt.nd rfl (Or.inr rfl) (pe_call cL.F (hr.mono hk) (by rfl) cL.g cL.kp cL.b .nil (lets (takes_of rfl rfl rfl rfl)) (pa_cons (pv 0) (pa_cons (pv 1) (pa_cons (pv 2) (pa_cons (pv 3) pa_nil)))))) pss_never, ?_⟩
    exact q_raw ⟨_, rfl, _, rfl, _, rfl, _, rfl, b, t, ru, re, X, o, rfl, wr, k⟩
theorem scReplays : FnScope ["book", "tree", "rule", "record"] ["book", "tree", "rule", "record"] (defScope sReplays) := ⟨rfl, rfl, rfl, by decide +kernel, rfl, by decide +kernel, by decide +kernel⟩
theorem ok_replays {f : Addr} {fd : FuncData} (F : Fun K "replays" "replays" sReplays f fd) (cF : Cal P w K mg base (L2.CX P w) 8 "first_changed" ["book", "tree", "rule", "record"] (spWr K C Cb Ct Cr Cx)) : FnOk P w K mg base (L2.CX P w) 9 f fd ["book", "tree", "rule", "record"] (spWr K C Cb Ct Cr Cx) := by
  refine F.okX scReplays (fun vs H Q E h => ?_) (fun cdv A outer s H vs Q E hr h => ?_)
  · obtain ⟨b, t, ru, re, X, o, rfl, _⟩ := h
    rfl
  · obtain ⟨b, t, ru, re, X, o, rfl, wr, k⟩ := h
    refine ⟨_, pss_one (ps_ret (pe_cmpR op_isN (pe_call cF.F hr (by rfl) cF.g cF.kp cF.b .nil (lets (takes_of rfl rfl rfl rfl)) (pa_cons (pv 0) (pa_cons (pv 1) (pa_cons (pv 2) (pa_cons (pv 3) pa_nil))))) pe_non (nomark _))), ?_⟩
    exact ⟨_, rfl, _, rfl, _, rfl, _, rfl, b, t, ru, re, X, o, rfl, wr, k⟩
end
end Bt
namespace Bt
open PySem PySem.Spec PyProof.Rows L2 Bk Bm Evl Be Cr Kr Bp Bl TL
abbrev sRef : Stmt := top 77
abbrev nRef : List Str := ["_law_kind", "_law_book", "_law_tree_here", "_law_rule_here", "_law_record", "_law_found", "e"]
/-- the error classes -/
structure Exs (K : PySem.W.Frag) (mg : Str → Option Value) (Cb Ct fI Cr Cx : Addr) : Prop where
  book : Xc K mg "BadBook" Cb
  tree : Xi K mg "BadTree" Ct fI
  rule : Xc K mg "BadRule" Cr
  rec_ : Xc K mg "BadRecord" Cx
  bb : PySem.W.exmOne K (.ref Cb) (.ref Cb) = some true
  tb : PySem.W.exmOne K (.ref Ct) (.ref Cb) = some false
  rb : PySem.W.exmOne K (.ref Cr) (.ref Cb) = some false
  xb : PySem.W.exmOne K (.ref Cx) (.ref Cb) = some false
  tt : PySem.W.exmOne K (.ref Ct) (.ref Ct) = some true
  rt : PySem.W.exmOne K (.ref Cr) (.ref Ct) = some false
  xt : PySem.W.exmOne K (.ref Cx) (.ref Ct) = some false
  rr : PySem.W.exmOne K (.ref Cr) (.ref Cr) = some true
  xr : PySem.W.exmOne K (.ref Cx) (.ref Cr) = some false
  xx : PySem.W.exmOne K (.ref Cx) (.ref Cx) = some true
section
variable {P : Program} {w : World} {K : PySem.W.Frag} {mg : Str → Option Value} {base : Heap} {C Cb Ct fI Cr Cx : Addr}
theorem scRef : FnScope nRef ["_law_kind", "_law_book", "_law_tree_here", "_law_rule_here", "_law_record"] (defScope sRef) := ⟨rfl, rfl, rfl, by decide +kernel, rfl, by decide +kernel, by decide +kernel⟩
def OutT (u : V) (H : Hp) (Q : VK) : Prop := ∀ l G, Ex H G → G l = some (.lst [.str (Str.ofString "tree"), u]) → Q (.ref l) G
/-- what is told of what is raised -/
def Told (Cb Ct Cr Cx X : Addr) (o : Option V) (H : Hp) (Q : VK) : Prop := match o with
  | some u => X = Ct ∧ OutT u H Q
  | none => (X = Cb ∧ RetV (.str (Str.ofString "book")) H Q) ∨ (X = Cr ∧ RetV (.str (Str.ofString "rule")) H Q) ∨ (X = Cx ∧ RetV (.str (Str.ofString "record")) H Q)
def spRef (K : PySem.W.Frag) (C Cb Ct Cr Cx : Addr) : Sp := fun vs H Q _ => ∃ k b t ru re X o, vs = [.int k, b, t, ru, re] ∧ 0 ≤ k ∧ k < 3 ∧ Wr K C Cb Ct Cr Cx H b t ru re X o ∧ Told Cb Ct Cr Cx X o H Q
/-- the suites -/
def tSui (Ct : Addr) : Addr → Value → Option Addr → TS := fun a cls d => tAsg (tLst (tCons (tC (.str (Str.ofString "tree"))) (tCons (tXf a cls d Ct "index" (tVar 6)) tNil))) (gName 5)
def tSay (x : String) : Addr → Value → Option Addr → TS := fun _ _ _ => tAsg (tC (.str (Str.ofString x))) (gName 5)
def cls4 (Cb Ct Cr Cx : Addr) : List Cl := [(.ref Cb, none, tSay "book"), (.ref Ct, some 6, tSui Ct), (.ref Cr, none, tSay "rule"), (.ref Cx, none, tSay "record")]
theorem ok_ref {f : Addr} {fd : FuncData} (F : Fun K "_law_refused" "_law_refused" sRef f fd) (X : Exs K mg Cb Ct fI Cr Cx)
    (cB : Cal P w K mg base (L2.CX P w) 9 "blunt_replays" ["book", "tree", "rule", "record"] (spWr K C Cb Ct Cr Cx)) (cF : Cal P w K mg base (L2.CX P w) 9 "first_changed" ["book", "tree", "rule", "record"] (spWr K C Cb Ct Cr Cx))
    (cR : Cal P w K mg base (L2.CX P w) 9 "replays" ["book", "tree", "rule", "record"] (spWr K C Cb Ct Cr Cx)) : FnOk P w K mg base CX0 10 f fd ["_law_kind", "_law_book", "_law_tree_here", "_law_rule_here", "_law_record"] (spRef K C Cb Ct Cr Cx) := by
  refine F.ok scRef (fun vs H Q E h => ?_) (fun cdv A outer s H vs Q E hr h => ?_)
  · obtain ⟨k, b, t, ru, re, X, o, rfl, _⟩ := h
    rfl
  · obtain ⟨k, b, t, ru, re, Xa, o, rfl, hk0, hk3, wr, h⟩ := h
    refine ⟨_, pss_cons (ps_set (i := 5) scRef.nd rfl (Or.inl rfl) pe_non)
      (pss_cons (ps_try_mix (l := cls4 Cb Ct Cr Cx) (Wo := fun _ _ _ _ => False)
          (tb := fun W => tDrop (tCallE (fun f sp => (f = cB.f ∧ sp = spWr K C Cb Ct Cr Cx) ∨ (f = cF.f ∧ sp = spWr K C Cb Ct Cr Cx) ∨ (f = cR.f ∧ sp = spWr K C Cb Ct Cr Cx)) (WE W)
              (tOp (rIxL K) (tLst (tCs [.ref cB.f, .ref cF.f, .ref cR.f])) (tVar 0)) (tCons (tVar 1) (tCons (tVar 2) (tCons (tVar 3) (tCons (tVar 4) tNil)))))) rfl rfl scRef.nd takes0
        (fun W pn xe tk _ => pss_one (ps_expr (pe_callE (pe_ix ix_list (pe_lst (pa_cons (pe_glob (by rfl) cB.g rfl) (pa_cons (pe_glob (by rfl) cF.g rfl) (pa_cons (pe_glob (by rfl) cR.g rfl) pa_nil)))) (pv 0) (fun _ _ => rfl))
            (fun f sp q => by
              rcases q with ⟨rfl, rfl⟩ | ⟨rfl, rfl⟩ | ⟨rfl, rfl⟩
              · exact ⟨_, _, cB.F, cB.kp, cB.b⟩
              · exact ⟨_, _, cF.F, cF.kp, cF.b⟩
              · exact ⟨_, _, cR.F, cR.kp, cR.b⟩) hr (fun σ => passAt tk σ) (by exact (pa_cons (pv 1) (pa_cons (pv 2) (pa_cons (pv 3) (pa_cons (pv 4) pa_nil))))))))
        (.bare ⟨rfl, by decide, .inl X.book.g⟩ (fun a oe cls d pn hz hf => pss_one (ps_set (i := 5) scRef.nd rfl (Or.inl rfl) pe_str))
        (.named ⟨rfl, by decide, .inl X.tree.g⟩ rfl rfl (fun a oe cls d pn hz hf => pss_one (ps_set (i := 5) scRef.nd rfl (Or.inl rfl) (by exact (pe_lst (pa_cons pe_str (pa_cons (pe_xf X.tree.f X.tree.n hz hf (pv 6)) pa_nil))))))
        (.bare ⟨rfl, by decide, .inl X.rule.g⟩ (fun a oe cls d pn hz hf => pss_one (ps_set (i := 5) scRef.nd rfl (Or.inl rfl) pe_str))
        (.bare ⟨rfl, by decide, .inl X.rec_.g⟩ (fun a oe cls d pn hz hf => pss_one (ps_set (i := 5) scRef.nd rfl (Or.inl rfl) pe_str)) .nil)))))
      (pss_one (ps_ret (pv 5)))), ?_⟩
    refine q_asg ev_c fun H1 e1 => ?_
    have main : ∀ G, Ex H G → Rz Xa o G (WE (wMix K (fun _ _ _ _ => False) ({ nx := tRet (tVar 5) { nx := fun _ H' => Q .non H', rt := Q }, rt := Q } : Ends) (cls4 Cb Ct Cr Cx)) ([some (.int k), some b, some t, some ru, some re, some .non, none] : L2.St)) := by
      intro G eG
      cases o with
      | some u =>
        obtain ⟨rfl, out⟩ := h
        intro d G' e' hd hn
        refine ⟨false, X.tb, fun z => (by cases z), fun _ => ⟨true, X.tt, fun _ a ha => ?_, fun z => by cases z⟩⟩
        refine ⟨_, rfl, rfl, rfl, d, [(("index" : Str), u)], u, rfl, hd, by simp [List.lookup], by show 2 ≤ sizeLine; decide, fun l hl => ?_⟩
        exact ⟨_, rfl, out l _ ((eG.trans e').trans (Ex.new hl)) upd_same⟩
      | none =>
        intro G' e'
        rcases h with ⟨rfl, out⟩ | ⟨rfl, out⟩ | ⟨rfl, out⟩
        · refine ⟨true, X.bb, fun _ a ha => ?_, fun z => by cases z⟩
          exact ⟨_, rfl, out _ (eG.trans e')⟩
        · refine ⟨false, X.rb, fun z => (by cases z), fun _ => ⟨false, X.rt, fun z => (by cases z), fun _ => ⟨true, X.rr, fun _ a ha => ?_, fun z => by cases z⟩⟩⟩
          exact ⟨_, rfl, out _ (eG.trans e')⟩
        · refine ⟨false, X.xb, fun z => (by cases z), fun _ => ⟨false, X.xt, fun z => (by cases z), fun _ => ⟨false, X.xr, fun z => (by cases z), fun _ => ⟨true, X.xx, fun _ a ha => ?_, fun z => by cases z⟩⟩⟩⟩
          exact ⟨_, rfl, out _ (eG.trans e')⟩
    refine ⟨by show 3 ≤ sizeLine; decide, fun l hl => ?_⟩
    have eG : Ex H (upd H1 l (.lst [.ref cB.f, .ref cF.f, .ref cR.f])) := e1.trans (Ex.new hl)
    have : k = 0 ∨ k = 1 ∨ k = 2 := by omega
    rcases this with rfl | rfl | rfl
    · exact ⟨_, rfl, l, _, 0, .ref cB.f, rfl, rfl, sq_of upd_same, rfl, cB.f, _, rfl, .inl ⟨rfl, rfl⟩, _, rfl, _, rfl, _, rfl, _, rfl, b, t, ru, re, Xa, o, rfl, wr.mono eG, main _ eG⟩
    · exact ⟨_, rfl, l, _, 1, .ref cF.f, rfl, rfl, sq_of upd_same, rfl, cF.f, _, rfl, .inr (.inl ⟨rfl, rfl⟩), _, rfl, _, rfl, _, rfl, _, rfl, b, t, ru, re, Xa, o, rfl, wr.mono eG, main _ eG⟩
    · exact ⟨_, rfl, l, _, 2, .ref cR.f, rfl, rfl, sq_of upd_same, rfl, cR.f, _, rfl, .inr (.inr ⟨rfl, rfl⟩), _, rfl, _, rfl, _, rfl, _, rfl, b, t, ru, re, Xa, o, rfl, wr.mono eG, main _ eG⟩
end
end Bt
namespace Bt
open PySem PySem.Spec PyProof.Rows L2 Bk Bm Evl Be Cr Kr Bp Bl TL
theorem cons_raw {te : TE} {ta : TA} {σ : L2.St} {G : Hp} {Q : List V → Hp → Prop} (h : te σ G fun x H1 => ta σ H1 fun xs H2 => Q (x :: xs) H2) : tCons te ta σ G Q := h
theorem parq_raw {i j : Nat} {ta : TA} {tz : TS} {De : Ends} {σ : L2.St} {H : Hp} (h : ta σ H fun vs H1 => ∃ v w, vs = [v, w] ∧ tz De ((σ.set i (some v)).set j (some w)) H1) : tSeq (tPar i j ta) tz De σ H := h
abbrev tListOf (K : PySem.W.Frag) (te : TE) : TE := tCB (fun xs H Q => ∃ p ys, xs = [V.ref p] ∧ (SqL K H p ys ∨ SqT K H p ys) ∧ ∀ (l : Addr), H l = none → Q (V.ref l) (upd H l (HO.lst ys))) (tCons te tNil)
section
variable {K : PySem.W.Frag} {σ : L2.St} {H G : Hp} {r C : Addr} {xs : List V}
/-- an expression that comes to a value of a kind -/
def EvP (te : TE) (σ : L2.St) (H : Hp) (F : Hp → V → Prop) : Prop := ∀ H1, Ex H H1 → ∀ Q : VK, (∀ v H2, Ex H1 H2 → F H2 v → Q v H2) → te σ H1 Q
def EvPs (ta : TA) (σ : L2.St) (H : Hp) (F : Hp → V → Prop) (n : Nat) : Prop := ∀ H1, Ex H H1 → ∀ Q : List V → Hp → Prop, (∀ vs H2, Ex H1 H2 → (∀ v ∈ vs, F H2 v) → vs.length = n → Q vs H2) → ta σ H1 Q
theorem evp_nil {F : Hp → V → Prop} : EvPs tNil σ H F 0 := fun H1 _ _ q => q [] H1 (Ex.refl _) (fun _ h => by cases h) rfl
theorem evp_cons {F : Hp → V → Prop} {te : TE} {ta : TA} {n : Nat} (fm : ∀ {H G v}, F H v → Ex H G → F G v) (h : EvP te σ H F) (hs : EvPs ta σ H F n) : EvPs (tCons te ta) σ H F (n + 1) := fun H1 e Q q =>
  h H1 e _ fun v H2 e2 hv => hs H2 (e.trans e2) _ fun vs H3 e3 hvs hn => q (v :: vs) H3 (e2.trans e3) (fun u hu => by
    rcases List.mem_cons.mp hu with rfl | hu
    · exact fm hv e3
    · exact hvs u hu) (by rw [List.length_cons, hn])
theorem evp_c {F : Hp → V → Prop} {v : V} (h : ∀ H, F H v) : EvP (tC v) σ H F := fun H1 _ _ q => q v H1 (Ex.refl _) (h _)
theorem evp_tup1 {F : Hp → V → Prop} {v : V} (h : ∀ H a, H a = some (.tup [v]) → F H (.ref a)) : EvP (tTup (tCons (tC v) tNil)) σ H F := fun H1 _ _ q => ⟨by show 1 ≤ sizeLine; decide, fun p hp => q _ _ (Ex.new hp) (h _ p upd_same)⟩
theorem evp_dict {F : Hp → V → Prop} (h : ∀ H a, H a = some (.dK []) → F H (.ref a)) : EvP tDNewK σ H F := fun H1 _ _ q p hp => q _ _ (Ex.new hp) (h _ p upd_same)
/-- what is told of a refused tree, as data -/
theorem told {u : V} (h : u = .non ∨ ∃ i : Nat, u = .int (i : Int)) : ∃ dU, (∀ G, Dp K G u dU) ∧ SeqAt.shaped (.list [.str (Str.ofString "tree"), dU]) = true ∧ PyData.eqv (.list [.str (Str.ofString "tree"), dU]) (.list [.str (Str.ofString "tree"), dU]) = true := by
  rcases h with rfl | ⟨i, rfl⟩
  · exact ⟨.none, fun _ => .non, by decide +kernel, by decide +kernel⟩
  · refine ⟨.int i, fun _ => .int _, ?_, ?_⟩
    · show (PyData.canLayAll0 [.str (Str.ofString "tree"), .int i] && decide (PyData.depth (.list [.str (Str.ofString "tree"), .int i]) ≤ 64)) = true
      have h1 : PyData.canLayAll0 [.str (Str.ofString "tree"), .int i] = true := by
        show (PyData.strOk (Str.ofString "tree") && (true && true)) = true
        decide +kernel
      have h2 : PyData.depth (.list [.str (Str.ofString "tree"), .int i]) ≤ 64 := by
        simp [PyData.depth, PyData.depthAll]
      rw [h1, decide_eq_true h2]
      rfl
    · simp [PyData.eqv, PyData.eqvAll]
theorem tup_dr {t : Addr} {ys : List V} (h : H t = some (.tup ys)) (row : Row K H r) (d : Dr K r H G) : G t = some (.tup ys) := by
  obtain ⟨rl, hr⟩ := row.at
  exact d.kp _ _ (ne_of h hr (by intro z; cases z)) h
theorem BkAt.dr {a : Addr} {v : V} (h : BkAt H C a v) (row : Row K H r) (d : Dr K r H G) : BkAt G C a v := by
  obtain ⟨rl, hr⟩ := row.at
  obtain ⟨dx, h⟩ := h
  exact ⟨dx, d.kp _ _ (ne_of h hr (by intro z; cases z)) h⟩
theorem Ru.dr {v : V} {b : Bool} (h : Ru K H v b) (row : Row K H r) (d : Dr K r H G) : Ru K G v b := by
  obtain ⟨rl', hr'⟩ := d.row.at
  obtain ⟨a, i, s, z, ns, hr, _⟩ := id row
  exact Ru.kp h hr (by show 4 ≠ 1; decide) hr' d.kp
theorem NL.dr {v : V} (h : NL H v) (row : Row K H r) (d : Dr K r H G) : NL G v := by
  rcases h with h | ⟨c, h1, h2⟩
  · exact .inl h
  · exact .inr ⟨c, h1, tup_dr h2 row d⟩
theorem Rv.dr {v : V} (h : Rv K H v) (row : Row K H r) (d : Dr K r H G) : Rv K G v := by
  cases h with
  | k h hn => exact .k (Kd.dr h row d) hn
  | t h hx => exact .t (tup_dr h row d) (NL.dr hx row d)
/-- a draw from a list of such values -/
theorem drawP {ta : TE} {tl : TA} {F : Hp → V → Prop} {n : Nat} {Q : VK} (fm : ∀ {H G v}, F H v → Ex H G → F G v) (fd : ∀ {H G v}, F H v → Row K H r → Dr K r H G → F G v) (hr : Ev ta σ H (.ref r)) (hl : EvPs tl σ H F n) (row : Row K H r) (h0 : 0 < n) (h1 : n ≤ 1000)
    (k : ∀ v G, F G v → Dr K r H G → Q v G) : tCall (spOne (K := K)) [] E0 (tCons ta (tCons (tLst tl) tNil)) σ H Q :=
  hr H (Ex.refl _) _ fun H1 e1 => hl H1 e1 _ fun vs H2 e2 hvs hn => ⟨sz_of (by omega), fun p hp => ⟨r, p, vs, rfl, row.ex ((e1.trans e2).trans (Ex.new hp)), (row.ex (e1.trans e2)).ne_new hp, upd_same, by omega, by omega, fun v G hv d =>
    k v G (fd (fm (hvs v hv) (Ex.new hp)) (row.ex ((e1.trans e2).trans (Ex.new hp))) d) (Dr.pre ((e1.trans e2).trans (Ex.new hp)) d)⟩⟩
/-- an item of such a list, by a draw -/
theorem ixP {ta : TE} {tl : TA} {F : Hp → V → Prop} {n : Nat} {Q : VK} (fm : ∀ {H G v}, F H v → Ex H G → F G v) (fd : ∀ {H G v}, F H v → Row K H r → Dr K r H G → F G v) (hr : Ev ta σ H (.ref r)) (hl : EvPs tl σ H F n) (row : Row K H r) (h0 : 0 < n) (h1 : n ≤ 1000)
    (k : ∀ v G, F G v → Dr K r H G → Q v G) : tOp (rIxL K) (tLst tl) (tCall (spTaken (K := K)) [] E0 (tCons ta (tCons (tC (.int (n : Int))) tNil))) σ H Q :=
  hl H (Ex.refl _) _ fun vs H2 e2 hvs hn => ⟨sz_of (by omega), fun p hp => by
    have e3 := e2.trans (Ex.new (o := .lst vs) hp)
    have row3 := row.ex e3
    have ne := (row.ex e2).ne_new hp
    refine draw (m := (n : Int)) (fun H1 e Q q => hr H1 (e3.trans e) Q q) ev_c row3 (by omega) (by omega) fun j G hj hjm d => ?_
    have hin : j.toNat < vs.length := by omega
    exact ⟨p, vs, j, vs[j.toNat], rfl, rfl, sq_of (d.kp _ _ ne upd_same), at_of (j := j.toNat) (by omega) (List.getElem?_eq_getElem hin), k _ G (fd (fm (hvs _ (List.getElem_mem hin)) (Ex.new hp)) row3 d) (Dr.pre e3 d)⟩⟩
end
section
variable {P : Program} {w : World} {K : PySem.W.Frag} {mg : Str → Option Value} {base : Heap}
/-- the same of a tuple -/
def spOneT : Sp := fun vs H Q _ => ∃ r t xs, vs = [.ref r, .ref t] ∧ Row K H r ∧ H t = some (.tup xs) ∧ 0 < xs.length ∧ xs.length < 1000000 ∧ ∀ v G, v ∈ xs → Dr K r H G → Q v G
theorem ok_oneT {f : Addr} {fd : FuncData} (F : Fun K "_law_one" "_law_one" sOne f fd) (T : Gv mg) (cT : Cal P w K mg base CX0 1 "_law_taken" ["_law_row", "_law_many"] (spTaken (K := K))) : FnOk P w K mg base CX0 2 f fd ["_law_row", "_law_things"] (spOneT (K := K)) := by
  refine F.ok scOne (fun vs H Q E h => ?_) (fun cdv A outer s H vs Q E hr h => ?_)
  · obtain ⟨r, t, xs, rfl, _⟩ := h
    rfl
  · obtain ⟨r, t, xs, rfl, row, ht, h0, h1, k⟩ := h
    refine ⟨_, pss_one (ps_ret (pe_ix (r := rIxT K) ix_tup (pv 1) (pe_call cT.F hr (by rfl) cT.g cT.kp cT.b .nil pass0 (pa_cons (pv 0) (pa_cons (pe_callB call_len_seq (by rfl) T.len PySem.boot_len (pa_cons (pv 1) pa_nil)) pa_nil))) (fun _ _ => rfl))), ?_⟩
    refine ⟨_, rfl, draw (m := (xs.length : Int)) (ev_var rfl) (ev_lenT (ev_var rfl) (st_of ht)) row (by omega) (by omega) fun n G hn hm d => ?_⟩
    have hin : n.toNat < xs.length := by omega
    refine ⟨t, xs, n, xs[n.toNat], rfl, rfl, st_of (tup_dr ht row d), ?_, k _ G (List.getElem_mem hin) d⟩
    exact at_of (j := n.toNat) (by omega) (List.getElem?_eq_getElem hin)
end
section
variable {K : PySem.W.Frag} {σ : L2.St} {H G : Hp} {r : Addr}
theorem no_join : ∀ fs, formOf (Str.ofString "join") = some fs → fs = [Str.ofString "paths"] := by
  intro fs h
  rw [f_join] at h
  exact (Option.some.inj h).symm
theorem kf_ok : ∀ k ∈ knds, ∃ f fs, formOf k = some (f :: fs) ∧ (k ≠ Str.ofString "join" → f = Str.ofString "path" ∨ f = Str.ofString "folder") := by
  intro k hk
  by_cases h1 : k = Str.ofString "join"
  · subst h1; exact ⟨_, _, f_join, fun z => absurd rfl z⟩
  by_cases h2 : k = Str.ofString "choose"
  · subst h2; exact ⟨_, _, f_choose, fun _ => .inl rfl⟩
  by_cases h3 : inV (.str k) [.str (Str.ofString "pick"), .str (Str.ofString "need")] = true
  · exact ⟨_, _, (k_pn k hk h3).1, fun _ => .inl rfl⟩
  by_cases h4 : k = Str.ofString "names"
  · subst h4; exact ⟨_, _, f_names, fun _ => .inr rfl⟩
  · exact ⟨_, _, k_one k hk h1 h2 (by simpa using h3) h4, fun _ => .inl rfl⟩
theorem fit_tup {f : Str} {b : Addr} {o : Option (List V)} (hf : f = Str.ofString "path" ∨ f = Str.ofString "folder") : fitsV f (.ref b) o = false := by
  rcases hf with rfl | rfl
  · rw [fit_path]; rfl
  · rw [fit_fold]; rfl
/-- the first look of a drawn rule -/
theorem good_nr {v : V} {g : Str × PyData} (h : Good H v g) : ∃ a, v = .ref a ∧ NR H a ∧ Ru K H v true ∧ ∃ m k ts os, H a = some (.tup (.str m :: .str k :: ts)) ∧ k ∈ knds ∧ Paired (Th K H) ts os ∧ ts.length ≤ 3 ∧ pathB m = true ∧ m.length ≤ 1000 ∧ (k = Str.ofString "names" → ∀ x ∈ ts, Sm H x) := by
  have itr := h.itr (K := K)
  obtain ⟨a, k, ts, ods, rfl, h1, h2, h3, h4, h5, h6, h7, h8⟩ := h
  have hm := (ten_ok _ (five_ten _ h6))
  have th : Paired (Th K H) ts (ods.map (·.1)) := by
    clear h3 h7 h8 h5 h1
    induction h2 with
    | nil => exact .nil
    | cons r _ ih => exact .cons r.th ih
  refine ⟨a, rfl, ⟨g.1, k, ts, h1, ?_⟩, itr.1, g.1, k, ts, ods.map (·.1), h1, h4, th, by have := pr_len h2; omega, hm.2, hm.1.1, fun z x hx => ?_⟩
  · obtain ⟨f, fs, hf, hfk⟩ := kf_ok k h4
    unfold ruleB at h7
    simp only [hf, Bool.and_eq_true, decide_eq_true_eq] at h7
    obtain ⟨_, hlen, hall⟩ := h7
    cases h2 with
    | nil => simp at hlen
    | @cons x y ts' ods' rx rr =>
      simp only [List.map_cons, List.zip_cons_cons, List.all_cons, Bool.and_eq_true] at hall
      obtain ⟨hfx, _⟩ := hall
      by_cases hj : k = Str.ofString "join"
      · subst hj
        have hfe := no_join _ hf
        injection hfe with hfe hfe2
        subst hfe
        subst hfe2
        have hl0 : ts' = [] := by
          have : ts'.length = 0 := by simpa using hlen
          exact List.length_eq_zero_iff.mp this
        subst hl0
        cases rx with
        | s x hx =>
          rw [show ((none, PyData.str x) : Option (List V) × PyData).1 = none from rfl, fit_pathsN] at hfx
          cases hfx
        | @t b ys hb hy hl => exact .inl ⟨rfl, b, ys, rfl, hb, hl, fun y hy' => (hy y hy').2.2⟩
      · cases rx with
        | s x hx => exact .inr ⟨hj, x, ts', rfl, hx.2.2⟩
        | @t b ys hb hy hl =>
          rw [fit_tup (hfk hj)] at hfx
          cases hfx
  · obtain ⟨y, rfl, hy⟩ := h5 z x hx
    exact .str y hy.1
end
end Bt
namespace Bt
open PySem PySem.Spec PyProof.Rows L2 Bk Bm Evl Be Cr Kr Bp Bl TL
abbrev sLaw : Stmt := top 78
abbrev nLaw : List Str := ["_law_script", "_law_row", "_law_turn", "_law_rules_here", "_law_tree_here", "_law_book", "_law_rule_here", "_law_bad", "_law_kind", "_law_wrong", "_law_at", "_law_odd", "_law_value"]
section
variable {K : PySem.W.Frag} {σ : L2.St} {H G : Hp} {r : Addr}
/-- a value that is no book -/
def NB (K : PySem.W.Frag) (H : Hp) (v : V) : Prop := ∃ n, Kd K H v n
theorem NB.mono {v : V} (h : NB K H v) (e : Ex H G) : NB K G v := by
  obtain ⟨n, h⟩ := h
  exact ⟨n, h.mono e⟩
theorem NB.dr {v : V} (h : NB K H v) (row : Row K H r) (d : Dr K r H G) : NB K G v := by
  obtain ⟨n, h⟩ := h
  exact ⟨n, Kd.dr h row d⟩
theorem bad_list {t : Addr} {xs : List V} (s3 : σ[3]? = some (some (.ref t))) (ht : H t = some (.tup xs)) :
    EvPs (tCons (tC V.non) (tCons (tVar 3) (tCons (tC (V.int 0)) (tCons (tC (V.bl true)) (tCons (tC (V.str (Str.ofString "book"))) (tCons tDNewK tNil)))))) σ H (NB K) 6 := by
  have fm : ∀ {H G v}, NB K H v → Ex H G → NB K G v := fun h e => h.mono e
  exact evp_cons fm (evp_c fun H => ⟨_, kd_non⟩) (evp_cons fm (fun H1 e Q q => ⟨_, s3, q _ H1 (Ex.refl _) ⟨_, kd_tup (e _ _ ht)⟩⟩) (evp_cons fm (evp_c fun H => ⟨_, kd_int 0⟩) (evp_cons fm (evp_c fun H => ⟨_, kd_bl _⟩) (evp_cons fm (evp_c fun H => ⟨_, kd_str _⟩) (evp_cons fm (evp_dict fun H a h => ⟨_, kd_dK h⟩) evp_nil)))))
theorem val_list :
    EvPs (tCons (tC V.non) (tCons (tC (V.int 0)) (tCons (tC (V.str (Str.ofString "text"))) (tCons (tLst (tCons (tTup (tCons (tC (V.str (Str.ofString "missing"))) (tCons (tC (V.str (Str.ofString "a"))) tNil))) tNil)) (tCons (tTup (tCons (tC V.non) tNil))
      (tCons (tTup (tCons (tTup (tCons (tC (V.str (Str.ofString "missing"))) (tCons (tC (V.str (Str.ofString "z"))) tNil))) tNil)) (tCons tDNewK (tCons (tC (V.bl true)) tNil)))))))) σ H (Rv K) 8 := by
  have fm : ∀ {H G v}, Rv K H v → Ex H G → Rv K G v := fun h e => h.mono e
  refine evp_cons fm (evp_c fun H => .k kd_non (by decide)) (evp_cons fm (evp_c fun H => .k (kd_int 0) (by decide)) (evp_cons fm (evp_c fun H => .k (kd_str _) (by decide)) (evp_cons fm (fun H1 e Q q => ?_) (evp_cons fm (evp_tup1 fun H a h => .t h (.inl rfl)) (evp_cons fm (fun H1 e Q q => ?_)
    (evp_cons fm (evp_dict fun H a h => .k (kd_dK h) (by decide)) (evp_cons fm (evp_c fun H => .k (kd_bl _) (by decide)) evp_nil)))))))
  · exact ⟨by show 2 ≤ sizeLine; decide, fun p hp => ⟨by show 1 ≤ sizeLine; decide, fun l hl => q _ _ ((Ex.new hp).trans (Ex.new hl)) (.k (kd_lst upd_same) (by decide))⟩⟩
  · exact ⟨by show 2 ≤ sizeLine; decide, fun p hp => ⟨by show 1 ≤ sizeLine; decide, fun l hl => q _ _ ((Ex.new hp).trans (Ex.new hl)) (.t upd_same (.inr ⟨p, rfl, Ex.new hl _ _ upd_same⟩))⟩⟩
theorem pathA : isPathV (.str (Str.ofString "A")) = false := by decide +kernel
theorem kinds_k : ∀ k ∈ knds, k ∈ kinds9 ∧ k.length ≤ 1000 := by decide +kernel
theorem size9 : Str.ofString "size" ∈ kinds9 ∧ (Str.ofString "size").length ≤ 1000 ∧ (Str.ofString "A").length ≤ 1000 ∧ formOf (Str.ofString "size") = some [Str.ofString "path"] := by decide +kernel
theorem none_rule {m k f : Str} {fs : List Str} (hf : formOf k = some (f :: fs)) : ruleB (.str m) (.str k) [] [] = false := by
  unfold ruleB
  simp [hf]
theorem rule_list {a : Addr} {m k : Str} {ts : List V} {os : List (Option (List V))} (s6 : σ[6]? = some (some (.ref a))) (ha : H a = some (.tup (.str m :: .str k :: ts))) (hk : k ∈ knds) (hp : Paired (Th K H) ts os) (hl : ts.length ≤ 3) (hm : m.length ≤ 1000) (hn : k = Str.ofString "names" → ∀ x ∈ ts, Sm H x) :
    EvPs (tCons (tC V.non) (tCons (tTup (tCons (tOp (rIxT K) (tVar 6) (tC (V.int 0))) (tCons (tC (V.str (Str.ofString "size"))) tNil))) (tCons (tListOf K (tVar 6)) (tCons (tOp (rCatA K) (tTup (tCons (tC (V.str (Str.ofString "A"))) tNil)) (tSl (rSlA K) (tVar 6) (tPart (tC (V.int 1))) tNoPart))
      (tCons (tC (V.int 0)) (tCons (tC (V.str (Str.ofString "size"))) (tCons (tSl (rSlA K) (tVar 6) tNoPart (tPart (tC (V.int 2)))) tNil))))))) σ H (fun H v => Ru K H v false) 7 := by
  have fm : ∀ {H G v}, Ru K H v false → Ex H G → Ru K G v false := fun h e => h.mono e
  refine evp_cons fm (evp_c fun H => .no kd_non (by decide)) (evp_cons fm (fun H1 e Q q => ?_) (evp_cons fm (fun H1 e Q q => ?_) (evp_cons fm (fun H1 e Q q => ?_) (evp_cons fm (evp_c fun H => .no (kd_int 0) (by decide)) (evp_cons fm (evp_c fun H => .no (kd_str _) (by decide)) (evp_cons fm (fun H1 e Q q => ?_) evp_nil))))))
  · refine cons_raw (ev_op (z := .str m) (ev_var s6) ev_c (rv_ixT (st_of (e _ _ ha)) (atI_nat (j := 0) rfl)) H1 (Ex.refl _) _ fun H2 e2 => ⟨by show 2 ≤ sizeLine; decide, fun p hp => ?_⟩)
    have r0 := Ru.long (K := K) (H := upd H2 p (.tup [V.str m, V.str (Str.ofString "size")])) (a := p) (x0 := .str m) (x1 := .str (Str.ofString "size")) (rest := []) (os := []) upd_same (.str m hm) (.str _ size9.2.1) (fun z hz => by cases hz; exact size9.1) .nil (by show 0 ≤ 100; decide) (fun _ x hx => by cases hx)
    rw [none_rule size9.2.2.2] at r0
    exact q _ _ (e2.trans (Ex.new hp)) r0
  · exact ⟨_, s6, a, _, rfl, .inr (st_of (e _ _ ha)), fun l hl => q _ _ (Ex.new hl) (.no (kd_lst upd_same) (by decide))⟩
  · refine ⟨by show 1 ≤ sizeLine; decide, fun p hp1 => ?_⟩
    have e1 := Ex.new (o := .tup [V.str (Str.ofString "A")]) hp1
    refine slice_fromU (i := 1) (ev_var s6) ev_c ((e.trans e1) _ _ ha) (by simp) _ (Ex.refl _) _ fun p2 H3 e3 hp2 => ?_
    refine catU_go (xs := [V.str (Str.ofString "A")]) (e3 _ _ upd_same) hp2 (by simp; omega) fun p4 H4 e4 hp4 => ?_
    have eA : Ex H H4 := ((e.trans e1).trans e3).trans e4
    have r0 := Ru.long (K := K) (H := H4) (a := p4) (x0 := .str (Str.ofString "A")) (x1 := .str k) (rest := ts) (os := os) hp4 (.str _ size9.2.2.1) (.str k (kinds_k k hk).2) (fun z hz => by cases hz; exact (kinds_k k hk).1) (pr_mono hp fun _ _ z => z.mono eA) (by omega) (fun z x hx => (hn (by injection z) x hx).mono eA)
    have rb : ruleB (.str (Str.ofString "A")) (.str k) ts os = false := by
      unfold ruleB
      rw [pathA]
      rfl
    rw [rb] at r0
    exact q _ _ ((e1.trans e3).trans e4) r0
  · refine slice_toU (i := 2) (ev_var s6) ev_c (e _ _ ha) (by simp) H1 (Ex.refl _) _ fun p2 H3 e3 hp2 => ?_
    obtain ⟨f, fs, hf, _⟩ := kf_ok k hk
    have r0 := Ru.long (K := K) (H := H3) (a := p2) (x0 := .str m) (x1 := .str k) (rest := []) (os := []) hp2 (.str m hm) (.str k (kinds_k k hk).2) (fun z hz => by cases hz; exact (kinds_k k hk).1) .nil (by show 0 ≤ 100; decide) (fun _ x hx => by cases hx)
    rw [none_rule hf] at r0
    exact q _ _ e3 r0
end
end Bt
namespace Bt
open PySem PySem.Spec PyProof.Rows L2 Bk Bm Evl Be Cr Kr Bp Bl TL
section
variable {P : Program} {w : World} {K : PySem.W.Frag} {mg : Str → Option Value} {base : Heap} {C fI pR fG fL fE Cb Ct Cr Cx Cu : Addr}
theorem mkbook_go {t : Addr} {H : Hp} {xs : List V} {gs : List (Str × PyData)} {Q : VK} (ht : H t = some (.tup xs)) (rs : RsAt H xs gs) (k : ∀ x G, Ex H G → H x = none → BkAt G C x (.ref t) → Q (.ref x) G) :
    ∀ x dx, H x = none → H dx = none → dx ≠ x → spInit (K := K) C Cu [.ref x, .ref t] (upd (upd H dx (.own x)) x (.ins C dx [])) (fun v H2 => v = .non ∧ Q (.ref x) H2) E0 := by
  intro x dx hx hdx ne
  have e1 : Ex H (upd (upd H dx (.own x)) x (.ins C dx [])) := (Ex.new hdx).trans (Ex.new (by rw [upd_ne ne.symm]; exact hx))
  exact ⟨x, dx, .ref t, none, rfl, upd_same, (rl_good ht rs).mono e1, fun _ G1 e2 => ⟨rfl, k x _ ((e1.trans e2).mut hx) hx ⟨dx, upd_same⟩⟩, fun u z => by cases z⟩
theorem mkbook_ev {σ : L2.St} {H : Hp} {te : TE} {t : Addr} {xs : List V} {gs : List (Str × PyData)} {Q : VK} (h : Ev te σ H (.ref t)) (ht : H t = some (.tup xs)) (rs : RsAt H xs gs) (k : ∀ x G, Ex H G → BkAt G C x (.ref t) → Q (.ref x) G) :
    tMake C (spInit (K := K) C Cu) [] E0 (tCons te tNil) σ H Q := h H (Ex.refl _) _ fun H1 e => mkbook_go (e _ _ ht) (rs.mono e) fun x G eG _ hb => k x G (e.trans eG) hb
theorem scLaw : FnScope nLaw ["_law_script"] (defScope sLaw) := ⟨rfl, rfl, rfl, by decide +kernel, rfl, by decide +kernel, by decide +kernel⟩
def spLaw (K : PySem.W.Frag) : Sp := fun vs H Q _ => ∃ (a : Addr) (ns : List Int), vs = [.ref a] ∧ Sc K H a ns ∧ ∀ H', Q (.bl true) H'
theorem ok_law {f : Addr} {fd fdI : FuncData} (F : Fun K "law" "law" sLaw f fd) (T : Gv mg) (B : Bks K mg C fI pR fG fL fE)
    (FI : FnOk P w K mg base (L2.CX P w) 7 fI fdI ["self", "rules"] (spInit (K := K) C Cu)) (bI : Binds K fdI ["self", "rules"] [])
    (cT : Cal P w K mg base CX0 1 "_law_taken" ["_law_row", "_law_many"] (spTaken (K := K))) (cO : Cal P w K mg base CX0 2 "_law_one" ["_law_row", "_law_things"] (spOne (K := K))) (cOT : Cal P w K mg base CX0 2 "_law_one" ["_law_row", "_law_things"] (spOneT (K := K)))
    (cRs : Cal P w K mg base CX0 4 "_law_rules" ["_law_row", "_law_most"] (spRulesL (K := K))) (cTr : Cal P w K mg base CX0 4 "_law_tree" ["_law_row"] (spTree (K := K))) (cD : Cal P w K mg base CX0 3 "_law_odd_tree" ["_law_row", "_law_tree_here"] (spOddT (K := K)))
    (cR : Cal P w K mg base CX0 10 "_law_refused" ["_law_kind", "_law_book", "_law_tree_here", "_law_rule_here", "_law_record"] (spRef K C Cb Ct Cr Cx)) : FnOk P w K mg base CX0 11 f fd ["_law_script"] (spLaw K) := by
  refine F.ok scLaw (fun vs H Q E h => ?_) (fun cdv A outer s H vs Q E hr h => ?_)
  · obtain ⟨a, ns, rfl, _⟩ := h
    rfl
  · obtain ⟨a, ns, rfl, sc, k⟩ := h
    have hr1 : Room 1 _ := hr.mono (by decide)
    have hr2 : Room 2 _ := hr.mono (by decide)
    have hr3 : Room 3 _ := hr.mono (by decide)
    have hr4 : Room 4 _ := hr.mono (by decide)
    have hr8 : Room 8 _ := hr.mono (by decide)
    have hu : (A.deeper (envOfC "law" (defScope sLaw) s.heap.objs.size f cdv)).units + 64 < cLine := by have := hr.un; omega
    refine ⟨_, pss_cons (ps_set (i := 1) scLaw.nd rfl (Or.inl rfl) (pe_lst (pa_cons (pv 0) (pa_cons pe_int (pa_cons pe_int (pa_cons pe_int pa_nil))))))
      (pss_cons (ps_for PassesOwn.never rfl (pi_range1 (by rfl) T.rng (pa_cons pe_int pa_nil)) (pg_name (i := 2) scLaw.nd rfl (Or.inl rfl))
        (pss_cons (ps_par (i := 3) (j := 4) rfl scLaw.nd rfl rfl (by decide) rfl rfl (pa_cons (pe_call cRs.F hr4 (by rfl) cRs.g cRs.kp cRs.b .nil pass0 (pa_cons (pv 1) (pa_cons pe_int pa_nil))) (pa_cons (pe_call cTr.F hr4 (by rfl) cTr.g cTr.kp cTr.b .nil pass0 (pa_cons (pv 1) pa_nil)) pa_nil)) rfl)
        (pss_cons (ps_par (i := 5) (j := 6) rfl scLaw.nd rfl rfl (by decide) rfl rfl (pa_cons (pe_make B.mkr FI hr8 (by rfl) B.g bI .nil (lets (E := E0) takes0) (pa_cons (pv 3) pa_nil)) (pa_cons (pe_call cOT.F hr2 (by rfl) cOT.g cOT.kp cOT.b .nil pass0 (pa_cons (pv 1) (pa_cons (pv 3) pa_nil))) pa_nil)) rfl)
        (pss_cons (ps_par (i := 7) (j := 8) rfl scLaw.nd rfl rfl (by decide) rfl rfl (pa_cons (pe_ix (r := rIxL K) ix_list (pe_lst (pa_cons pe_non (pa_cons (pv 3) (pa_cons pe_int (pa_cons pe_bl (pa_cons pe_str (pa_cons pe_dnewK pa_nil))))))) (pe_call cT.F hr1 (by rfl) cT.g cT.kp cT.b .nil pass0 (pa_cons (pv 1) (pa_cons pe_int pa_nil))) (fun _ _ => rfl)) (pa_cons (pe_call cT.F hr1 (by rfl) cT.g cT.kp cT.b .nil pass0 (pa_cons (pv 1) (pa_cons pe_int pa_nil))) pa_nil)) rfl)
        (pss_cons (ps_asg (pe_call cD.F hr3 (by rfl) cD.g cD.kp cD.b .nil pass0 (pa_cons (pv 1) (pa_cons (pv 4) pa_nil))) (pg_lst rfl (pgs_cons (pg_name (i := 9) scLaw.nd rfl (Or.inl rfl)) (pgs_cons (pg_name (i := 10) scLaw.nd rfl (Or.inl rfl)) pgs_nil))))
        (pss_cons (ps_set (i := 11) scLaw.nd rfl (Or.inl rfl) (pe_call cO.F hr2 (by rfl) cO.g cO.kp cO.b .nil pass0 (pa_cons (pv 1) (pa_cons (pe_lst (pa_cons pe_non (pa_cons (pe_tup (pa_cons (pe_ix (r := rIxT K) ix_tup (pv 6) pe_int (fun _ _ => rfl)) (pa_cons pe_str pa_nil))) (pa_cons (pe_callTy call_list_of (by rfl) T.lst (by decide +kernel) (pa_cons (pv 6) pa_nil))
          (pa_cons (pe_op op_catA (pe_tup (pa_cons pe_str pa_nil)) (pe_slice sl_tupA (pv 6) (po_some pe_int) po_none)) (pa_cons pe_int (pa_cons pe_str (pa_cons (pe_slice sl_tupA (pv 6) po_none (po_some pe_int)) pa_nil)))))))) pa_nil))))
        (pss_cons (ps_set (i := 12) scLaw.nd rfl (Or.inl rfl) (pe_call cO.F hr2 (by rfl) cO.g cO.kp cO.b .nil pass0 (pa_cons (pv 1) (pa_cons (pe_lst (pa_cons pe_non (pa_cons pe_int (pa_cons pe_str (pa_cons (pe_lst (pa_cons (pe_tup (pa_cons pe_str (pa_cons pe_str pa_nil))) pa_nil)) (pa_cons (pe_tup (pa_cons pe_non pa_nil)) (pa_cons (pe_tup (pa_cons (pe_tup (pa_cons pe_str (pa_cons pe_str pa_nil))) pa_nil))
          (pa_cons pe_dnewK (pa_cons pe_bl pa_nil))))))))) pa_nil))))
        (pss_cons (ps_if (pt_cmpR op_ne (pe_call cR.F hr (by rfl) cR.g cR.kp cR.b .nil pass0 (pa_cons (pv 8) (pa_cons (pv 7) (pa_cons (pv 9) (pa_cons (pv 11) (pa_cons (pv 12) pa_nil)))))) pe_str (nomark _)) (pss_one (ps_ret pe_bl)) pss_nil)
        (pss_cons (ps_if (pt_cmpR (op_neD hu) (pe_call cR.F hr (by rfl) cR.g cR.kp cR.b .nil pass0 (pa_cons (pv 8) (pa_cons (pv 5) (pa_cons (pv 9) (pa_cons (pv 11) (pa_cons (pv 12) pa_nil)))))) (pe_lst (pa_cons pe_str (pa_cons (pv 10) pa_nil))) (nomark _)) (pss_one (ps_ret pe_bl)) pss_nil)
        (pss_cons (ps_if (pt_cmpR op_ne (pe_call cR.F hr (by rfl) cR.g cR.kp cR.b .nil pass0 (pa_cons (pv 8) (pa_cons (pv 5) (pa_cons (pv 4) (pa_cons (pv 11) (pa_cons (pv 12) pa_nil)))))) pe_str (nomark _)) (pss_one (ps_ret pe_bl)) pss_nil)
        (pss_one (ps_if (pt_cmpR op_ne (pe_call cR.F hr (by rfl) cR.g cR.kp cR.b .nil pass0 (pa_cons (pv 8) (pa_cons (pv 5) (pa_cons (pv 4) (pa_cons (pv 6) (pa_cons (pv 12) pa_nil)))))) pe_str (nomark _)) (pss_one (ps_ret pe_bl)) pss_nil))))))))))))
      (pss_one (ps_ret pe_bl))), ?_⟩
    refine q_asgL (xs := rowL a 0 1014 0) (el_lst (ea_cons (ev_var rfl) (ea_cons ev_c (ea_cons ev_c (ea_cons ev_c ea_nil)))) (by show 4 ≤ 100000; decide)) fun r H1 hr0 e1 h1 => ?_
    have row1 : Row K H1 r := ⟨a, 0, 1014, 0, ns, h1, sc.ex e1, Int.le_refl _⟩
    refine ⟨6, rfl, by decide, by decide, for_range (lo := 0) (n := (6 : Int).toNat) (fun i τ G => ∃ (u2 u3 u4 u5 u6 u7 u8 u9 u10 u11 u12 : Option V), τ = [some (.ref a), some (.ref r), u2, u3, u4, u5, u6, u7, u8, u9, u10, u11, u12] ∧ Row K G r)
      ⟨none, none, none, none, none, none, none, none, none, none, none, rfl, row1⟩ ?_ (fun τ G _ => k G)⟩
    rintro i τ G0 hi ⟨u2, u3, u4, u5, u6, u7, u8, u9, u10, u11, u12, rfl, row⟩
    -- rules and a tree
    refine parq_raw ⟨_, rfl, r, rfl, row, fun t xs gs G1 d1 hfree ht1 rs1 hpos => ⟨_, rfl, r, rfl, d1.row, fun q zs fs G2 d2 hfree2 hq2 pf2 okt => ⟨_, _, rfl, ?_⟩⟩⟩
    show tSeq (tPar 5 6 _) _ _ ([some (.ref a), some (.ref r), some (.int (0 + (i : Nat))), some (.ref t), some (.ref q), u5, u6, u7, u8, u9, u10, u11, u12] : L2.St) G2
    have rs2 := rs1.dr d1.row d2
    have ht2 := tup_dr ht1 d1.row d2
    have row2 := d2.row
    clear rs1 ht1 d1 d2 hfree hfree2
    have hlen := pr_len rs2.1
    have h5 := rs2.2.2
    -- a book, a rule of it
    refine parq_raw (cons_raw (mkbook_ev (ev_var rfl) ht2 rs2 fun bk G3 e3 hb3 => ?_))
    have row3 := row2.ex e3
    refine ⟨_, rfl, _, rfl, r, t, xs, rfl, row3, e3 _ _ ht2, by omega, by omega, fun rv G4 hv d4 => ⟨_, _, rfl, ?_⟩⟩
    show tSeq (tPar 7 8 _) _ _ ([some (.ref a), some (.ref r), some (.int (0 + (i : Nat))), some (.ref t), some (.ref q), some (.ref bk), some rv, u7, u8, u9, u10, u11, u12] : L2.St) G4
    obtain ⟨n, hn⟩ := List.getElem?_of_mem hv
    obtain ⟨g, _, hg2⟩ := pr_get rs2.1 hn
    have hg4 : Good G4 rv g := (hg2.mono e3).dr row3 d4
    have hb4 := BkAt.dr hb3 row3 d4
    have ht4 := tup_dr (e3 _ _ ht2) row3 d4
    have hq4 := tup_dr (e3 _ _ hq2) row3 d4
    obtain ⟨rl3, hrl3⟩ := row3.at
    have pf4 : Paired (FileAt G4) zs fs := paired_mono (paired_mono pf2 fun _ _ z => z.mono e3) fun _ _ z => FileAt.kp z hrl3 d4.kp
    have row4 := d4.row
    clear hg2 hb3 hq2 pf2 hrl3 rl3 ht2
    -- what is no book, a kind
    refine parq_raw (cons_raw (ixP (K := K) (F := NB K) (fun h e => NB.mono h e) (fun h r d => NB.dr h r d) (ev_var rfl) (bad_list rfl ht4) row4 (by decide) (by decide) fun bad G5 hbad d5 => ?_))
    refine cons_raw (draw (m := 3) (ev_var rfl) ev_c d5.row (by decide) (by decide) fun kd G6 hk0 hk3 d6 => ⟨_, _, rfl, ?_⟩)
    show tSeq (tAsg _ _) _ _ ([some (.ref a), some (.ref r), some (.int (0 + (i : Nat))), some (.ref t), some (.ref q), some (.ref bk), some rv, some bad, some (.int kd), u9, u10, u11, u12] : L2.St) G6
    have d56 := d5.trans d6
    have hbad6 := hbad.dr d5.row d6
    have hg6 := hg4.dr row4 d56
    have hb6 := BkAt.dr hb4 row4 d56
    have hq6 := tup_dr hq4 row4 d56
    obtain ⟨rl4, hrl4⟩ := row4.at
    have pf6 : Paired (FileAt G6) zs fs := paired_mono pf4 fun _ _ z => FileAt.kp z hrl4 d56.kp
    have row6 := d6.row
    clear hbad hg4 hb4 hq4 pf4 hrl4 rl4 ht4
    -- a spoilt tree
    refine ⟨_, rfl, _, rfl, r, q, zs, fs, rfl, row6, hq6, pf6, okt, fun l wr u G7 d7 hl7 tr7 hu7 => ⟨l, _, rfl, sq_of hl7, rfl, _, _, rfl, _, _, rfl, rfl, ?_⟩⟩
    dsimp only
    show tSeq (tAsg _ _) _ _ ([some (.ref a), some (.ref r), some (.int (0 + (i : Nat))), some (.ref t), some (.ref q), some (.ref bk), some rv, some bad, some (.int kd), some wr, some u, u11, u12] : L2.St) G7
    have tree6 : Tr K G6 (.ref q) none := good_tr hq6 pf6 okt
    have tree7 := Tr.dr tree6 row6 d7
    have hbad7 := hbad6.dr row6 d7
    have hg7 := hg6.dr row6 d7
    have hb7 := BkAt.dr hb6 row6 d7
    have row7 := d7.row
    clear tree6 hbad6 hg6 hb6 hq6 pf6 hl7
    obtain ⟨ra, rfl, nr7, ru7, m, kk, ts, os, hra, hkk, hth, hts, _, hml, hnm⟩ := good_nr (K := K) hg7
    -- what is no rule
    refine q_raw (drawP (K := K) (F := fun H v => Ru K H v false) (fun h e => Ru.mono e h) (fun h r d => Ru.dr h r d) (ev_var rfl) (rule_list rfl hra hkk hth hts hml hnm) row7 (by decide) (by decide) fun odd G8 hodd8 d8 => ?_)
    show tSeq (tAsg _ _) _ _ ([some (.ref a), some (.ref r), some (.int (0 + (i : Nat))), some (.ref t), some (.ref q), some (.ref bk), some (.ref ra), some bad, some (.int kd), some wr, some u, some odd, u12] : L2.St) G8
    refine q_raw (drawP (K := K) (F := Rv K) (fun h e => Rv.mono e h) (fun h r d => Rv.dr h r d) (ev_var rfl) val_list d8.row (by decide) (by decide) fun val G9 hval9 d9 => ?_)
    show tSeq (tIfS _ _ _) _ _ ([some (.ref a), some (.ref r), some (.int (0 + (i : Nat))), some (.ref t), some (.ref q), some (.ref bk), some (.ref ra), some bad, some (.int kd), some wr, some u, some odd, some val] : L2.St) G9
    have d89 := d8.trans d9
    have hodd9 := Ru.dr hodd8 d8.row d9
    have tree9 := Tr.dr tree7 row7 d89
    have tr9 := Tr.dr tr7 row7 d89
    have hbad9 := hbad7.dr row7 d89
    have hb9 := BkAt.dr hb7 row7 d89
    obtain ⟨ra', hra', nr9, ru9, _⟩ := good_nr (K := K) (hg7.dr row7 d89)
    cases hra'
    have row9 := d9.row
    clear hodd8 tree7 tr7 hbad7 hb7 hg7 nr7 ru7 hra hth hnm
    obtain ⟨dU, dp, shp, eqq⟩ := told (K := K) hu7
    obtain ⟨nb, hnb⟩ := hbad9
    -- 1
    refine ⟨_, rfl, _, rfl, _, rfl, _, rfl, _, rfl, kd, bad, wr, odd, val, Cb, none, rfl, hk0, hk3, .book hnb, .inl ⟨rfl, fun G10 e10 => ⟨rfl, _, rfl, iteF ?_⟩⟩⟩
    -- 2
    refine ⟨_, rfl, _, rfl, _, rfl, _, rfl, _, rfl, kd, .ref bk, wr, odd, val, Ct, some u, rfl, hk0, hk3, .tree (hb9.mono e10) (tr9.mono e10), rfl, fun l2 G11 e11 hl2 => ⟨_, rfl, by show 2 ≤ sizeLine; decide, fun l3 hl3 => ?_⟩⟩
    have e12 : Ex G11 (upd G11 l3 (.lst [.str (Str.ofString "tree"), u])) := Ex.new hl3
    refine ⟨_, _, .lst (SqL.of (e12 _ _ hl2)) (.cons (.str _) (.cons (dp _) .nil)), .lst (SqL.of upd_same) (.cons (.str _) (.cons (dp _) .nil)), shp, shp, _, rfl, ?_⟩
    rw [eqq]
    refine iteF ?_
    have eA := (e10.trans e11).trans e12
    have hbA := hb9.mono eA
    have treeA := tree9.mono eA
    have hoddA := Ru.mono eA hodd9
    have nrA := nr9.mono eA
    have ruA := Ru.mono eA ru9
    have hvalA := hval9.mono eA
    have rowA := row9.ex eA
    generalize upd G11 l3 (.lst [.str (Str.ofString "tree"), u]) = GA at hbA treeA hoddA nrA ruA hvalA rowA ⊢
    -- 3
    refine ⟨_, rfl, _, rfl, _, rfl, _, rfl, _, rfl, kd, .ref bk, .ref q, odd, val, Cr, none, rfl, hk0, hk3, .rule hbA treeA hoddA, .inr (.inl ⟨rfl, fun GB eB => ⟨rfl, _, rfl, iteF ?_⟩⟩)⟩
    -- 4
    refine ⟨_, rfl, _, rfl, _, rfl, _, rfl, _, rfl, kd, .ref bk, .ref q, .ref ra, val, Cx, none, rfl, hk0, hk3, .record (hbA.mono eB) (treeA.mono eB) (Ru.mono eB ruA) (nrA.mono eB) (hvalA.mono eB), .inr (.inr ⟨rfl, fun GC eC => ⟨rfl, _, rfl, iteF ?_⟩⟩)⟩
    exact ⟨_, _, _, _, _, _, _, _, _, _, _, rfl, rowA.ex (eB.trans eC)⟩
end
end Bt
namespace Bt
open PySem PySem.Spec PyProof.Rows L2 Bk Bm Evl Be Cr Kr Bp Bl TL
theorem exm_at {K : PySem.W.Frag} {S T : Addr} {b : Bool} (h1 : PySem.W.subIn K (.ref T) (.type "BaseException") = some true) (h2 : PySem.W.isClsIn K T = true) (h3 : PySem.W.typeIn K (.ref T) = some (.type "type")) (h4 : PySem.W.subIn K (.ref S) (.ref T) = some b) :
    PySem.W.exmOne K (.ref S) (.ref T) = some b := by
  have e1 : (PySem.W.subIn K (.ref T) (.type "BaseException") == some true) = true := by
    rw [h1]
    rfl
  have e2 : ((PySem.W.clsIn K T).isSome && PySem.W.typeIn K (.ref T) == some (.type "type")) = true := by
    have h2' : (PySem.W.clsIn K T).isSome = true := h2
    rw [h2', h3]
    rfl
  show (if (PySem.W.subIn K (.ref T) (.type "BaseException") == some true) = true then (if ((PySem.W.clsIn K T).isSome && PySem.W.typeIn K (.ref T) == some (.type "type")) = true then PySem.W.subIn K (.ref S) (.ref T) else none) else none) = some b
  rw [if_pos e1, if_pos e2]
  exact h4
theorem kt_at {K : PySem.W.Frag} {T : Addr} (h2 : PySem.W.isClsIn K T = true) (h3 : PySem.W.typeIn K (.ref T) = some (.type "type")) (h4 : PySem.W.subIn K (.type "tuple") (.ref T) = some false) : PySem.W.kitOne K (.type "tuple") (.ref T) = some false := by
  have e2 : ((PySem.W.clsIn K T).isSome && PySem.W.typeIn K (.ref T) == some (.type "type")) = true := by
    have h2' : (PySem.W.clsIn K T).isSome = true := h2
    rw [h2', h3]
    rfl
  show (if (Value.type "tuple" == Value.ref T) = true then some true else (if ((PySem.W.clsIn K T).isSome && PySem.W.typeIn K (.ref T) == some (.type "type")) = true then PySem.W.subIn K (.type "tuple") (.ref T) else none)) = some false
  rw [if_neg (by simp), if_pos e2]
  exact h4
theorem nf_at {K : PySem.W.Frag} {T : Addr} (h4 : PySem.W.subIn K (.type "tuple") (.ref T) = some false) : PySem.W.notFirst K T (.type "tuple") = true := by
  unfold PySem.W.notFirst
  rw [h4]
  simp
/-- a written tuple of texts -/
theorem sqK {K : PySem.W.Frag} {t : Addr} {od : Option Addr} {its : Array Value} {n : Nat} {sl : Array (Option Value)} {fs : List Str} (h : K.lookup t = some ⟨.type "tuple", od, .seq its n, sl⟩) (hv : Vals (fs.map V.str) its.toList) (hl : fs.length ≤ 100) : ∀ H, SqT K H t (fs.map V.str) := fun H => by
  refine .inr ⟨_, its, n, h, rfl, rfl, sz_of ?_, hv⟩
  have := hv.length
  rw [List.length_map] at this
  have e : its.size = its.toList.length := by simp
  omega
section
variable {l : PySem.W.OpenLaw} {w : World} {K : PySem.W.Frag} {h : Heap} {mg : Str → Option Value}
theorem all_mk {fa C Cu Ct Cb Cr Cx pR fI fG fL fE fX fW D f0 f1 f2 f3 f4 f5 f6 f7 f8 f9 f10 f11 f12 f13 f14 f15 f16 f17 f18 f19 f20 f21 f22 f23 f24 f25 f26 f27 f28 f29 f30 f31 f32 f33 f34 f35 f36 t0 t1 t2 t3 t4 t5 t6 t7 : Addr} {odI anI odG anG odX anX odW anW od0 an0 od1 an1 od2 an2 od3 an3 od4 an4 od5 an5 od6 an6 od7 an7 od8 an8 od9 an9 od10 an10 od11 an11 od12 an12 od13 an13 od14 an14 od15 an15 od16 an16 od17 an17 od18 an18 od19 an19 od20 an20 od21 an21 od22 an22 od23 an23 od24 an24 od25 an25 od26 an26 od27 an27 od28 an28 od29 an29 od30 an30 od31 an31 od32 an32 od33 an33 od34 an34 od35 an35 od36 an36 td0 td1 td2 td3 td4 td5 td6 td7 : Option Addr} {slI slG slX slW sl0 sl1 sl2 sl3 sl4 sl5 sl6 sl7 sl8 sl9 sl10 sl11 sl12 sl13 sl14 sl15 sl16 sl17 sl18 sl19 sl20 sl21 sl22 sl23 sl24 sl25 sl26 sl27 sl28 sl29 sl30 sl31 sl32 sl33 sl34 sl35 sl36 ts0 ts1 ts2 ts3 ts4 ts5 ts6 ts7 : Array (Option Value)} {ocI kVI dcI pmI cdI ctI ocG kVG dcG pmG cdG ctG ocX kVX dcX pmX cdX ctX ocW kVW dcW pmW cdW ctW oc0 kV0 dc0 pm0 cd0 ct0 oc1 kV1 dc1 pm1 cd1 ct1 oc2 kV2 dc2 pm2 cd2 ct2 oc3 kV3 dc3 pm3 cd3 ct3 oc4 kV4 dc4 pm4 cd4 ct4 oc5 kV5 dc5 pm5 cd5 ct5 oc6 kV6 dc6 pm6 cd6 ct6 oc7 kV7 dc7 pm7 cd7 ct7 oc8 kV8 dc8 pm8 cd8 ct8 oc9 kV9 dc9 pm9 cd9 ct9 oc10 kV10 dc10 pm10 cd10 ct10 oc11 kV11 dc11 pm11 cd11 ct11 oc12 kV12 dc12 pm12 cd12 ct12 oc13 kV13 dc13 pm13 cd13 ct13 oc14 kV14 dc14 pm14 cd14 ct14 oc15 kV15 dc15 pm15 cd15 ct15 oc16 kV16 dc16 pm16 cd16 ct16 oc17 kV17 dc17 pm17 cd17 ct17 oc18 kV18 dc18 pm18 cd18 ct18 oc19 kV19 dc19 pm19 cd19 ct19 oc20 kV20 dc20 pm20 cd20 ct20 oc21 kV21 dc21 pm21 cd21 ct21 oc22 kV22 dc22 pm22 cd22 ct22 oc23 kV23 dc23 pm23 cd23 ct23 oc24 kV24 dc24 pm24 cd24 ct24 oc25 kV25 dc25 pm25 cd25 ct25 oc26 kV26 dc26 pm26 cd26 ct26 oc27 kV27 dc27 pm27 cd27 ct27 oc28 kV28 dc28 pm28 cd28 ct28 oc29 kV29 dc29 pm29 cd29 ct29 oc30 kV30 dc30 pm30 cd30 ct30 oc31 kV31 dc31 pm31 cd31 ct31 oc32 kV32 dc32 pm32 cd32 ct32 oc33 kV33 dc33 pm33 cd33 ct33 oc34 kV34 dc34 pm34 cd34 ct34 oc35 kV35 dc35 pm35 cd35 ct35 oc36 kV36 dc36 pm36 cd36 ct36 : Value} {nmT qT nmW qW : Str} {NT NW : Addr} {bsT bmT bsW bmW restR : List Value} {snT snW : List Str} {subT subW : List Value} {abT abW : Bool} {colT colW : Option Bool} {ddT ddW : Option Addr} {m0 m1 m2 m3 m5 w0 w1 w2 w3 w5 : Option Value} {tk0 tk1 tk2 tk3 tk4 tk5 tk6 : Tok} {esD : Array DictEntry} {nD tn0 tn1 tn2 tn3 tn4 tn5 tn6 tn7 : Nat} {ti0 ti1 ti2 ti3 ti4 ti5 ti6 ti7 : Array Value} (X : K.In h) (G : h.Ns mainGlobals mg) (hfa : mg "law" = some (.ref fa))
    (a0 : PySem.W.nsIn K mainGlobals "is_name" = some (some (.ref f0)))
    (l0 : K.lookup f0 = some ⟨oc0, od0, .func (PySem.W.fnOf "is_name" "is_name" (defArgs sIsName) (defBody sIsName) (defScope sIsName) .none kV0 dc0 pm0 an0 cd0 ct0), sl0⟩)
    (c0 : PySem.W.codeIn K cd0 "is_name" = true)
    (k0 : PySem.W.keepIn K (.ref f0) = true)
    (a1 : PySem.W.nsIn K mainGlobals "is_path" = some (some (.ref f1)))
    (l1 : K.lookup f1 = some ⟨oc1, od1, .func (PySem.W.fnOf "is_path" "is_path" (defArgs sIsPath) (defBody sIsPath) (defScope sIsPath) .none kV1 dc1 pm1 an1 cd1 ct1), sl1⟩)
    (c1 : PySem.W.codeIn K cd1 "is_path" = true)
    (k1 : PySem.W.keepIn K (.ref f1) = true)
    (a2 : PySem.W.nsIn K mainGlobals "is_folder" = some (some (.ref f2)))
    (l2 : K.lookup f2 = some ⟨oc2, od2, .func (PySem.W.fnOf "is_folder" "is_folder" (defArgs sIsFolder) (defBody sIsFolder) (defScope sIsFolder) .none kV2 dc2 pm2 an2 cd2 ct2), sl2⟩)
    (c2 : PySem.W.codeIn K cd2 "is_folder" = true)
    (k2 : PySem.W.keepIn K (.ref f2) = true)
    (a3 : PySem.W.nsIn K mainGlobals "has_signs" = some (some (.ref f3)))
    (l3 : K.lookup f3 = some ⟨oc3, od3, .func (PySem.W.fnOf "has_signs" "has_signs" (defArgs sHas) (defBody sHas) (defScope sHas) .none kV3 dc3 pm3 an3 cd3 ct3), sl3⟩)
    (c3 : PySem.W.codeIn K cd3 "has_signs" = true)
    (k3 : PySem.W.keepIn K (.ref f3) = true)
    (a4 : PySem.W.nsIn K mainGlobals "is_text" = some (some (.ref f4)))
    (l4 : K.lookup f4 = some ⟨oc4, od4, .func (PySem.W.fnOf "is_text" "is_text" (defArgs sIsText) (defBody sIsText) (defScope sIsText) .none kV4 dc4 pm4 an4 cd4 ct4), sl4⟩)
    (c4 : PySem.W.codeIn K cd4 "is_text" = true)
    (k4 : PySem.W.keepIn K (.ref f4) = true)
    (a5 : PySem.W.nsIn K mainGlobals "is_file" = some (some (.ref f5)))
    (l5 : K.lookup f5 = some ⟨oc5, od5, .func (PySem.W.fnOf "is_file" "is_file" (defArgs sIsFile) (defBody sIsFile) (defScope sIsFile) .none kV5 dc5 pm5 an5 cd5 ct5), sl5⟩)
    (c5 : PySem.W.codeIn K cd5 "is_file" = true)
    (k5 : PySem.W.keepIn K (.ref f5) = true)
    (a6 : PySem.W.nsIn K mainGlobals "lies_within" = some (some (.ref f6)))
    (l6 : K.lookup f6 = some ⟨oc6, od6, .func (PySem.W.fnOf "lies_within" "lies_within" (defArgs sLies) (defBody sLies) (defScope sLies) .none kV6 dc6 pm6 an6 cd6 ct6), sl6⟩)
    (c6 : PySem.W.codeIn K cd6 "lies_within" = true)
    (k6 : PySem.W.keepIn K (.ref f6) = true)
    (a7 : PySem.W.nsIn K mainGlobals "in_the_way" = some (some (.ref f7)))
    (l7 : K.lookup f7 = some ⟨oc7, od7, .func (PySem.W.fnOf "in_the_way" "in_the_way" (defArgs sWay) (defBody sWay) (defScope sWay) .none kV7 dc7 pm7 an7 cd7 ct7), sl7⟩)
    (c7 : PySem.W.codeIn K cd7 "in_the_way" = true)
    (k7 : PySem.W.keepIn K (.ref f7) = true)
    (a8 : PySem.W.nsIn K mainGlobals "may_follow" = some (some (.ref f8)))
    (l8 : K.lookup f8 = some ⟨oc8, od8, .func (PySem.W.fnOf "may_follow" "may_follow" (defArgs sFollow) (defBody sFollow) (defScope sFollow) .none kV8 dc8 pm8 an8 cd8 ct8), sl8⟩)
    (c8 : PySem.W.codeIn K cd8 "may_follow" = true)
    (k8 : PySem.W.keepIn K (.ref f8) = true)
    (a9 : PySem.W.nsIn K mainGlobals "check_tree" = some (some (.ref f9)))
    (l9 : K.lookup f9 = some ⟨oc9, od9, .func (PySem.W.fnOf "check_tree" "check_tree" (defArgs sCkTree) (defBody sCkTree) (defScope sCkTree) .none kV9 dc9 pm9 an9 cd9 ct9), sl9⟩)
    (c9 : PySem.W.codeIn K cd9 "check_tree" = true)
    (k9 : PySem.W.keepIn K (.ref f9) = true)
    (a10 : PySem.W.nsIn K mainGlobals "is_word" = some (some (.ref f10)))
    (l10 : K.lookup f10 = some ⟨oc10, od10, .func (PySem.W.fnOf "is_word" "is_word" (defArgs sIsWord) (defBody sIsWord) (defScope sIsWord) .none kV10 dc10 pm10 an10 cd10 ct10), sl10⟩)
    (c10 : PySem.W.codeIn K cd10 "is_word" = true)
    (k10 : PySem.W.keepIn K (.ref f10) = true)
    (a11 : PySem.W.nsIn K mainGlobals "fits" = some (some (.ref f11)))
    (l11 : K.lookup f11 = some ⟨oc11, od11, .func (PySem.W.fnOf "fits" "fits" (defArgs sFits) (defBody sFits) (defScope sFits) .none kV11 dc11 pm11 an11 cd11 ct11), sl11⟩)
    (c11 : PySem.W.codeIn K cd11 "fits" = true)
    (k11 : PySem.W.keepIn K (.ref f11) = true)
    (a12 : PySem.W.nsIn K mainGlobals "is_rule" = some (some (.ref f12)))
    (l12 : K.lookup f12 = some ⟨oc12, od12, .func (PySem.W.fnOf "is_rule" "is_rule" (defArgs sIsRule) (defBody sIsRule) (defScope sIsRule) .none kV12 dc12 pm12 an12 cd12 ct12), sl12⟩)
    (c12 : PySem.W.codeIn K cd12 "is_rule" = true)
    (k12 : PySem.W.keepIn K (.ref f12) = true)
    (a13 : PySem.W.nsIn K mainGlobals "check_rules" = some (some (.ref f13)))
    (l13 : K.lookup f13 = some ⟨oc13, od13, .func (PySem.W.fnOf "check_rules" "check_rules" (defArgs sCkRules) (defBody sCkRules) (defScope sCkRules) .none kV13 dc13 pm13 an13 cd13 ct13), sl13⟩)
    (c13 : PySem.W.codeIn K cd13 "check_rules" = true)
    (k13 : PySem.W.keepIn K (.ref f13) = true)
    (a14 : PySem.W.nsIn K mainGlobals "check_book" = some (some (.ref f14)))
    (l14 : K.lookup f14 = some ⟨oc14, od14, .func (PySem.W.fnOf "check_book" "check_book" (defArgs sCkBook) (defBody sCkBook) (defScope sCkBook) .none kV14 dc14 pm14 an14 cd14 ct14), sl14⟩)
    (c14 : PySem.W.codeIn K cd14 "check_book" = true)
    (k14 : PySem.W.keepIn K (.ref f14) = true)
    (a15 : PySem.W.nsIn K mainGlobals "is_stopped" = some (some (.ref f15)))
    (l15 : K.lookup f15 = some ⟨oc15, od15, .func (PySem.W.fnOf "is_stopped" "is_stopped" (defArgs sStopped) (defBody sStopped) (defScope sStopped) .none kV15 dc15 pm15 an15 cd15 ct15), sl15⟩)
    (c15 : PySem.W.codeIn K cd15 "is_stopped" = true)
    (k15 : PySem.W.keepIn K (.ref f15) = true)
    (a16 : PySem.W.nsIn K mainGlobals "places_known" = some (some (.ref f16)))
    (l16 : K.lookup f16 = some ⟨oc16, od16, .func (PySem.W.fnOf "places_known" "places_known" (defArgs sPlaces) (defBody sPlaces) (defScope sPlaces) .none kV16 dc16 pm16 an16 cd16 ct16), sl16⟩)
    (c16 : PySem.W.codeIn K cd16 "places_known" = true)
    (k16 : PySem.W.keepIn K (.ref f16) = true)
    (a17 : PySem.W.nsIn K mainGlobals "next_place" = some (some (.ref f17)))
    (l17 : K.lookup f17 = some ⟨oc17, od17, .func (PySem.W.fnOf "next_place" "next_place" (defArgs sNext) (defBody sNext) (defScope sNext) .none kV17 dc17 pm17 an17 cd17 ct17), sl17⟩)
    (c17 : PySem.W.codeIn K cd17 "next_place" = true)
    (k17 : PySem.W.keepIn K (.ref f17) = true)
    (a18 : PySem.W.nsIn K mainGlobals "is_look_at" = some (some (.ref f18)))
    (l18 : K.lookup f18 = some ⟨oc18, od18, .func (PySem.W.fnOf "is_look_at" "is_look_at" (defArgs sIsLook) (defBody sIsLook) (defScope sIsLook) .none kV18 dc18 pm18 an18 cd18 ct18), sl18⟩)
    (c18 : PySem.W.codeIn K cd18 "is_look_at" = true)
    (k18 : PySem.W.keepIn K (.ref f18) = true)
    (a19 : PySem.W.nsIn K mainGlobals "is_record" = some (some (.ref f19)))
    (l19 : K.lookup f19 = some ⟨oc19, od19, .func (PySem.W.fnOf "is_record" "is_record" (defArgs sIsRec) (defBody sIsRec) (defScope sIsRec) .none kV19 dc19 pm19 an19 cd19 ct19), sl19⟩)
    (c19 : PySem.W.codeIn K cd19 "is_record" = true)
    (k19 : PySem.W.keepIn K (.ref f19) = true)
    (a20 : PySem.W.nsIn K mainGlobals "check_rule" = some (some (.ref f20)))
    (l20 : K.lookup f20 = some ⟨oc20, od20, .func (PySem.W.fnOf "check_rule" "check_rule" (defArgs sCkRule) (defBody sCkRule) (defScope sCkRule) .none kV20 dc20 pm20 an20 cd20 ct20), sl20⟩)
    (c20 : PySem.W.codeIn K cd20 "check_rule" = true)
    (k20 : PySem.W.keepIn K (.ref f20) = true)
    (a21 : PySem.W.nsIn K mainGlobals "check_record" = some (some (.ref f21)))
    (l21 : K.lookup f21 = some ⟨oc21, od21, .func (PySem.W.fnOf "check_record" "check_record" (defArgs sCkRec) (defBody sCkRec) (defScope sCkRec) .none kV21 dc21 pm21 an21 cd21 ct21), sl21⟩)
    (c21 : PySem.W.codeIn K cd21 "check_record" = true)
    (k21 : PySem.W.keepIn K (.ref f21) = true)
    (a22 : PySem.W.nsIn K mainGlobals "looks_now" = some (some (.ref f22)))
    (l22 : K.lookup f22 = some ⟨oc22, od22, .func (PySem.W.fnOf "looks_now" "looks_now" (defArgs sLooks) (defBody sLooks) (defScope sLooks) .none kV22 dc22 pm22 an22 cd22 ct22), sl22⟩)
    (c22 : PySem.W.codeIn K cd22 "looks_now" = true)
    (k22 : PySem.W.keepIn K (.ref f22) = true)
    (a23 : PySem.W.nsIn K mainGlobals "first_changed" = some (some (.ref f23)))
    (l23 : K.lookup f23 = some ⟨oc23, od23, .func (PySem.W.fnOf "first_changed" "first_changed" (defArgs sFirst) (defBody sFirst) (defScope sFirst) .none kV23 dc23 pm23 an23 cd23 ct23), sl23⟩)
    (c23 : PySem.W.codeIn K cd23 "first_changed" = true)
    (k23 : PySem.W.keepIn K (.ref f23) = true)
    (a24 : PySem.W.nsIn K mainGlobals "replays" = some (some (.ref f24)))
    (l24 : K.lookup f24 = some ⟨oc24, od24, .func (PySem.W.fnOf "replays" "replays" (defArgs sReplays) (defBody sReplays) (defScope sReplays) .none kV24 dc24 pm24 an24 cd24 ct24), sl24⟩)
    (c24 : PySem.W.codeIn K cd24 "replays" = true)
    (k24 : PySem.W.keepIn K (.ref f24) = true)
    (a25 : PySem.W.nsIn K mainGlobals "blunt_replays" = some (some (.ref f25)))
    (l25 : K.lookup f25 = some ⟨oc25, od25, .func (PySem.W.fnOf "blunt_replays" "blunt_replays" (defArgs sBlunt) (defBody sBlunt) (defScope sBlunt) .none kV25 dc25 pm25 an25 cd25 ct25), sl25⟩)
    (c25 : PySem.W.codeIn K cd25 "blunt_replays" = true)
    (k25 : PySem.W.keepIn K (.ref f25) = true)
    (a26 : PySem.W.nsIn K mainGlobals "_law_taken" = some (some (.ref f26)))
    (l26 : K.lookup f26 = some ⟨oc26, od26, .func (PySem.W.fnOf "_law_taken" "_law_taken" (defArgs Bl.sTaken) (defBody Bl.sTaken) (defScope Bl.sTaken) .none kV26 dc26 pm26 an26 cd26 ct26), sl26⟩)
    (c26 : PySem.W.codeIn K cd26 "_law_taken" = true)
    (k26 : PySem.W.keepIn K (.ref f26) = true)
    (a27 : PySem.W.nsIn K mainGlobals "_law_one" = some (some (.ref f27)))
    (l27 : K.lookup f27 = some ⟨oc27, od27, .func (PySem.W.fnOf "_law_one" "_law_one" (defArgs sOne) (defBody sOne) (defScope sOne) .none kV27 dc27 pm27 an27 cd27 ct27), sl27⟩)
    (c27 : PySem.W.codeIn K cd27 "_law_one" = true)
    (k27 : PySem.W.keepIn K (.ref f27) = true)
    (a28 : PySem.W.nsIn K mainGlobals "_law_words" = some (some (.ref f28)))
    (l28 : K.lookup f28 = some ⟨oc28, od28, .func (PySem.W.fnOf "_law_words" "_law_words" (defArgs sWords) (defBody sWords) (defScope sWords) .none kV28 dc28 pm28 an28 cd28 ct28), sl28⟩)
    (c28 : PySem.W.codeIn K cd28 "_law_words" = true)
    (k28 : PySem.W.keepIn K (.ref f28) = true)
    (a29 : PySem.W.nsIn K mainGlobals "_law_tree" = some (some (.ref f29)))
    (l29 : K.lookup f29 = some ⟨oc29, od29, .func (PySem.W.fnOf "_law_tree" "_law_tree" (defArgs sTree) (defBody sTree) (defScope sTree) .none kV29 dc29 pm29 an29 cd29 ct29), sl29⟩)
    (c29 : PySem.W.codeIn K cd29 "_law_tree" = true)
    (k29 : PySem.W.keepIn K (.ref f29) = true)
    (a30 : PySem.W.nsIn K mainGlobals "_law_rule" = some (some (.ref f30)))
    (l30 : K.lookup f30 = some ⟨oc30, od30, .func (PySem.W.fnOf "_law_rule" "_law_rule" (defArgs sRuleL) (defBody sRuleL) (defScope sRuleL) .none kV30 dc30 pm30 an30 cd30 ct30), sl30⟩)
    (c30 : PySem.W.codeIn K cd30 "_law_rule" = true)
    (k30 : PySem.W.keepIn K (.ref f30) = true)
    (a31 : PySem.W.nsIn K mainGlobals "_law_rules" = some (some (.ref f31)))
    (l31 : K.lookup f31 = some ⟨oc31, od31, .func (PySem.W.fnOf "_law_rules" "_law_rules" (defArgs sRulesL) (defBody sRulesL) (defScope sRulesL) .none kV31 dc31 pm31 an31 cd31 ct31), sl31⟩)
    (c31 : PySem.W.codeIn K cd31 "_law_rules" = true)
    (k31 : PySem.W.keepIn K (.ref f31) = true)
    (a32 : PySem.W.nsIn K mainGlobals "_law_odd_path" = some (some (.ref f32)))
    (l32 : K.lookup f32 = some ⟨oc32, od32, .func (PySem.W.fnOf "_law_odd_path" "_law_odd_path" (defArgs sOddP) (defBody sOddP) (defScope sOddP) .none kV32 dc32 pm32 an32 cd32 ct32), sl32⟩)
    (c32 : PySem.W.codeIn K cd32 "_law_odd_path" = true)
    (k32 : PySem.W.keepIn K (.ref f32) = true)
    (a33 : PySem.W.nsIn K mainGlobals "_law_odd_words" = some (some (.ref f33)))
    (l33 : K.lookup f33 = some ⟨oc33, od33, .func (PySem.W.fnOf "_law_odd_words" "_law_odd_words" (defArgs sOddW) (defBody sOddW) (defScope sOddW) .none kV33 dc33 pm33 an33 cd33 ct33), sl33⟩)
    (c33 : PySem.W.codeIn K cd33 "_law_odd_words" = true)
    (k33 : PySem.W.keepIn K (.ref f33) = true)
    (a34 : PySem.W.nsIn K mainGlobals "_law_odd_tree" = some (some (.ref f34)))
    (l34 : K.lookup f34 = some ⟨oc34, od34, .func (PySem.W.fnOf "_law_odd_tree" "_law_odd_tree" (defArgs sOddT) (defBody sOddT) (defScope sOddT) .none kV34 dc34 pm34 an34 cd34 ct34), sl34⟩)
    (c34 : PySem.W.codeIn K cd34 "_law_odd_tree" = true)
    (k34 : PySem.W.keepIn K (.ref f34) = true)
    (a35 : PySem.W.nsIn K mainGlobals "_law_refused" = some (some (.ref f35)))
    (l35 : K.lookup f35 = some ⟨oc35, od35, .func (PySem.W.fnOf "_law_refused" "_law_refused" (defArgs sRef) (defBody sRef) (defScope sRef) .none kV35 dc35 pm35 an35 cd35 ct35), sl35⟩)
    (c35 : PySem.W.codeIn K cd35 "_law_refused" = true)
    (k35 : PySem.W.keepIn K (.ref f35) = true)
    (a36 : PySem.W.nsIn K mainGlobals "law" = some (some (.ref f36)))
    (l36 : K.lookup f36 = some ⟨oc36, od36, .func (PySem.W.fnOf "law" "law" (defArgs sLaw) (defBody sLaw) (defScope sLaw) .none kV36 dc36 pm36 an36 cd36 ct36), sl36⟩)
    (c36 : PySem.W.codeIn K cd36 "law" = true)
    (k36 : PySem.W.keepIn K (.ref f36) = true)
    (aT : PySem.W.nsIn K mainGlobals "BadRules" = some (some (.ref Cu)))
    (xT : K.lookup Cu = some (excClassObj nmT qT Cu NT bsT bmT true snT subT abT colT ddT m0 m1 m2 m3 m5 "ValueError.__new__"))
    (rT : PySem.HandSPX.refsVE bmT = true)
    (saT : PySem.W.findIn K (.ref Cu) "__setattr__" = some (some (.builtin "object.__setattr__")))
    (gaT : PySem.W.findIn K (.ref Cu) "__getattribute__" = some (some (.builtin "BaseException.__getattribute__")))
    (ggT : PySem.W.findIn K (.ref Cu) "__getattr__" = some none)
    (nbT : PySem.W.findIn K (.ref Cu) "index" = some none)
    (iT : PySem.W.findIn K (.ref Cu) "__init__" = some (some (.ref fX)))
    (tI : PySem.W.typeIn K (.ref fX) = some (.type "function"))
    (hdT : PySem.W.hasDictIn K Cu = true)
    (kkT : PySem.W.keepIn K (.ref Cu) = true)
    (bbT : PySem.W.subIn K (.ref Cu) (.type "BaseException") = some true)
    (tyT : PySem.W.typeIn K (.ref Cu) = some (.type "type"))
    (aB : PySem.W.nsIn K mainGlobals "Book" = some (some (.ref C)))
    (pgB : PySem.W.plainGet K C Str.empty = true)
    (hdB : PySem.W.hasDictIn K C = true)
    (poB : PySem.W.plainOver K C = true)
    (saB : PySem.W.findIn K (.ref C) "__setattr__" = some (some (.builtin "object.__setattr__")))
    (mkB : PySem.W.makesIn K C = true)
    (inB : PySem.W.findIn K (.ref C) "__init__" = some (some (.ref fI)))
    (fnB : PySem.W.isFn K (.ref fI) = true)
    (kpB : PySem.W.keepIn K (.ref C) = true)
    (naB : PySem.W.findIn K (.ref C) "_rules" = some none)
    (prB : PySem.W.findIn K (.ref C) "rules" = some (some (.ref pR)))
    (pgetB : PySem.W.specialIn K (.ref pR) "__get__" = some (some (.builtin "property.__get__")))
    (ptkB : PySem.W.takesIn K (.ref pR) = some true)
    (precB : PySem.W.recIn K pR "property" = some (.ref fG :: restR))
    (lnB : PySem.W.findIn K (.ref C) "__len__" = some (some (.ref fL)))
    (lfB : PySem.W.isFn K (.ref fL) = true)
    (eqB : PySem.W.findIn K (.ref C) "__eq__" = some (some (.ref fE)))
    (efB : PySem.W.isFn K (.ref fE) = true)
    (haB : PySem.W.findIn K (.ref C) "__class__" = some (some (.builtin "object.__class__")))
    (hnB : PySem.W.specialIn K (.builtin "object.__class__") "__get__" = some (some (.builtin "getset_descriptor.__get__")))
    (htB : PySem.W.takesIn K (.builtin "object.__class__") = some true)
    (hmB : PySem.W.mroIn K C (.type "object") = some true)
    (tyB : PySem.W.typeIn K (.ref C) = some (.type "type"))
    (icB : PySem.W.isClsIn K C = true)
    (stB : PySem.W.subIn K (.type "tuple") (.ref C) = some false)
    (lI : K.lookup fI = some ⟨ocI, odI, .func (PySem.W.fnOf "__init__" "Book.__init__" (defArgs sInit) (defBody sInit) (defScope sInit) .none kVI dcI pmI anI cdI ctI), slI⟩)
    (cI : PySem.W.codeIn K cdI "Book.__init__" = true)
    (kI : PySem.W.keepIn K (.ref fI) = true)
    (lG : K.lookup fG = some ⟨ocG, odG, .func (PySem.W.fnOf "rules" "Book.rules" (defArgs sGet) (defBody sGet) (defScope sGet) .none kVG dcG pmG anG cdG ctG), slG⟩)
    (cG : PySem.W.codeIn K cdG "Book.rules" = true)
    (kG : PySem.W.keepIn K (.ref fG) = true)
    (lX : K.lookup fX = some ⟨ocX, odX, .func (PySem.W.fnOf "__init__" "BadRules.__init__" (defArgs Bp.sBtI) (defBody Bp.sBtI) (defScope Bp.sBtI) .none kVX dcX pmX anX cdX ctX), slX⟩)
    (cX : PySem.W.codeIn K cdX "BadRules.__init__" = true)
    (kX : PySem.W.keepIn K (.ref fX) = true)
    (aD : PySem.W.nsIn K mainGlobals "FORMS" = some (some (.ref D)))
    (lD : K.lookup D = some ⟨.type "dict", none, .dict esD nD, #[]⟩)
    (litD : PySem.W.KeysLit w.params esD.toList)
    (lowD : (D == sysModules) = false)
    (nD0 : PySem.W.nsIn K D "Size" = some none)
    (nz0 : PySem.W.nsIn K D "join" = some (some (.ref t0)))
    (lz0 : K.lookup t0 = some ⟨.type "tuple", td0, .seq ti0 tn0, ts0⟩)
    (vz0 : Vals (([Str.ofString "paths"] : List Str).map V.str) ti0.toList)
    (nz1 : PySem.W.nsIn K D "size" = some (some (.ref t1)))
    (lz1 : K.lookup t1 = some ⟨.type "tuple", td1, .seq ti1 tn1, ts1⟩)
    (vz1 : Vals (([Str.ofString "path"] : List Str).map V.str) ti1.toList)
    (nz2 : PySem.W.nsIn K D "sort" = some (some (.ref t2)))
    (lz2 : K.lookup t2 = some ⟨.type "tuple", td2, .seq ti2 tn2, ts2⟩)
    (vz2 : Vals (([Str.ofString "path"] : List Str).map V.str) ti2.toList)
    (nz3 : PySem.W.nsIn K D "pick" = some (some (.ref t3)))
    (lz3 : K.lookup t3 = some ⟨.type "tuple", td3, .seq ti3 tn3, ts3⟩)
    (vz3 : Vals (([Str.ofString "path", Str.ofString "word"] : List Str).map V.str) ti3.toList)
    (nz4 : PySem.W.nsIn K D "names" = some (some (.ref t4)))
    (lz4 : K.lookup t4 = some ⟨.type "tuple", td4, .seq ti4 tn4, ts4⟩)
    (vz4 : Vals (([Str.ofString "folder"] : List Str).map V.str) ti4.toList)
    (nz5 : PySem.W.nsIn K D "use" = some (some (.ref t5)))
    (lz5 : K.lookup t5 = some ⟨.type "tuple", td5, .seq ti5 tn5, ts5⟩)
    (vz5 : Vals (([Str.ofString "path"] : List Str).map V.str) ti5.toList)
    (nz6 : PySem.W.nsIn K D "choose" = some (some (.ref t6)))
    (lz6 : K.lookup t6 = some ⟨.type "tuple", td6, .seq ti6 tn6, ts6⟩)
    (vz6 : Vals (([Str.ofString "path", Str.ofString "path", Str.ofString "path"] : List Str).map V.str) ti6.toList)
    (nz7 : PySem.W.nsIn K D "need" = some (some (.ref t7)))
    (lz7 : K.lookup t7 = some ⟨.type "tuple", td7, .seq ti7 tn7, ts7⟩)
    (vz7 : Vals (([Str.ofString "path", Str.ofString "word"] : List Str).map V.str) ti7.toList)
    (aW : PySem.W.nsIn K mainGlobals "BadTree" = some (some (.ref Ct)))
    (xW : K.lookup Ct = some (excClassObj nmW qW Ct NW bsW bmW true snW subW abW colW ddW w0 w1 w2 w3 w5 "ValueError.__new__"))
    (rW : PySem.HandSPX.refsVE bmW = true)
    (saW : PySem.W.findIn K (.ref Ct) "__setattr__" = some (some (.builtin "object.__setattr__")))
    (gaW : PySem.W.findIn K (.ref Ct) "__getattribute__" = some (some (.builtin "BaseException.__getattribute__")))
    (ggW : PySem.W.findIn K (.ref Ct) "__getattr__" = some none)
    (nbW : PySem.W.findIn K (.ref Ct) "index" = some none)
    (iW : PySem.W.findIn K (.ref Ct) "__init__" = some (some (.ref fW)))
    (tW : PySem.W.typeIn K (.ref fW) = some (.type "function"))
    (hdW : PySem.W.hasDictIn K Ct = true)
    (kkW : PySem.W.keepIn K (.ref Ct) = true)
    (bbW : PySem.W.subIn K (.ref Ct) (.type "BaseException") = some true)
    (tyW : PySem.W.typeIn K (.ref Ct) = some (.type "type"))
    (icW : PySem.W.isClsIn K Ct = true)
    (lW : K.lookup fW = some ⟨ocW, odW, .func (PySem.W.fnOf "__init__" "BadTree.__init__" (defArgs sBtI) (defBody sBtI) (defScope sBtI) .none kVW dcW pmW anW cdW ctW), slW⟩)
    (cW : PySem.W.codeIn K cdW "BadTree.__init__" = true)
    (kW : PySem.W.keepIn K (.ref fW) = true)
    (aEb : PySem.W.nsIn K mainGlobals "BadBook" = some (some (.ref Cb)))
    (qEb : PySem.W.excIn K Cb vTail "ValueError.__new__" = true)
    (kkEb : PySem.W.keepIn K (.ref Cb) = true)
    (bbEb : PySem.W.subIn K (.ref Cb) (.type "BaseException") = some true)
    (tyEb : PySem.W.typeIn K (.ref Cb) = some (.type "type"))
    (icEb : PySem.W.isClsIn K Cb = true)
    (aEr : PySem.W.nsIn K mainGlobals "BadRule" = some (some (.ref Cr)))
    (qEr : PySem.W.excIn K Cr vTail "ValueError.__new__" = true)
    (kkEr : PySem.W.keepIn K (.ref Cr) = true)
    (bbEr : PySem.W.subIn K (.ref Cr) (.type "BaseException") = some true)
    (tyEr : PySem.W.typeIn K (.ref Cr) = some (.type "type"))
    (icEr : PySem.W.isClsIn K Cr = true)
    (aEx : PySem.W.nsIn K mainGlobals "BadRecord" = some (some (.ref Cx)))
    (qEx : PySem.W.excIn K Cx vTail "ValueError.__new__" = true)
    (kkEx : PySem.W.keepIn K (.ref Cx) = true)
    (bbEx : PySem.W.subIn K (.ref Cx) (.type "BaseException") = some true)
    (tyEx : PySem.W.typeIn K (.ref Cx) = some (.type "type"))
    (icEx : PySem.W.isClsIn K Cx = true)
    (sbb : PySem.W.subIn K (.ref Cb) (.ref Cb) = some true)
    (stb : PySem.W.subIn K (.ref Ct) (.ref Cb) = some false)
    (srb : PySem.W.subIn K (.ref Cr) (.ref Cb) = some false)
    (sxb : PySem.W.subIn K (.ref Cx) (.ref Cb) = some false)
    (stt : PySem.W.subIn K (.ref Ct) (.ref Ct) = some true)
    (srt : PySem.W.subIn K (.ref Cr) (.ref Ct) = some false)
    (sxt : PySem.W.subIn K (.ref Cx) (.ref Ct) = some false)
    (srr : PySem.W.subIn K (.ref Cr) (.ref Cr) = some true)
    (sxr : PySem.W.subIn K (.ref Cx) (.ref Cr) = some false)
    (sxx : PySem.W.subIn K (.ref Cx) (.ref Cx) = some true)
    (z0 : PySem.W.nsIn K mainGlobals "len" = some none)
    (z1 : PySem.W.nsIn K mainGlobals "all" = some none)
    (z2 : PySem.W.nsIn K mainGlobals "any" = some none)
    (z3 : PySem.W.nsIn K mainGlobals "isinstance" = some none)
    (z4 : PySem.W.nsIn K mainGlobals "str" = some none)
    (z5 : PySem.W.nsIn K mainGlobals "tuple" = some none)
    (z6 : PySem.W.nsIn K mainGlobals "list" = some none)
    (z7 : PySem.W.nsIn K mainGlobals "int" = some none)
    (z8 : PySem.W.nsIn K mainGlobals "range" = some none)
    (z9 : PySem.W.nsIn K mainGlobals "enumerate" = some none)
    (z10 : PySem.W.nsIn K mainGlobals "zip" = some none)
    (z11 : PySem.W.nsIn K mainGlobals "sorted" = some none)
    (z12 : PySem.W.nsIn K mainGlobals "max" = some none)
    (v0 : PySem.W.nsIn K mainGlobals "MOST_NAMES" = some (some (.int 3 tk0)))
    (v1 : PySem.W.nsIn K mainGlobals "LONGEST_NAME" = some (some (.int 6 tk1)))
    (v2 : PySem.W.nsIn K mainGlobals "LONGEST_TEXT" = some (some (.int 200 tk2)))
    (v3 : PySem.W.nsIn K mainGlobals "MOST_RULES" = some (some (.int 8 tk3)))
    (v4 : PySem.W.nsIn K mainGlobals "MOST_JOINED" = some (some (.int 4 tk4)))
    (v5 : PySem.W.nsIn K mainGlobals "LONGEST_WORD" = some (some (.int 8 tk5)))
    (v6 : PySem.W.nsIn K mainGlobals "MOST_FILES" = some (some (.int 20 tk6)))
    : ∃ fd : FuncData, (∀ (s : Shared) (v : Value), BindsTo s fd ⟨[v], []⟩ [("_law_script", v)]) ∧ ∀ base : Heap, K.In base → base.Ns mainGlobals mg → FnOk l.prog w K mg base CX0 11 fa fd ["_law_script"] (spLaw K) := by
  have e := hfa.symm.trans (PySem.W.mg_of X G a36)
  cases e
  have T : Gv mg := ⟨PySem.W.mg_none_of X G z0, PySem.W.mg_none_of X G z1, PySem.W.mg_none_of X G z2, PySem.W.mg_none_of X G z3, PySem.W.mg_none_of X G z4, PySem.W.mg_none_of X G z5, PySem.W.mg_none_of X G z6, PySem.W.mg_none_of X G z7, PySem.W.mg_none_of X G z8, PySem.W.mg_none_of X G z9, ⟨_, PySem.W.mg_of X G v0⟩, ⟨_, PySem.W.mg_of X G v1⟩, ⟨_, PySem.W.mg_of X G v2⟩, PySem.W.mg_none_of X G z10, PySem.W.mg_none_of X G z11, PySem.W.mg_none_of X G z12, ⟨_, PySem.W.mg_of X G v3⟩, ⟨_, PySem.W.mg_of X G v4⟩, ⟨_, PySem.W.mg_of X G v5⟩, ⟨_, PySem.W.mg_of X G v6⟩⟩
  have F0 := fun_mk (st := sIsName) l0 c0 k0
  have b0 := F0.binds (ps := ["word"]) fun _ _ _ _ _ _ us hl => match us, hl with | [_], _ => rfl
  have F1 := fun_mk (st := sIsPath) l1 c1 k1
  have b1 := F1.binds (ps := ["value"]) fun _ _ _ _ _ _ us hl => match us, hl with | [_], _ => rfl
  have F2 := fun_mk (st := sIsFolder) l2 c2 k2
  have b2 := F2.binds (ps := ["value"]) fun _ _ _ _ _ _ us hl => match us, hl with | [_], _ => rfl
  have F3 := fun_mk (st := sHas) l3 c3 k3
  have b3 := F3.binds (ps := ["value", "most"]) fun _ _ _ _ _ _ us hl => match us, hl with | [_, _], _ => rfl
  have F4 := fun_mk (st := sIsText) l4 c4 k4
  have b4 := F4.binds (ps := ["value"]) fun _ _ _ _ _ _ us hl => match us, hl with | [_], _ => rfl
  have F5 := fun_mk (st := sIsFile) l5 c5 k5
  have b5 := F5.binds (ps := ["value"]) fun _ _ _ _ _ _ us hl => match us, hl with | [_], _ => rfl
  have F6 := fun_mk (st := sLies) l6 c6 k6
  have b6 := F6.binds (ps := ["path", "folder"]) fun _ _ _ _ _ _ us hl => match us, hl with | [_, _], _ => rfl
  have F7 := fun_mk (st := sWay) l7 c7 k7
  have b7 := F7.binds (ps := ["one", "other"]) fun _ _ _ _ _ _ us hl => match us, hl with | [_, _], _ => rfl
  have F8 := fun_mk (st := sFollow) l8 c8 k8
  have b8 := F8.binds (ps := ["path", "files"]) fun _ _ _ _ _ _ us hl => match us, hl with | [_, _], _ => rfl
  have F9 := fun_mk (st := sCkTree) l9 c9 k9
  have b9 := F9.binds (ps := ["value"]) fun _ _ _ _ _ _ us hl => match us, hl with | [_], _ => rfl
  have F10 := fun_mk (st := sIsWord) l10 c10 k10
  have b10 := F10.binds (ps := ["value"]) fun _ _ _ _ _ _ us hl => match us, hl with | [_], _ => rfl
  have F11 := fun_mk (st := sFits) l11 c11 k11
  have b11 := F11.binds (ps := ["form", "value"]) fun _ _ _ _ _ _ us hl => match us, hl with | [_, _], _ => rfl
  have F12 := fun_mk (st := sIsRule) l12 c12 k12
  have b12 := F12.binds (ps := ["value"]) fun _ _ _ _ _ _ us hl => match us, hl with | [_], _ => rfl
  have F13 := fun_mk (st := sCkRules) l13 c13 k13
  have b13 := F13.binds (ps := ["value"]) fun _ _ _ _ _ _ us hl => match us, hl with | [_], _ => rfl
  have F14 := fun_mk (st := sCkBook) l14 c14 k14
  have b14 := F14.binds (ps := ["value"]) fun _ _ _ _ _ _ us hl => match us, hl with | [_], _ => rfl
  have F15 := fun_mk (st := sStopped) l15 c15 k15
  have b15 := F15.binds (ps := ["looks"]) fun _ _ _ _ _ _ us hl => match us, hl with | [_], _ => rfl
  have F16 := fun_mk (st := sPlaces) l16 c16 k16
  have b16 := F16.binds (ps := ["rule", "looks"]) fun _ _ _ _ _ _ us hl => match us, hl with | [_, _], _ => rfl
  have F17 := fun_mk (st := sNext) l17 c17 k17
  have b17 := F17.binds (ps := ["rule", "looks"]) fun _ _ _ _ _ _ us hl => match us, hl with | [_, _], _ => rfl
  have F18 := fun_mk (st := sIsLook) l18 c18 k18
  have b18 := F18.binds (ps := ["place", "value"]) fun _ _ _ _ _ _ us hl => match us, hl with | [_, _], _ => rfl
  have F19 := fun_mk (st := sIsRec) l19 c19 k19
  have b19 := F19.binds (ps := ["rule", "value"]) fun _ _ _ _ _ _ us hl => match us, hl with | [_, _], _ => rfl
  have F20 := fun_mk (st := sCkRule) l20 c20 k20
  have b20 := F20.binds (ps := ["value"]) fun _ _ _ _ _ _ us hl => match us, hl with | [_], _ => rfl
  have F21 := fun_mk (st := sCkRec) l21 c21 k21
  have b21 := F21.binds (ps := ["rule", "value"]) fun _ _ _ _ _ _ us hl => match us, hl with | [_, _], _ => rfl
  have F22 := fun_mk (st := sLooks) l22 c22 k22
  have b22 := F22.binds (ps := ["book", "tree", "rule", "record"]) fun _ _ _ _ _ _ us hl => match us, hl with | [_, _, _, _], _ => rfl
  have F23 := fun_mk (st := sFirst) l23 c23 k23
  have b23 := F23.binds (ps := ["book", "tree", "rule", "record"]) fun _ _ _ _ _ _ us hl => match us, hl with | [_, _, _, _], _ => rfl
  have F24 := fun_mk (st := sReplays) l24 c24 k24
  have b24 := F24.binds (ps := ["book", "tree", "rule", "record"]) fun _ _ _ _ _ _ us hl => match us, hl with | [_, _, _, _], _ => rfl
  have F25 := fun_mk (st := sBlunt) l25 c25 k25
  have b25 := F25.binds (ps := ["book", "tree", "rule", "record"]) fun _ _ _ _ _ _ us hl => match us, hl with | [_, _, _, _], _ => rfl
  have F26 := fun_mk (st := Bl.sTaken) l26 c26 k26
  have b26 := F26.binds (ps := ["_law_row", "_law_many"]) fun _ _ _ _ _ _ us hl => match us, hl with | [_, _], _ => rfl
  have F27 := fun_mk (st := sOne) l27 c27 k27
  have b27 := F27.binds (ps := ["_law_row", "_law_things"]) fun _ _ _ _ _ _ us hl => match us, hl with | [_, _], _ => rfl
  have F28 := fun_mk (st := sWords) l28 c28 k28
  have b28 := F28.binds (ps := ["_law_row"]) fun _ _ _ _ _ _ us hl => match us, hl with | [_], _ => rfl
  have F29 := fun_mk (st := sTree) l29 c29 k29
  have b29 := F29.binds (ps := ["_law_row"]) fun _ _ _ _ _ _ us hl => match us, hl with | [_], _ => rfl
  have F30 := fun_mk (st := sRuleL) l30 c30 k30
  have b30 := F30.binds (ps := ["_law_row", "_law_made", "_law_all_made"]) fun _ _ _ _ _ _ us hl => match us, hl with | [_, _, _], _ => rfl
  have F31 := fun_mk (st := sRulesL) l31 c31 k31
  have b31 := F31.binds (ps := ["_law_row", "_law_most"]) fun _ _ _ _ _ _ us hl => match us, hl with | [_, _], _ => rfl
  have F32 := fun_mk (st := sOddP) l32 c32 k32
  have b32 := F32.binds (ps := ["_law_row"]) fun _ _ _ _ _ _ us hl => match us, hl with | [_], _ => rfl
  have F33 := fun_mk (st := sOddW) l33 c33 k33
  have b33 := F33.binds (ps := ["_law_row"]) fun _ _ _ _ _ _ us hl => match us, hl with | [_], _ => rfl
  have F34 := fun_mk (st := sOddT) l34 c34 k34
  have b34 := F34.binds (ps := ["_law_row", "_law_tree_here"]) fun _ _ _ _ _ _ us hl => match us, hl with | [_, _], _ => rfl
  have F35 := fun_mk (st := sRef) l35 c35 k35
  have b35 := F35.binds (ps := ["_law_kind", "_law_book", "_law_tree_here", "_law_rule_here", "_law_record"]) fun _ _ _ _ _ _ us hl => match us, hl with | [_, _, _, _, _], _ => rfl
  have F36 := fun_mk (st := sLaw) l36 c36 k36
  have b36 := F36.binds (ps := ["_law_script"]) fun _ _ _ _ _ _ us hl => match us, hl with | [_], _ => rfl
  have FI := fun_mk (st := sInit) lI cI kI
  have bI := FI.binds (ps := ["self", "rules"]) fun _ _ _ _ _ _ us hl => match us, hl with | [_, _], _ => rfl
  have FG := fun_mk (st := sGet) lG cG kG
  have bG := FG.binds (ps := ["self"]) fun _ _ _ _ _ _ us hl => match us, hl with | [_], _ => rfl
  have FX := fun_mk (st := Bp.sBtI) lX cX kX
  have bX := FX.binds (ps := ["self", "index"]) fun _ _ _ _ _ _ us hl => match us, hl with | [_, _], _ => rfl
  have FW := fun_mk (st := sBtI) lW cW kW
  have bW := FW.binds (ps := ["self", "index"]) fun _ _ _ _ _ _ us hl => match us, hl with | [_, _], _ => rfl
  have oT : OexC K Cu := ⟨⟨_, _, _, _, _, _, _, _, _, _, _, _, _, _, _, xT, rT⟩, saT, bbT, tyT, kkT⟩
  have xi : Xi K mg "BadRules" Cu fX := ⟨PySem.W.mg_of X G aT, oT, ⟨gaT, ggT, bbT, hdT⟩, nbT, iT, tI⟩
  have B : Bks K mg C fI pR fG fL fE := ⟨PySem.W.mg_of X G aB, ⟨pgB, hdB, poB, saB⟩, ⟨mkB, inB, fnB, kpB⟩, naB, ⟨prB, pgetB, ptkB, ⟨_, precB⟩⟩, lnB, lfB, eqB, efB, nf_at stB, haB, hnB, htB, hmB, kt_at icB tyB stB⟩
  have Fm : Fms K w mg D esD nD := ⟨PySem.W.mg_of X G aD, ⟨lD, litD, lowD⟩, fun z hz => by
    have hz' : z = Str.ofString "Size" ∨ z = Str.ofString "join" ∨ z = Str.ofString "size" ∨ z = Str.ofString "sort" ∨ z = Str.ofString "pick" ∨ z = Str.ofString "names" ∨ z = Str.ofString "use" ∨ z = Str.ofString "choose" ∨ z = Str.ofString "need" := by
      revert z
      decide +kernel
    rcases hz' with rfl | rfl | rfl | rfl | rfl | rfl | rfl | rfl | rfl
    · show PySem.W.nsIn K D _ = some none
      exact nD0
    · have e : formOf (Str.ofString "join") = some [Str.ofString "paths"] := by decide +kernel
      rw [e]
      exact ⟨t0, nz0, sqK lz0 vz0 (by show 1 ≤ 100; decide)⟩
    · have e : formOf (Str.ofString "size") = some [Str.ofString "path"] := by decide +kernel
      rw [e]
      exact ⟨t1, nz1, sqK lz1 vz1 (by show 1 ≤ 100; decide)⟩
    · have e : formOf (Str.ofString "sort") = some [Str.ofString "path"] := by decide +kernel
      rw [e]
      exact ⟨t2, nz2, sqK lz2 vz2 (by show 1 ≤ 100; decide)⟩
    · have e : formOf (Str.ofString "pick") = some [Str.ofString "path", Str.ofString "word"] := by decide +kernel
      rw [e]
      exact ⟨t3, nz3, sqK lz3 vz3 (by show 2 ≤ 100; decide)⟩
    · have e : formOf (Str.ofString "names") = some [Str.ofString "folder"] := by decide +kernel
      rw [e]
      exact ⟨t4, nz4, sqK lz4 vz4 (by show 1 ≤ 100; decide)⟩
    · have e : formOf (Str.ofString "use") = some [Str.ofString "path"] := by decide +kernel
      rw [e]
      exact ⟨t5, nz5, sqK lz5 vz5 (by show 1 ≤ 100; decide)⟩
    · have e : formOf (Str.ofString "choose") = some [Str.ofString "path", Str.ofString "path", Str.ofString "path"] := by decide +kernel
      rw [e]
      exact ⟨t6, nz6, sqK lz6 vz6 (by show 3 ≤ 100; decide)⟩
    · have e : formOf (Str.ofString "need") = some [Str.ofString "path", Str.ofString "word"] := by decide +kernel
      rw [e]
      exact ⟨t7, nz7, sqK lz7 vz7 (by show 2 ≤ 100; decide)⟩
    ⟩
  have oW : OexC K Ct := ⟨⟨_, _, _, _, _, _, _, _, _, _, _, _, _, _, _, xW, rW⟩, saW, bbW, tyW, kkW⟩
  have xt : Xi K mg "BadTree" Ct fW := ⟨PySem.W.mg_of X G aW, oW, ⟨gaW, ggW, bbW, hdW⟩, nbW, iW, tW⟩
  have xEb : Xc K mg "BadBook" Cb := ⟨PySem.W.mg_of X G aEb, qEb, kkEb, bbEb, tyEb⟩
  have xEr : Xc K mg "BadRule" Cr := ⟨PySem.W.mg_of X G aEr, qEr, kkEr, bbEr, tyEr⟩
  have xEx : Xc K mg "BadRecord" Cx := ⟨PySem.W.mg_of X G aEx, qEx, kkEx, bbEx, tyEx⟩
  have xs : Exs K mg Cb Ct fW Cr Cx := ⟨xEb, xt, xEr, xEx, exm_at bbEb icEb tyEb sbb, exm_at bbEb icEb tyEb stb, exm_at bbEb icEb tyEb srb, exm_at bbEb icEb tyEb sxb, exm_at bbW icW tyW stt, exm_at bbW icW tyW srt, exm_at bbW icW tyW sxt, exm_at bbEr icEr tyEr srr, exm_at bbEr icEr tyEr sxr, exm_at bbEx icEx tyEx sxx⟩
  refine ⟨PySem.W.fnOf "law" "law" (defArgs sLaw) (defBody sLaw) (defScope sLaw) .none kV36 dc36 pm36 an36 cd36 ct36, fun s v => .of_eq rfl, fun base _ _ => ?_⟩
  have cName : Cal l.prog w K mg base CX0 1 "is_name" ["word"] spName := ⟨f0, _, ok_name F0 T, PySem.W.mg_of X G a0, k0, b0⟩
  have cPath : Cal l.prog w K mg base CX0 2 "is_path" ["value"] (spPath (K := K)) := ⟨f1, _, ok_path F1 T cName, PySem.W.mg_of X G a1, k1, b1⟩
  have cFolder : Cal l.prog w K mg base CX0 3 "is_folder" ["value"] spFolder := ⟨f2, _, ok_folder F2 cPath, PySem.W.mg_of X G a2, k2, b2⟩
  have cHas : Cal l.prog w K mg base CX0 1 "has_signs" ["value", "most"] (spHas (K := K)) := ⟨f3, _, ok_has F3 T, PySem.W.mg_of X G a3, k3, b3⟩
  have cText : Cal l.prog w K mg base CX0 2 "is_text" ["value"] (spText (K := K)) := ⟨f4, _, ok_text F4 T cHas, PySem.W.mg_of X G a4, k4, b4⟩
  have cFile : Cal l.prog w K mg base CX0 3 "is_file" ["value"] (spFile (K := K)) := ⟨f5, _, ok_file F5 T cPath cText, PySem.W.mg_of X G a5, k5, b5⟩
  have cLies : Cal l.prog w K mg base CX0 1 "lies_within" ["path", "folder"] spLies := ⟨f6, _, ok_lies F6, PySem.W.mg_of X G a6, k6, b6⟩
  have cWay : Cal l.prog w K mg base CX0 2 "in_the_way" ["one", "other"] spWay := ⟨f7, _, ok_way F7 cLies, PySem.W.mg_of X G a7, k7, b7⟩
  have cFollow : Cal l.prog w K mg base CX0 2 "may_follow" ["path", "files"] (spFollow (K := K)) := ⟨f8, _, ok_follow F8 T cLies, PySem.W.mg_of X G a8, k8, b8⟩
  have cCkT : Cal l.prog w K mg base (L2.CX l.prog w) 4 "check_tree" ["value"] (spCkTree (K := K) Ct) := ⟨f9, _, ok_ckTree F9 T xt (Bt.ok_btI FW) bW cFile cFollow, PySem.W.mg_of X G a9, k9, b9⟩
  have cWord : Cal l.prog w K mg base CX0 3 "is_word" ["value"] (spWord (K := K)) := ⟨f10, _, ok_word F10 T cText, PySem.W.mg_of X G a10, k10, b10⟩
  have cFits : Cal l.prog w K mg base CX0 4 "fits" ["form", "value"] (spFits (K := K)) := ⟨f11, _, ok_fits F11 T cPath cWord cFolder, PySem.W.mg_of X G a11, k11, b11⟩
  have cRule : Cal l.prog w K mg base CX0 5 "is_rule" ["value"] (spRule (K := K)) := ⟨f12, _, ok_rule F12 T Fm cPath cFits, PySem.W.mg_of X G a12, k12, b12⟩
  have cCkR : Cal l.prog w K mg base (L2.CX l.prog w) 6 "check_rules" ["value"] (spCkRules (K := K) Cu) := ⟨f13, _, ok_ckRules F13 T xi (Bp.ok_btI FX) bX cRule cWay, PySem.W.mg_of X G a13, k13, b13⟩
  have gI := ok_init FI B cCkR
  have cCkB : Cal l.prog w K mg base (L2.CX l.prog w) 2 "check_book" ["value"] (spCkB2 K C Cb) := ⟨f14, _, ok_ckBook2 F14 T xEb B icB tyB, PySem.W.mg_of X G a14, k14, b14⟩
  have cSt : Cal l.prog w K mg base CX0 1 "is_stopped" ["looks"] spStopped := ⟨f15, _, ok_stopped F15 T, PySem.W.mg_of X G a15, k15, b15⟩
  have cPl : Cal l.prog w K mg base CX0 1 "places_known" ["rule", "looks"] spPlaces := ⟨f16, _, ok_places F16 T, PySem.W.mg_of X G a16, k16, b16⟩
  have cNx : Cal l.prog w K mg base CX0 2 "next_place" ["rule", "looks"] spNext := ⟨f17, _, ok_next F17 T cSt cPl, PySem.W.mg_of X G a17, k17, b17⟩
  have cIL : Cal l.prog w K mg base CX0 1 "is_look_at" ["place", "value"] spIsLook := ⟨f18, _, ok_isLook F18 T, PySem.W.mg_of X G a18, k18, b18⟩
  have cIR : Cal l.prog w K mg base CX0 3 "is_record" ["rule", "value"] (spIsRec K) := ⟨f19, _, ok_isRec F19 T cNx cIL, PySem.W.mg_of X G a19, k19, b19⟩
  have cCkU : Cal l.prog w K mg base (L2.CX l.prog w) 6 "check_rule" ["value"] (spCkRule K Cr) := ⟨f20, _, ok_ckRule F20 xEr cRule, PySem.W.mg_of X G a20, k20, b20⟩
  have cCkX : Cal l.prog w K mg base (L2.CX l.prog w) 4 "check_record" ["rule", "value"] (spCkRec K Cx) := ⟨f21, _, ok_ckRec F21 xEx cIR, PySem.W.mg_of X G a21, k21, b21⟩
  have cLk : Cal l.prog w K mg base (L2.CX l.prog w) 7 "looks_now" ["book", "tree", "rule", "record"] (spWr K C Cb Ct Cr Cx) := ⟨f22, _, ok_looks F22 cCkB cCkT cCkU cCkX, PySem.W.mg_of X G a22, k22, b22⟩
  have cF8 : Cal l.prog w K mg base (L2.CX l.prog w) 8 "first_changed" ["book", "tree", "rule", "record"] (spWr K C Cb Ct Cr Cx) := ⟨f23, _, ok_first (k := 7) (by decide) F23 cLk, PySem.W.mg_of X G a23, k23, b23⟩
  have cF9 : Cal l.prog w K mg base (L2.CX l.prog w) 9 "first_changed" ["book", "tree", "rule", "record"] (spWr K C Cb Ct Cr Cx) := ⟨f23, _, ok_first (k := 8) (by decide) F23 cLk, PySem.W.mg_of X G a23, k23, b23⟩
  have cRe : Cal l.prog w K mg base (L2.CX l.prog w) 9 "replays" ["book", "tree", "rule", "record"] (spWr K C Cb Ct Cr Cx) := ⟨f24, _, ok_replays F24 cF8, PySem.W.mg_of X G a24, k24, b24⟩
  have cBl : Cal l.prog w K mg base (L2.CX l.prog w) 9 "blunt_replays" ["book", "tree", "rule", "record"] (spWr K C Cb Ct Cr Cx) := ⟨f25, _, ok_blunt (k := 8) (by decide) F25 cLk, PySem.W.mg_of X G a25, k25, b25⟩
  have dT : Cal l.prog w K mg base CX0 1 "_law_taken" ["_law_row", "_law_many"] (spTaken (K := K)) := ⟨f26, _, Bl.ok_taken F26 T, PySem.W.mg_of X G a26, k26, b26⟩
  have dO : Cal l.prog w K mg base CX0 2 "_law_one" ["_law_row", "_law_things"] (spOne (K := K)) := ⟨f27, _, ok_one F27 T dT, PySem.W.mg_of X G a27, k27, b27⟩
  have dO2 : Cal l.prog w K mg base CX0 2 "_law_one" ["_law_row", "_law_things"] (spOneT (K := K)) := ⟨f27, _, ok_oneT F27 T dT, PySem.W.mg_of X G a27, k27, b27⟩
  have dW : Cal l.prog w K mg base CX0 3 "_law_words" ["_law_row"] (spWords (K := K)) := ⟨f28, _, ok_words F28 T dT dO, PySem.W.mg_of X G a28, k28, b28⟩
  have dTr : Cal l.prog w K mg base CX0 4 "_law_tree" ["_law_row"] (spTree (K := K)) := ⟨f29, _, ok_tree F29 T dT dW, PySem.W.mg_of X G a29, k29, b29⟩
  have dRu : Cal l.prog w K mg base CX0 3 "_law_rule" ["_law_row", "_law_made", "_law_all_made"] (spRuleL (K := K)) := ⟨f30, _, ok_ruleL F30 T dT dO, PySem.W.mg_of X G a30, k30, b30⟩
  have dRs : Cal l.prog w K mg base CX0 4 "_law_rules" ["_law_row", "_law_most"] (spRulesL (K := K)) := ⟨f31, _, ok_rulesL F31 T dT dRu, PySem.W.mg_of X G a31, k31, b31⟩
  have dOP : Cal l.prog w K mg base CX0 2 "_law_odd_path" ["_law_row"] (spOdd (K := K) isPathV) := ⟨f32, _, ok_oddP F32 T dT, PySem.W.mg_of X G a32, k32, b32⟩
  have dOW : Cal l.prog w K mg base CX0 2 "_law_odd_words" ["_law_row"] (spOdd (K := K) isTextV) := ⟨f33, _, ok_oddW F33 T dT, PySem.W.mg_of X G a33, k33, b33⟩
  have dOT : Cal l.prog w K mg base CX0 3 "_law_odd_tree" ["_law_row", "_law_tree_here"] (spOddT (K := K)) := ⟨f34, _, ok_oddT F34 T dT dOP dOW, PySem.W.mg_of X G a34, k34, b34⟩
  have dR : Cal l.prog w K mg base CX0 10 "_law_refused" ["_law_kind", "_law_book", "_law_tree_here", "_law_rule_here", "_law_record"] (spRef K C Cb Ct Cr Cx) := ⟨f35, _, ok_ref F35 xs cBl cF9 cRe, PySem.W.mg_of X G a35, k35, b35⟩
  exact ok_law F36 T B gI bI dT dO dO2 dRs dTr dOT dR
end
theorem walk {l : PySem.W.OpenLaw} {q : Program} {loose : List Str} {XP : (Str → Option Value) → Heap → Prop} {YP : World → Heap → Prop} {d : DefRec} {K : Params → PySem.W.Frag} (hn : l.most = some 63) (hdf : d.params.defaults = [])
    (hY : ∀ (w : World) (h : Heap), YP w h → (K w.params).In h)
    (F : ∀ (w : World) (mg : Str → Option Value) (fa : Addr) (h : Heap), (K w.params).In h → h.Ns mainGlobals mg → mg d.name = some (.ref fa) →
      ∃ fd : FuncData, (∀ (s : Shared) (u : Value), BindsTo s fd ⟨[u], []⟩ [("_law_script", u)]) ∧ ∀ base : Heap, (K w.params).In base → base.Ns mainGlobals mg → FnOk l.prog w (K w.params) mg base CX0 11 fa fd ["_law_script"] (spLaw (K w.params))) :
    PySem.W.WalkO q loose XP YP l.row.toRowW d [] (fun f vs => PySem.call f vs) :=
  L2.walk_of (n := 63) (k := 11) (x := "_law_script") (CX := fun _ => CX0) (sp := fun w => spLaw (K w.params)) hn (by decide) hdf ⟨rfl, by decide, by decide⟩ hY F (fun _ H a ns hl hO hS => by
    refine ⟨a, ns, rfl, ?_, fun _ => rfl⟩
    rcases hS with (h | ⟨o, h⟩) | h
    · rcases hO a with z | ⟨o, xs, z⟩
      · rw [h] at z; cases z
      · rw [h] at z; cases z
    · exact .inl ⟨o, h⟩
    · exact .inr h) fun _ _ _ _ _ z => z
end Bt
open PySem PySem.W PyProof.Rows
set_option maxRecDepth 100000 in
set_option maxHeartbeats 0 in
theorem PySem.Challenge.cw_buildroom_k14_records_refused_holds : PySem.Challenge.rw_buildroom_k14_records_refused.Holds := by
  w_on; o_law; k_head; (case hw => w_witness2)
  k_fill
  refine Bt.walk (l := PySem.Challenge.rw_buildroom_k14_records_refused) rfl rfl (fun w h Y => PySem.W.kIn_of Y) ?F
  case F =>
    intro w mg fa h KX G hmg
    refine' Bt.all_mk KX G hmg ?a0 ?l0 ?c0 ?k0 ?a1 ?l1 ?c1 ?k1 ?a2 ?l2 ?c2 ?k2 ?a3 ?l3 ?c3 ?k3 ?a4 ?l4 ?c4 ?k4 ?a5 ?l5 ?c5 ?k5 ?a6 ?l6 ?c6 ?k6 ?a7 ?l7 ?c7 ?k7 ?a8 ?l8 ?c8 ?k8 ?a9 ?l9 ?c9 ?k9 ?a10 ?l10 ?c10 ?k10 ?a11 ?l11 ?c11 ?k11 ?a12 ?l12 ?c12 ?k12 ?a13 ?l13 ?c13 ?k13 ?a14 ?l14 ?c14 ?k14 ?a15 ?l15 ?c15 ?k15 ?a16 ?l16 ?c16 ?k16 ?a17 ?l17 ?c17 ?k17 ?a18 ?l18 ?c18 ?k18 ?a19 ?l19 ?c19 ?k19 ?a20 ?l20 ?c20 ?k20 ?a21 ?l21 ?c21 ?k21 ?a22 ?l22 ?c22 ?k22 ?a23 ?l23 ?c23 ?k23 ?a24 ?l24 ?c24 ?k24 ?a25 ?l25 ?c25 ?k25 ?a26 ?l26 ?c26 ?k26 ?a27 ?l27 ?c27 ?k27 ?a28 ?l28 ?c28 ?k28 ?a29 ?l29 ?c29 ?k29 ?a30 ?l30 ?c30 ?k30 ?a31 ?l31 ?c31 ?k31 ?a32 ?l32 ?c32 ?k32 ?a33 ?l33 ?c33 ?k33 ?a34 ?l34 ?c34 ?k34 ?a35 ?l35 ?c35 ?k35 ?a36 ?l36 ?c36 ?k36 ?aT ?xT ?rT ?saT ?gaT ?ggT ?nbT ?iT ?tI ?hdT ?kkT ?bbT ?tyT ?aB ?pgB ?hdB ?poB ?saB ?mkB ?inB ?fnB ?kpB ?naB ?prB ?pgetB ?ptkB ?precB ?lnB ?lfB ?eqB ?efB ?haB ?hnB ?htB ?hmB ?tyB ?icB ?stB ?lI ?cI ?kI ?lG ?cG ?kG ?lX ?cX ?kX ?aD ?lD ?litD ?lowD ?nD0 ?nz0 ?lz0 ?vz0 ?nz1 ?lz1 ?vz1 ?nz2 ?lz2 ?vz2 ?nz3 ?lz3 ?vz3 ?nz4 ?lz4 ?vz4 ?nz5 ?lz5 ?vz5 ?nz6 ?lz6 ?vz6 ?nz7 ?lz7 ?vz7 ?aW ?xW ?rW ?saW ?gaW ?ggW ?nbW ?iW ?tW ?hdW ?kkW ?bbW ?tyW ?icW ?lW ?cW ?kW ?aEb ?qEb ?kkEb ?bbEb ?tyEb ?icEb ?aEr ?qEr ?kkEr ?bbEr ?tyEr ?icEr ?aEx ?qEx ?kkEx ?bbEx ?tyEx ?icEx ?sbb ?stb ?srb ?sxb ?stt ?srt ?sxt ?srr ?sxr ?sxx ?z0 ?z1 ?z2 ?z3 ?z4 ?z5 ?z6 ?z7 ?z8 ?z9 ?z10 ?z11 ?z12 ?v0 ?v1 ?v2 ?v3 ?v4 ?v5 ?v6
    (case a0 => k_is)
    (case l0 => k_is)
    (case c0 => k_is)
    (case k0 => k_is)
    (case a1 => k_is)
    (case l1 => k_is)
    (case c1 => k_is)
    (case k1 => k_is)
    (case a2 => k_is)
    (case l2 => k_is)
    (case c2 => k_is)
    (case k2 => k_is)
    (case a3 => k_is)
    (case l3 => k_is)
    (case c3 => k_is)
    (case k3 => k_is)
    (case a4 => k_is)
    (case l4 => k_is)
    (case c4 => k_is)
    (case k4 => k_is)
    (case a5 => k_is)
    (case l5 => k_is)
    (case c5 => k_is)
    (case k5 => k_is)
    (case a6 => k_is)
    (case l6 => k_is)
    (case c6 => k_is)
    (case k6 => k_is)
    (case a7 => k_is)
    (case l7 => k_is)
    (case c7 => k_is)
    (case k7 => k_is)
    (case a8 => k_is)
    (case l8 => k_is)
    (case c8 => k_is)
    (case k8 => k_is)
    (case a9 => k_is)
    (case l9 => k_is)
    (case c9 => k_is)
    (case k9 => k_is)
    (case a10 => k_is)
    (case l10 => k_is)
    (case c10 => k_is)
    (case k10 => k_is)
    (case a11 => k_is)
    (case l11 => k_is)
    (case c11 => k_is)
    (case k11 => k_is)
    (case a12 => k_is)
    (case l12 => k_is)
    (case c12 => k_is)
    (case k12 => k_is)
    (case a13 => k_is)
    (case l13 => k_is)
    (case c13 => k_is)
    (case k13 => k_is)
    (case a14 => k_is)
    (case l14 => k_is)
    (case c14 => k_is)
    (case k14 => k_is)
    (case a15 => k_is)
    (case l15 => k_is)
    (case c15 => k_is)
    (case k15 => k_is)
    (case a16 => k_is)
    (case l16 => k_is)
    (case c16 => k_is)
    (case k16 => k_is)
    (case a17 => k_is)
    (case l17 => k_is)
    (case c17 => k_is)
    (case k17 => k_is)
    (case a18 => k_is)
    (case l18 => k_is)
    (case c18 => k_is)
    (case k18 => k_is)
    (case a19 => k_is)
    (case l19 => k_is)
    (case c19 => k_is)
    (case k19 => k_is)
    (case a20 => k_is)
    (case l20 => k_is)
    (case c20 => k_is)
    (case k20 => k_is)
    (case a21 => k_is)
    (case l21 => k_is)
    (case c21 => k_is)
    (case k21 => k_is)
    (case a22 => k_is)
    (case l22 => k_is)
    (case c22 => k_is)
    (case k22 => k_is)
    (case a23 => k_is)
    (case l23 => k_is)
    (case c23 => k_is)
    (case k23 => k_is)
    (case a24 => k_is)
    (case l24 => k_is)
    (case c24 => k_is)
    (case k24 => k_is)
    (case a25 => k_is)
    (case l25 => k_is)
    (case c25 => k_is)
    (case k25 => k_is)
    (case a26 => k_is)
    (case l26 => k_is)
    (case c26 => k_is)
    (case k26 => k_is)
    (case a27 => k_is)
    (case l27 => k_is)
    (case c27 => k_is)
    (case k27 => k_is)
    (case a28 => k_is)
    (case l28 => k_is)
    (case c28 => k_is)
    (case k28 => k_is)
    (case a29 => k_is)
    (case l29 => k_is)
    (case c29 => k_is)
    (case k29 => k_is)
    (case a30 => k_is)
    (case l30 => k_is)
    (case c30 => k_is)
    (case k30 => k_is)
    (case a31 => k_is)
    (case l31 => k_is)
    (case c31 => k_is)
    (case k31 => k_is)
    (case a32 => k_is)
    (case l32 => k_is)
    (case c32 => k_is)
    (case k32 => k_is)
    (case a33 => k_is)
    (case l33 => k_is)
    (case c33 => k_is)
    (case k33 => k_is)
    (case a34 => k_is)
    (case l34 => k_is)
    (case c34 => k_is)
    (case k34 => k_is)
    (case a35 => k_is)
    (case l35 => k_is)
    (case c35 => k_is)
    (case k35 => k_is)
    (case a36 => k_is)
    (case l36 => k_is)
    (case c36 => k_is)
    (case k36 => k_is)
    (case aT => k_is)
    (case xT => k_is)
    (case rT => rfl)
    (case saT => k_is)
    (case gaT => k_is)
    (case ggT => k_is)
    (case nbT => k_is)
    (case iT => k_is)
    (case tI => k_is)
    (case hdT => k_is)
    (case kkT => k_is)
    (case bbT => k_is)
    (case tyT => k_is)
    (case aB => k_is)
    (case pgB => k_is)
    (case hdB => k_is)
    (case poB => k_is)
    (case saB => k_is)
    (case mkB => k_is)
    (case inB => k_is)
    (case fnB => k_is)
    (case kpB => k_is)
    (case naB => k_is)
    (case prB => k_is)
    (case pgetB => k_is)
    (case ptkB => k_is)
    (case precB => k_is)
    (case lnB => k_is)
    (case lfB => k_is)
    (case eqB => k_is)
    (case efB => k_is)
    (case haB => k_is)
    (case hnB => k_is)
    (case htB => k_is)
    (case hmB => k_is)
    (case tyB => k_is)
    (case icB => k_is)
    (case stB => first | rfl | k_is)
    (case lI => k_is)
    (case cI => k_is)
    (case kI => k_is)
    (case lG => k_is)
    (case cG => k_is)
    (case kG => k_is)
    (case lX => k_is)
    (case cX => k_is)
    (case kX => k_is)
    (case aD => k_is)
    (case lD => k_is)
    (case litD => exact ⟨⟨_, _, rfl, rfl⟩, ⟨_, _, rfl, rfl⟩, ⟨_, _, rfl, rfl⟩, ⟨_, _, rfl, rfl⟩, ⟨_, _, rfl, rfl⟩, ⟨_, _, rfl, rfl⟩, ⟨_, _, rfl, rfl⟩, ⟨_, _, rfl, rfl⟩, trivial⟩)
    (case lowD => rfl)
    (case nD0 => k_is)
    (case nz0 => k_is)
    (case lz0 => k_is)
    (case vz0 => exact (.cons ⟨_, rfl⟩ .nil))
    (case nz1 => k_is)
    (case lz1 => k_is)
    (case vz1 => exact (.cons ⟨_, rfl⟩ .nil))
    (case nz2 => k_is)
    (case lz2 => k_is)
    (case vz2 => exact (.cons ⟨_, rfl⟩ .nil))
    (case nz3 => k_is)
    (case lz3 => k_is)
    (case vz3 => exact (.cons ⟨_, rfl⟩ (.cons ⟨_, rfl⟩ .nil)))
    (case nz4 => k_is)
    (case lz4 => k_is)
    (case vz4 => exact (.cons ⟨_, rfl⟩ .nil))
    (case nz5 => k_is)
    (case lz5 => k_is)
    (case vz5 => exact (.cons ⟨_, rfl⟩ .nil))
    (case nz6 => k_is)
    (case lz6 => k_is)
    (case vz6 => exact (.cons ⟨_, rfl⟩ (.cons ⟨_, rfl⟩ (.cons ⟨_, rfl⟩ .nil))))
    (case nz7 => k_is)
    (case lz7 => k_is)
    (case vz7 => exact (.cons ⟨_, rfl⟩ (.cons ⟨_, rfl⟩ .nil)))
    (case aW => k_is)
    (case xW => k_is)
    (case rW => rfl)
    (case saW => k_is)
    (case gaW => k_is)
    (case ggW => k_is)
    (case nbW => k_is)
    (case iW => k_is)
    (case tW => k_is)
    (case hdW => k_is)
    (case kkW => k_is)
    (case bbW => k_is)
    (case tyW => k_is)
    (case icW => k_is)
    (case lW => k_is)
    (case cW => k_is)
    (case kW => k_is)
    (case aEb => k_is)
    (case qEb => k_exc)
    (case kkEb => k_is)
    (case bbEb => k_is)
    (case tyEb => k_is)
    (case icEb => k_is)
    (case aEr => k_is)
    (case qEr => k_exc)
    (case kkEr => k_is)
    (case bbEr => k_is)
    (case tyEr => k_is)
    (case icEr => k_is)
    (case aEx => k_is)
    (case qEx => k_exc)
    (case kkEx => k_is)
    (case bbEx => k_is)
    (case tyEx => k_is)
    (case icEx => k_is)
    (case sbb => first | rfl | k_is)
    (case stb => first | rfl | k_is)
    (case srb => first | rfl | k_is)
    (case sxb => first | rfl | k_is)
    (case stt => first | rfl | k_is)
    (case srt => first | rfl | k_is)
    (case sxt => first | rfl | k_is)
    (case srr => first | rfl | k_is)
    (case sxr => first | rfl | k_is)
    (case sxx => first | rfl | k_is)
    (case z0 => k_is)
    (case z1 => k_is)
    (case z2 => k_is)
    (case z3 => k_is)
    (case z4 => k_is)
    (case z5 => k_is)
    (case z6 => k_is)
    (case z7 => k_is)
    (case z8 => k_is)
    (case z9 => k_is)
    (case z10 => k_is)
    (case z11 => k_is)
    (case z12 => k_is)
    (case v0 => k_is)
    (case v1 => k_is)
    (case v2 => k_is)
    (case v3 => k_is)
    (case v4 => k_is)
    (case v5 => k_is)
    (case v6 => k_is)
