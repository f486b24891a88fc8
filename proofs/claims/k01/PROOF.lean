import PyProof.Rows.All
import Wide.All
import OpenK.AllK
import Wide.FinOn
import PyProof.EqAt
import PyProof.EqKinds
import PyProof.TupleCall
import HandS.Base
import HandS.Call
import HandS.Exc
import HandS.TryMany
import HandS.ExcOwn
import PyProof.Draws
import KE.GoesMore
import KE.GoesEnum
import HandS.List
import HandS.Dict
import HandS.Iter
import PyProof.NeKinds
import HandS.Text
import HandS.ForMost
import HandS.TryOnly
import HandS.WordsExc
import HandS.IsInst
import HandS.Walk
import HandS.TupAny
import HandS.ExcInit
import HandS.ExcField
import HandS.Evl
import HandS.Property
import HandS.OwnEq
import HandS.TupMul
import HandS.RepeatKit
import HandS.More
import HandS.Zip
import PyProof.InstSpecial
import KE.KDictPairs
import KE.SortData
import HandS.Set
import HandS.TupSets
import HandS.SetFor
import PySem.Challenge.RW_buildroom_k01_whole_trees
import KE.DataEq
set_option Elab.async false
set_option linter.all false
set_option maxRecDepth 100000
set_option maxHeartbeats 8000000
namespace Bk
open PySem PySem.Spec PyProof.Rows L2

/-! ## try with several clauses, some of them «as n» -/
abbrev Cl := Value × Option Nat × (Addr → Value → Option Addr → TS)
def clEnds (n : Option Nat) (D : Ends) : Ends := match n with
  | none => D
  | some i => { nx := fun τ G => D.nx (τ.set i none) G, rt := D.rt, bk := fun τ G => D.bk (τ.set i none) G, ct := fun τ G => D.ct (τ.set i none) G }
def clSlots (n : Option Nat) (τ : L2.St) (a : Addr) : L2.St := match n with
  | none => τ
  | some i => τ.set i (some (.ref a))
def wMix (K : PySem.W.Frag) (Wo : WX) (D : Ends) : List Cl → WX
  | [] => Wo
  | (c, n, ts) :: r => fun cls d τ G => ∃ b, PySem.W.exmOne K cls c = some b ∧
      (b = true → ∀ a, G a = none → ts a cls d (clEnds n D) (clSlots n τ a) G) ∧ (b = false → wMix K Wo D r cls d τ G)
inductive HMix (X : Cx) : List ExceptHandler → List Cl → Prop
  | nil : HMix X [] []
  | bare {x : Str} {c : Value} {ts : Addr → Value → Option Addr → TS} {b0 : Stmt} {bs : List Stmt} {q1 q2 : Pos} {hs : List ExceptHandler} {l : List Cl} (hc : Names X x c)
      (su : ∀ (a : Addr) (oe : Obj) (cls : Value) (d : Option Addr) (pn : List (Addr × Obj)), Zc cls d oe → (∃ vs, oe.data = .fields vs) → PSs (X.suite a ((a, oe) :: pn)) (b0 :: bs) (ts a cls d)) (r : HMix X hs l) :
      HMix X (.ExceptHandler (some (.Name x q1)) none (b0 :: bs) q2 :: hs) ((c, none, ts) :: l)
  | named {x n : Str} {i : Nat} {c : Value} {ts : Addr → Value → Option Addr → TS} {b0 : Stmt} {bs : List Stmt} {q1 q2 : Pos} {hs : List ExceptHandler} {l : List Cl} (hc : Names X x c)
      (hi : X.N[i]? = some n) (hl : X.env.kindOf n = some .local)
      (su : ∀ (a : Addr) (oe : Obj) (cls : Value) (d : Option Addr) (pn : List (Addr × Obj)), Zc cls d oe → (∃ vs, oe.data = .fields vs) → PSs (X.suite a ((a, oe) :: pn)) (b0 :: bs) (ts a cls d)) (r : HMix X hs l) :
      HMix X (.ExceptHandler (some (.Name x q1)) (some n) (b0 :: bs) q2 :: hs) ((c, some i, ts) :: l)
section
variable {X : Cx} {body : List Stmt} {h0 : ExceptHandler} {hs : List ExceptHandler} {l : List Cl} {pos : Pos} {tb : WX → TS} {Wo : WX}
theorem ps_try_mix (st : X.stack = X.env :: X.outer) (fr : X.env.frame = some X.env.locals) (nd : X.N.Nodup) (tk : Takes X Wo)
    (hb : ∀ (W : WX) (pn : List (Addr × Obj)) (xe : Value → Shared → Prop), Takes (X.tr pn xe) W → PassesOwn (model X.prog X.w) X.A X.env xe → PSs (X.tr pn xe) body (tb W))
    (hh : HMix X (h0 :: hs) l) : PS X (.Try body (h0 :: hs) [] [] pos) (fun D τ G => tb (wMix X.K Wo D l) D τ G) := by
  refine ⟨fun pins s τ G D I h => ?_⟩
  have ok := I.ok
  have fram : X.A.frames = some (X.env :: X.outer) := by rw [ok.frames, st]
  refine wpAny_Try_except ?_
  refine wpAny_mono ((hb (wMix X.K Wo D l) (X.pn ++ pins) (fun e s1 => wpAny (model X.prog X.w) X.A (noteFrame e X.env) (fun _ s2 =>
    wpAny (model X.prog X.w) X.A (setFlight e none) (fun _ s3 => wpAny (model X.prog X.w) X.A (handleBy e X.env (h0 :: hs)) (SP X pins D) X.xe s3) X.xe s2) X.xe s1)
    (fun u s' xx => ?caught) PassesOwn.looking).run [] s τ G D (I.toTry _) h) (fun f s1 sp => ?through) (fun e s1 z => z)
  case through =>
    cases f with
    | next =>
      obtain ⟨τ', G', J, q⟩ := sp
      exact wpAny_execs_nil ⟨τ', G', J.ofTry ok, q⟩
    | brk => obtain ⟨τ', G', J, q⟩ := sp; exact ⟨τ', G', J.ofTry ok, q⟩
    | cont => obtain ⟨τ', G', J, q⟩ := sp; exact ⟨τ', G', J.ofTry ok, q⟩
    | ret u => obtain ⟨v, τ', G', J, r, q⟩ := sp; exact ⟨v, τ', G', J.ofTry ok, r, q⟩
  case caught =>
    obtain ⟨a, B, sI, pins1, τ1, G1, cls, d, rfl, J0, nb, up, sky, na, os, ag, w⟩ := xx
    have J : Inv X pins τ1 G1 sI := J0.ofTry ok
    have sky1 : Sky B (X.env :: X.outer) a (Zc cls d) X.env.locals s'.heap := by rw [← st]; exact sky
    show wpAny (model X.prog X.w) X.A (noteFrame (.ref a) X.env) _ _ _
    refine Sky.land Zc.steady fram fr sky1 fun g3 fl3 up3 => ?_
    have J3 : Inv X pins τ1 G1 { s' with heap := g3 } := J.landed nb fl3.1 (up.trans up3) os ag
    obtain ⟨o3, v3, e3, z3, d3⟩ := fl3.there
    have nofr : a ∉ frs (X.env :: X.outer) := fun hm => by
      obtain ⟨_, o', e', hn⟩ := fl3.2.2.1.mem hm
      rw [e3] at e'
      cases e'
      exact hn _ d3
    have nL : a ≠ X.env.locals := fun z => nofr (List.mem_filterMap.mpr ⟨X.env, List.mem_cons_self, by rw [fr, z]⟩)
    have nF : a ∉ X.fs := fun hm => by
      obtain ⟨e, he, q⟩ := List.mem_filterMap.mp hm
      exact nofr (List.mem_filterMap.mpr ⟨e, List.mem_cons_of_mem _ he, q⟩)
    have S3 := J3.suite e3 d3 na nL nF
    have typ : PySem.W.Looks (model X.prog X.w) g3 (typeOf (.ref a)) cls := fun A Q E s k q => wpAny_typeOf_ref (k _ _ e3) (by rw [z3.1]; exact q)
    have named : ∀ {x : Str} {c : Value} {np : Pos} {Q E : Value → Shared → Prop}, Names X x c → Q c { s' with heap := g3 } →
        wpAny (model X.prog X.w) (X.A.mark (some (.ref a))) (eval (.Name x np) X.env) Q E { s' with heap := g3 } := fun {x c np Q E} hc q => by
      obtain ⟨hg, hdbg, hm | ⟨hm, hv, hnn⟩⟩ := hc
      · exact ld_glob (X := X.suite a ((a, o3) :: (X.pn ++ pins))) S3 hg hm q hdbg
      · exact ld_blt (X := X.suite a ((a, o3) :: (X.pn ++ pins))) S3 hg hm hv q hnn hdbg
    have go : ∀ {hs1 : List ExceptHandler} {l1 : List Cl}, HMix X hs1 l1 → wMix X.K Wo D l1 cls d τ1 G1 →
        wpAny (model X.prog X.w) X.A (handleBy (.ref a) X.env hs1) (SP X pins D) X.xe { s' with heap := g3 } := by
      intro hs1 l1 hk
      induction hk with
      | nil =>
        intro w
        refine wpAny_handleBy_nil ?_
        obtain ⟨k1, k2, k3, oe, vs, T, oT, ts', he, hz, hd, h1, hr⟩ := id fl3
        unfold PySem.passOn
        refine wpAny_bind (wpAny_field he hd h1 ?_)
        rw [if_neg (show ¬ ((Value.ref T == Value.none) = true) from by simp)]
        have fin : wpAny (model X.prog X.w) X.A (setFlight (.ref a) X.env.frame) (fun _ s4 => wpAny (model X.prog X.w) X.A (throw (.ref a) : Sem Flow) (SP X pins D) X.xe s4) X.xe { s' with heap := g3 } := by
          rw [fr]
          refine HandSPX.setFlight_upZ fl3 fun g4 hh4 up4 => wpAny_throw (tk _ _ ?_)
          exact ⟨a, B, sI, pins, τ1, G1, cls, d, rfl, J, nb, (up.trans up3).trans up4, .inr (.inr (by rw [st]; exact hh4)), na, os, ag, w⟩
        first
          | exact wpAny_bind (wpAny_pure (wpAny_bind fin))
          | exact wpAny_bind fin
      | @bare x c ts b0 bs q1 q2 hs2 l2 hc su r ih =>
        rintro ⟨b, hb1, yes, no⟩
        have LM := PySem.W.exm_one (M := model X.prog X.w) (J3.kIn) typ hb1
        refine wpAny_handleBy_cons (codeAny_handlers_test ?_) (by intro q; cases q)
        refine named hc (LM.here ?_)
        cases b with
        | false =>
          show wpAny _ X.A (handleBy (.ref a) X.env hs2) _ _ _
          exact ih (no rfl)
        | true =>
          refine codeAny_handlers_suite ?_
          refine HandSPX.lands_againZ fl3 fun g4 fl4 up4 => ?_
          have J4 : Inv X pins τ1 G1 { s' with heap := g4 } := J.landed nb fl4.1 ((up.trans up3).trans up4) os ag
          obtain ⟨o4, v4, e4, z4, d4⟩ := fl4.there
          have S4 := J4.suite e4 d4 na nL nF
          refine wpAny_mono ((su a o4 cls d (X.pn ++ pins) z4 ⟨_, d4⟩).run [] _ _ G1 _ S4 (yes rfl a na)) (fun f s6 sp => ?_) (fun _ _ z => False.elim z)
          cases f with
          | next => obtain ⟨t6, G6, S6, q6⟩ := sp; exact ⟨_, _, S6.unsuite ok, q6⟩
          | brk => obtain ⟨t6, G6, S6, q6⟩ := sp; exact ⟨_, _, S6.unsuite ok, q6⟩
          | cont => obtain ⟨t6, G6, S6, q6⟩ := sp; exact ⟨_, _, S6.unsuite ok, q6⟩
          | ret u => obtain ⟨v6, t6, G6, S6, r6, q6⟩ := sp; exact ⟨_, _, _, S6.unsuite ok, r6, q6⟩
      | @named x n i c ts b0 bs q1 q2 hs2 l2 hc hi hl su r ih =>
        rintro ⟨b, hb1, yes, no⟩
        have LM := PySem.W.exm_one (M := model X.prog X.w) (J3.kIn) typ hb1
        refine wpAny_handleBy_cons (codeAny_handlers_test ?_) (by intro q; cases q)
        refine named hc (LM.here ?_)
        cases b with
        | false =>
          show wpAny _ X.A (handleBy (.ref a) X.env hs2) _ _ _
          exact ih (no rfl)
        | true =>
          refine codeAny_handlers_suite_as ?_
          refine HandSPX.lands_againZ fl3 fun g4 fl4 up4 => ?_
          have J4 : Inv X pins τ1 G1 { s' with heap := g4 } := J.landed nb fl4.1 ((up.trans up3).trans up4) os ag
          obtain ⟨o4, v4, e4, z4, d4⟩ := fl4.there
          have S4 := J4.suite e4 d4 na nL nF
          refine store_ok (X := X.suite a ((a, o4) :: (X.pn ++ pins))) (v := .ref a) S4 nd hi (.inl hl) rfl (fun s5 S5 => ?_) (.inr hl)
          refine wpAny_mono ((su a o4 cls d (X.pn ++ pins) z4 ⟨_, d4⟩).run [] s5 _ G1 _ S5 (yes rfl a na)) (fun f s6 sp => ?_) (fun _ _ z => False.elim z)
          have fin : ∀ {t6 : L2.St} {G6 : Hp} {Q : Shared → Prop}, Inv (X.suite a ((a, o4) :: (X.pn ++ pins))) [] t6 G6 s6 → (∀ s7, Inv X pins (t6.set i none) G6 s7 → Q s7) →
              wpAny (model X.prog X.w) X.A (do bindName X.env n .none; unbindBehindTheSuite X.env n q2) (fun _ s7 => Q s7) X.xe s6 := fun {t6 G6 Q} S6 hq => gone_ok (S6.unsuite ok) nd hi hl hq
          cases f with
          | next => obtain ⟨t6, G6, S6, q6⟩ := sp; exact fin S6 fun s7 J7 => ⟨_, _, J7, q6⟩
          | brk => obtain ⟨t6, G6, S6, q6⟩ := sp; exact fin S6 fun s7 J7 => ⟨_, _, J7, q6⟩
          | cont => obtain ⟨t6, G6, S6, q6⟩ := sp; exact fin S6 fun s7 J7 => ⟨_, _, J7, q6⟩
          | ret u => obtain ⟨v6, t6, G6, S6, r6, q6⟩ := sp; exact fin S6 fun s7 J7 => ⟨_, _, _, J7, r6, q6⟩
    exact go hh w
end

/-! ## f(e, ..) where f is any expression that gives a def -/
structure CanCall (X : Cx) (CX : CXT) (k : Nat) (f : Addr) (sp : Sp) : Prop where
  ex : ∃ (fd : FuncData) (ps : List Str), FnOk X.prog X.w X.K X.mg X.base CX k f fd ps sp ∧ PySem.W.keepIn X.K (.ref f) = true ∧ Binds X.K fd ps []
/-- the promise goes with the address: S f sp -/
def tCallE (S : Addr → Sp → Prop) (E : L2.St → XK) (tf : TE) (t : TA) : TE := fun σ H Q => tf σ H fun y H1 => ∃ f sp, y = .ref f ∧ S f sp ∧ t σ H1 fun vs H2 => sp vs H2 Q (E σ)
section
variable {X : Cx} {CX : CXT} {k : Nat} {S : Addr → Sp → Prop} {E : L2.St → XK} {fe e : Expr} {es : List Expr} {tf : TE} {t : TA} {pos : Pos}
theorem pe_callE (hf : PE X fe tf) (A : ∀ f sp, S f sp → CanCall X CX k f sp) (hr : Room k X.A) (hx : ∀ σ, PassesAt CX X σ (E σ)) (ha : PA X (e :: es) t)
    (ht : eval (.Call fe (e :: es) [] pos) X.env = (do callWith pos (← eval fe X.env) [] (backTo pos (starEach (e :: es) X.env)) (backToKw pos (keywordEach [] X.env))) := by rfl)
    (he : starEach (e :: es) X.env = (false, eval e X.env) :: starEach es X.env := by rfl) (hpl : (backTo pos (starEach es X.env)).any (·.1) = false := by rfl) :
    PE X (.Call fe (e :: es) [] pos) (tCallE S E tf t) := by
  refine ⟨fun pins s σ H Q I h => ?_⟩
  rw [ht]
  refine wpAny_bind (thn (hf.run pins s σ H _ I h) fun u s1 q1 => ?_)
  obtain ⟨y, H1, I1, ry, f, sp, ey, hs, q⟩ := q1
  subst ey
  cases ry
  obtain ⟨fd, ps, F, hk, hb⟩ := (A f sp hs).ex
  refine PySem.W.callWith_K (h₀ := X.base) I.ok.mod.kin hk (thn (ha.run pos pins s1 σ H1 _ I1 q) fun us s2 q2 => ?_) he hpl
  obtain ⟨vs, H2, I2, r, q3⟩ := q2
  exact ⟨I2.kIn, run_fnS F hr hb (hx σ) I2 r q3⟩
end
end Bk
namespace Bk
open PySem PySem.Spec PyProof.Rows L2

/-! ## for i, x in enumerate(a tuple) -/
set_option maxHeartbeats 4000000 in
theorem enum_new1 {v : Value} {o : Obj} {G : Heap → Prop} (B : Begins v o G) :
    Meets (Builtin.«enumerate.__new__» ⟨[.type "enumerate", v], []⟩) (fun _ R s => G s.heap ∧
      R (.ok (.ret (.ref (s.heap.push o).objs.size))) { s with heap := (s.heap.push o).push { cls := .type "enumerate", data := .fields #[.none, .bool false, .ref s.heap.objs.size, rawInt 0, .none, .none] } }) :=
  .of_wp fun prog w A R s h => by
    obtain ⟨hp, g, d, tk, os⟩ := s
    obtain ⟨h1, h⟩ := h
    have hsub := sub_enumerate
    have it0 : ∀ {A' : Around} {E : Value → Shared → Prop} {Q : Value → Shared → Prop}, Q (.ref hp.objs.size) ⟨hp.push o, g, d, tk, os⟩ → wpAny (model prog w) A' (pyIter v) Q E ⟨hp, g, d, tk, os⟩ :=
      fun q => B.iter prog w _ _ ⟨hp, g, d, tk, os⟩ _ h1 q
    wp_walk using it0
    refine wpAny_stack_any fun st => wpAny_pure ?_
    split
    · rename_i c _ _ _ _ _
      cases (c == Value.type "enumerate") <;> (wp_walk using it0; exact ⟨_, rfl, h⟩)
    · wp_walk using it0
      exact ⟨_, rfl, h⟩
section
variable {prog : Program} {w : World} {A : Around} {E : Value → Shared → Prop} {s : Shared}
theorem enum_call1 {v : Value} {o : Obj} {G : Heap → Prop} {Q : Value → Shared → Prop} (B : Begins v o G) (h1 : G s.heap)
    (h : ∀ g, IsEnum g (s.heap.objs.size + 1) s.heap.objs.size 0 .none → g.get? s.heap.objs.size = some o → g.objs.size = s.heap.objs.size + 2 →
      (∀ b o, s.heap.get? b = some o → g.get? b = some o) → Q (.ref (s.heap.objs.size + 1)) { s with heap := g }) :
    wpAny (model prog w) A (call (.type "enumerate") [v]) Q E s := by
  refine callType_new F.called_enumerate (by decide) (F.typeCall_enumerate_1 _) (F.newCall_enumerate_1 _) (fun obj => F.args_object_init_2 obj _) F.entry_enumerate_new (enum_new1 B) ⟨h1, ?_⟩
  have z : (s.heap.push o).objs.size = s.heap.objs.size + 1 := Heap.size_push ..
  show _ ∧ _
  rw [z]
  have e0 := Heap.get?_push_size (s.heap.push o) (o := { cls := .type "enumerate", data := .fields #[.none, .bool false, .ref s.heap.objs.size, rawInt 0, .none, .none] }) rfl
  rw [z] at e0
  exact ⟨⟨_, e0, rfl⟩, h _ e0 (Heap.get?_push_of_some _ (Heap.get?_push_size _ B.free)) (by rw [Heap.size_push, z]) fun b o x => Heap.get?_push_of_some _ (Heap.get?_push_of_some _ x)⟩
end
/-- the tuple at a, each item in a new pair -/
def ItEt (K : PySem.W.Frag) (a : Addr) : It :=
  ⟨fun i G => ∃ (xs : List V) (x : V), SqT K G a xs ∧ xs[i]? = some x,
   fun i G v G' => ∃ T x, v = .ref T ∧ G T = none ∧ G' = upd G T (.tup [.int (i : Nat), x]) ∧ ∀ xs, SqT K G a xs → xs[i]? = some x,
   fun i G => ∃ xs : List V, SqT K G a xs ∧ xs.length ≤ i⟩
theorem turn_enumT {P : Program} {w : World} {K : PySem.W.Frag} {elts : List Expr} {kk : Nat} {tpos : Pos} (a e it : Addr) (hai : a ≠ it) (hea : e ≠ a) :
    Turn P w K (.Tuple elts kk tpos) (ItEt K a) [e, it] e (fun i g => (∃ old, IsEnum g e it ((i : Nat) : Int) old) ∧ g.IsTupleIter it a i ∧ e ≠ it) where
  mem := by simp
  obj := fun i g st b hb => by
    obtain ⟨⟨old, he⟩, ⟨o, ho, hc, hd⟩, _⟩ := st
    have two : b = e ∨ b = it := by simpa using hb
    rcases two with z | z
    · rw [z]; exact ⟨_, he, fun v q => nomatch q⟩
    · rw [z]; exact ⟨o, ho, fun v q => by rw [hd] at q; cases q⟩
  keep := fun i g g' st k => let ⟨⟨old, he⟩, hi, hne⟩ := st; ⟨⟨old, k e (by simp) _ he⟩, hi.at fun o q => k it (by simp) o q, hne⟩
  item := by
    intro X eP ew eK hc i pins s τ G E I hf st hg
    subst eP ew eK
    obtain ⟨⟨old, he⟩, hit, hne⟩ := st
    obtain ⟨xs, x, hq, hx⟩ := hg
    obtain ⟨its, rv, p, hz⟩ := I.tuple hq
    obtain ⟨u, hu, ru⟩ := rv.get hx
    have hel : e < s.heap.objs.size := Heap.lt_size he
    have hil : it < s.heap.objs.size := by obtain ⟨_, q, _⟩ := hit; exact Heap.lt_size q
    have lt : i < its.toArray.size := by
      have l1 := (List.getElem?_eq_some_iff.mp hu).1
      simpa using l1
    have tup : s.heap.IsTuple a its.toArray := p
    refine wpAny_pyNext_enum_itemD (Draws.tuple (show X.A.in1.handled = none from I.ok.hd hc) it a hai its.toArray) he ⟨hit, tup⟩ lt hne (by simp [hne, hea]) fun y g' tk hy ho hst hT hsz hk => ?_
    obtain rfl : u = y := by
      have h1 : its.toArray[i]? = some u := by simpa using hu
      exact Option.some.inj (h1.symm.trans hy)
    refine ⟨_, rfl, wpAny_letOwnedTupleGo_enum (s := { s with heap := g', toks := tk + 1 }) ho fun g2 he2 sb => ?_⟩
    have hT2 : g2.get? s.heap.objs.size = some { cls := .type "tuple", data := .seq #[.int i tk, u] } := (sb.2 _ (Nat.ne_of_gt hel)).trans hT
    have new : ObjOk X.prog X.w (upd G s.heap.objs.size (.tup [.int (i : Nat), x])) g2 s.heap.objs.size (.tup [.int (i : Nat), x]) :=
      ⟨by show 2 ≤ sizeLine; decide, [.int i tk, u], .cons ⟨_, rfl⟩ (.cons ru .nil), ⟨_, hT2, rfl, _, rfl⟩⟩
    have I1 : Inv X pins τ (upd G s.heap.objs.size (.tup [.int (i : Nat), x])) { s with heap := g2, toks := tk + 1 } :=
      I.turnedNew (ch := [e, it]) (fun b ob hb q => (sb.2 b (fun z => hb (by simp [z]))).trans (hk b ob (fun z => hb (by simp [z])) (fun z => hb (by simp [z])) q)) hf (Nat.le_refl _) new
    refine ⟨.ref s.heap.objs.size, _, I1, rfl, ⟨_, x, rfl, I.hok.fresh (Nat.le_refl _), rfl, fun ys hy => by rw [I.tuple_inj hy hq]; exact hx⟩, ⟨⟨u, ?_⟩, hst.1.at fun o q => (sb.2 it (Ne.symm hne)).trans q, hne⟩, fun b hb => ?_⟩
    · have e1 : ((i + 1 : Nat) : Int) = (i : Int) + 1 := by omega
      rw [e1]
      exact he2
    · have two : b = e ∨ b = it := by simpa using hb
      have lt2 : b < s.heap.objs.size := by
        rcases two with z | z
        · rw [z]; exact hel
        · rw [z]; exact hil
      rw [upd_ne (Nat.ne_of_lt lt2)]
      exact (hf b hb).1
  done := by
    intro X eP ew eK hc i pins s τ G E I hf st hg
    subst eP ew eK
    obtain ⟨⟨old, he⟩, hit, hne⟩ := st
    obtain ⟨xs, hq, hx⟩ := hg
    obtain ⟨its, rv, p, hz⟩ := I.tuple hq
    obtain ⟨f0, f1, f2, f3, f4, f5⟩ := hf it (by simp)
    have tup : s.heap.IsTuple a its.toArray := p
    have hl := rv.length
    have hT : s.TypeIs (.ref e) "enumerate" := ⟨_, he, rfl⟩
    unfold pyNext
    refine wpAny_bind (wpAny_attempt (wpAny_callSpecial?_slot (name := Str.ofString "__next__") hT F.slot_enumerate_next (wpAny_call_entry F.slot_enumerate_next hT F.entry_enumerate_next ?_ (F.args_enumerate_next_1 _))))
    show wpAny _ _ (field (.ref e) 2 >>= _) _ _ _
    refine wpAny_bind (wpAny_field he rfl (x := .ref it) rfl ?_)
    refine wpAny_bind (wpAny_nextOf_tuple_end (show X.A.in1.handled = none from I.ok.hd hc) hit tup (by simp; omega) fun g' x' eb hx' => ?_)
    obtain ⟨o, ho, hc'⟩ := hx'
    refine wpAny_bind (wpAny_isInstance (T := "StopIteration") (b := true) ⟨o, ho, hc'⟩ isSubtype_stop ?_)
    exact wpAny_pure ⟨rfl, I.turned (t' := s.toks) (fun b o hb q => eb b o hb q) f0 f1 f3 f4 f5⟩
  self := fun A i s Q E st h => let ⟨⟨_, he⟩, _⟩ := st; wpAny_pyIter_enum he h
def iEnumT (K : PySem.W.Frag) (ta : TA) : TI := fun τ G R => ta τ G fun vs G1 => ∃ a xs, vs = [.ref a] ∧ SqT K G1 a xs ∧ R (ItEt K a) G1
theorem pi_enumT {X : Cx} {e : Expr} {ta : TA} {p pos tpos : Pos} {elts : List Expr} {kk : Nat} (hg : Gl X "enumerate") (hm : X.mg "enumerate" = none) (ha : PA X [e] ta) (hs : starEach [e] X.env = [(false, eval e X.env)] := by rfl) :
    PI X (.Tuple elts kk tpos) (.Call (.Name "enumerate" p) [e] [] pos) (iEnumT X.K ta) := by
  refine ⟨fun pins s τ G R I h => ?_⟩
  refine Call_ (ld_blt I hg hm boot_enumerate (PyProof.Rows.callWith_type1 (thn (ha.run pos pins s τ G _ I h) fun us s1 q0 => ?_) hs rfl))
  obtain ⟨vs, G1, I1, r1, a, xs, ex, hq, q⟩ := q0
  subst ex
  cases r1 with
  | cons r rr =>
    cases rr
    cases r
    obtain ⟨its, rv, p', hz⟩ := I1.tuple hq
    have tup : s1.heap.IsTuple a its.toArray := p'
    have hlt : a < s1.heap.objs.size := by obtain ⟨o, eo, _⟩ := tup; exact Heap.lt_size eo
    refine enum_call1 (begins_tuple a its.toArray) tup fun g he hit hsz hk => wpAny_pyIter_enum he ?_
    have I2 : Inv X pins τ G1 { s1 with heap := g } := I1.kept (t' := s1.toks) hk
    refine ⟨s1.heap.objs.size + 1, [s1.heap.objs.size + 1, s1.heap.objs.size], _, _, G1, rfl, I2, turn_enumT a (s1.heap.objs.size + 1) s1.heap.objs.size (Nat.ne_of_lt hlt) (Nat.ne_of_gt (Nat.lt_succ_of_lt hlt)),
      ⟨⟨.none, he⟩, ⟨_, hit, rfl, rfl⟩, Nat.succ_ne_self _⟩, fun b hb => ?_, q⟩
    have two : b = s1.heap.objs.size + 1 ∨ b = s1.heap.objs.size := by simpa using hb
    have hle : s1.heap.objs.size ≤ b := by
      rcases two with z | z
      · rw [z]; exact Nat.le_add_right _ _
      · rw [z]; exact Nat.le_refl _
    exact I1.fpOk hle (I1.hok.fresh hle)
/-- over a tuple that the body leaves as it is -/
theorem for_enumT {K : PySem.W.Frag} {a : Addr} {xs : List V} {g : TG} {tb : TS} {D : Ends} {τ : L2.St} {G : Hp} (Pv : Nat → L2.St → Hp → Prop) (h0 : Pv 0 τ G) (hl : ∀ i τ G, i ≤ xs.length → Pv i τ G → SqT K G a xs)
    (step : ∀ i x τ G T, xs[i]? = some x → Pv i τ G → G T = none → g (.ref T) τ (upd G T (.tup [.int (i : Nat), x])) fun τ2 G2 => tb { D with nx := Pv (i + 1), ct := Pv (i + 1), bk := D.nx } τ2 G2)
    (last : ∀ τ G, Pv xs.length τ G → D.nx τ G) :
    ∃ W : Nat → Nat → L2.St → Hp → Prop, (∃ m, W 0 m τ G) ∧ ∀ i m τ G, W i m τ G → ((ItEt K a).stop i G ∧ D.nx τ G) ∨ ((ItEt K a).go i G ∧ ∃ N : L2.St → Hp → Prop,
      (∀ τ' G', N τ' G' → ∃ m', m' < m ∧ W (i + 1) m' τ' G') ∧ ∀ x G', (ItEt K a).yld i G x G' → g x τ G' fun τ2 G2 => tb { D with nx := N, ct := N, bk := D.nx } τ2 G2) := by
  refine ⟨fun i m τ G => m = xs.length - i ∧ i ≤ xs.length ∧ Pv i τ G, ⟨xs.length, by simp, Nat.zero_le _, h0⟩, ?_⟩
  rintro i m τ G ⟨rfl, hi, p⟩
  have q := hl i τ G hi p
  by_cases c : i < xs.length
  · refine .inr ⟨⟨xs, xs[i], q, by simp [c]⟩, Pv (i + 1), fun τ' G' p' => ⟨xs.length - (i + 1), by omega, rfl, c, p'⟩, fun x G' y => ?_⟩
    obtain ⟨T, z, rfl, hT, rfl, hz⟩ := y
    exact step i z τ G T (hz xs q) p hT
  · have e : i = xs.length := by omega
    subst e
    exact .inl ⟨⟨xs, q, Nat.le_refl _⟩, last τ G p⟩

/-! ## a dict against a text -/
theorem deq_str (l : Addr) (o : Obj) (b : Str) (u : Tok) (es : Array DictEntry) (n : Nat) (hd : o.data = .dict es n) (hc : o.cls = .type "dict") :
    Meets (Builtin.«dict.__eq__» ⟨[.ref l, .str b u], []⟩) (fun _ R s => s.heap.get? l = some o ∧ R (.ok (.ret .notImplemented)) s) :=
  .of_wp fun prog w A R s h => by
    obtain ⟨hp, g, d, tk, os⟩ := s
    obtain ⟨hl, h⟩ := h
    obtain ⟨c, dd, dt, sl⟩ := o
    dsimp only at hd hc
    subst hd hc
    have f1 := F.sub_str_dict
    wp_walk using PySem.AutoSeq1.wpAny_loadPart' hl
    exact ⟨_, rfl, h⟩
end Bk
namespace Bk
open PySem PySem.Spec PyProof.Rows L2
theorem dne_str (l : Addr) (o : Obj) (b : Str) (u : Tok) (es : Array DictEntry) (n : Nat) (hd : o.data = .dict es n) (hc : o.cls = .type "dict") :
    Meets (Builtin.«dict.__ne__» ⟨[.ref l, .str b u], []⟩) (fun _ R s => s.heap.get? l = some o ∧ R (.ok (.ret .notImplemented)) s) :=
  .of_wp fun prog w A R s h => by
    obtain ⟨hp, g, d, tk, os⟩ := s
    obtain ⟨hl, h⟩ := h
    obtain ⟨c, dd, dt, sl⟩ := o
    dsimp only at hd hc
    subst hd hc
    have f1 := F.sub_str_dict
    wp_walk using PySem.AutoSeq1.wpAny_loadPart' hl
    exact ⟨_, rfl, h⟩
theorem sne_dict (b : Str) (u : Tok) (l : Addr) (o : Obj) (es : Array DictEntry) (n : Nat) (hd : o.data = .dict es n) :
    Meets (Builtin.«str.__ne__» ⟨[.str b u, .ref l], []⟩) (fun _ R s => s.heap.get? l = some o ∧ R (.ok (.ret .notImplemented)) s) :=
  .of_wp fun prog w A R s h => by
    obtain ⟨hp, g, d, tk, os⟩ := s
    obtain ⟨hl, h⟩ := h
    obtain ⟨c, dd, dt, sl⟩ := o
    dsimp only at hd
    subst hd
    wp_walk using PySem.AutoSeq1.wpAny_loadPart' hl, wpAny_load hl
    exact ⟨_, rfl, h⟩
theorem seq_dict (b : Str) (u : Tok) (l : Addr) (o : Obj) (es : Array DictEntry) (n : Nat) (hd : o.data = .dict es n) :
    Meets (Builtin.«str.__eq__» ⟨[.str b u, .ref l], []⟩) (fun _ R s => s.heap.get? l = some o ∧ R (.ok (.ret .notImplemented)) s) :=
  .of_wp fun prog w A R s h => by
    obtain ⟨hp, g, d, tk, os⟩ := s
    obtain ⟨hl, h⟩ := h
    obtain ⟨c, dd, dt, sl⟩ := o
    dsimp only at hd
    subst hd
    wp_walk using PySem.AutoSeq1.wpAny_loadPart' hl, wpAny_load hl
    exact ⟨_, rfl, h⟩
section
variable {X : Cx}
/-- a tracked dict against a text -/
def rDS (c : Bool) : R2 := fun x y G Q => ∃ a kvs z, x = .ref a ∧ y = .str z ∧ G a = some (.dK kvs) ∧ Q (.bl c) G
theorem dict_obj {pins : List (Addr × Obj)} {τ : L2.St} {G : Hp} {s : Shared} {a : Addr} {kvs : List (Key × V)} (I : Inv X pins τ G s) (h : G a = some (.dK kvs)) :
    ∃ o es n, s.heap.get? a = some o ∧ o.data = .dict es n ∧ o.cls = .type "dict" := by
  obtain ⟨_, _, vs, _, o, es, ep, h1, h2, r⟩ := (show ObjOk X.prog X.w G s.heap a (.dK kvs) from I.hok a _ h)
  exact ⟨o, es, ep, h1, r.1, h2.1⟩
theorem op_ne_ds (hu : X.A.units < cLine) : OpR X (compareOp .NotEq) (rDS true) := by
  intro pins s τ G x y v u Q I rx ry h
  obtain ⟨a, kvs, z, rfl, rfl, ha, q⟩ := h
  cases rx
  obtain ⟨t, rfl⟩ := ry
  obtain ⟨o, es, n, ho, hd, hc⟩ := dict_obj I ha
  show wpAny _ _ (richCompare .NotEq _ _) _ _ s
  exact SeqAt.rc_ne_decline_or (k := false) ⟨o, ho, hc⟩ (typeIs_str s z t) (by decide) F.sub_str_dict F.slot_dict_ne F.slot_str_ne_refl
    (fun _ hq => call_meets F.slot_dict_ne ⟨o, ho, hc⟩ F.entry_dict_ne (F.args_dict_ne_2 _ _) (dne_str a o z t es n hd hc) ⟨ho, hq⟩)
    (fun _ hq => call_meets F.slot_str_ne_refl (typeIs_str s z t) F.entry_str_ne (F.args_str_ne_2 _ _) (sne_dict z t a o es n hd) ⟨ho, hq⟩)
    (fun _ hq => wpAny_of_eq (rfl : isSame (.ref a) (.str z t) = pure false) hq) (.inr hu) ⟨.bl true, G, I, rfl, q⟩
theorem op_eq_ds (hu : X.A.units < cLine) : OpR X (compareOp .Eq) (rDS false) := by
  intro pins s τ G x y v u Q I rx ry h
  obtain ⟨a, kvs, z, rfl, rfl, ha, q⟩ := h
  cases rx
  obtain ⟨t, rfl⟩ := ry
  obtain ⟨o, es, n, ho, hd, hc⟩ := dict_obj I ha
  show wpAny _ _ (richCompare .Eq _ _) _ _ s
  exact SeqAt.rc_eq_decline_or (k := false) ⟨o, ho, hc⟩ (typeIs_str s z t) (by decide) F.sub_str_dict F.slot_dict_eq F.slot_str_eq_refl
    (fun _ hq => call_meets F.slot_dict_eq ⟨o, ho, hc⟩ F.entry_dict_eq (F.args_dict_eq_2 _ _) (deq_str a o z t es n hd hc) ⟨ho, hq⟩)
    (fun _ hq => call_meets F.slot_str_eq_refl (typeIs_str s z t) F.entry_str_eq (F.args_str_eq_2 _ _) (seq_dict z t a o es n hd) ⟨ho, hq⟩)
    (fun _ hq => wpAny_of_eq (rfl : isSame (.ref a) (.str z t) = pure false) hq) (.inr hu) ⟨.bl false, G, I, rfl, q⟩
/-- of two rules for one operator either -/
theorem op_or {f : Value → Value → Sem Value} {r r' : R2} (h : OpR X f r) (h' : OpR X f r') : OpR X f (fun x y G Q => r x y G Q ∨ r' x y G Q) := by
  intro pins s τ G x y v u Q I rx ry q
  rcases q with q | q
  · exact h pins s τ G x y v u Q I rx ry q
  · exact h' pins s τ G x y v u Q I rx ry q
end
end Bk
/-! the mirror of buildroom.paths: what its checks say, over texts -/
namespace Bm
open PySem L2 TL
/-- [a, b, ..] below [c, ..] for single signs -/
theorem lt_one (a b : Nat) : decide (([a] : List Nat) < [b]) = decide (a < b) := by
  rw [Bool.eq_iff_iff, decide_eq_true_eq, decide_eq_true_eq]
  constructor
  · intro h
    cases h with
    | rel h => exact h
    | cons h => cases h
  · intro h
    exact List.Lex.rel h
def sgnN (c : Nat) : Bool := (decide (97 ≤ c) && decide (c ≤ 122)) || (decide (48 ≤ c) && decide (c ≤ 57))
def sgnT (c : Nat) : Bool := (decide (32 ≤ c) && decide (c ≤ 126)) || decide (c = 10)
def nameB (x : Str) : Bool := decide (1 ≤ x.length) && decide (x.length ≤ 6) && x.cps.toList.all sgnN
def partsOf (x : Str) : List Str := Txt.split x (Str.ofString "/")
def pathB (x : Str) : Bool := decide ((partsOf x).length ≤ 3) && (partsOf x).all nameB
def textB (x : Str) : Bool := decide (x.length ≤ 200) && x.cps.toList.all sgnT
def within (p f : Str) : Bool := decide (f = Str.ofString "") || Txt.startswith p (f ++ Str.ofString "/")
def isPathV : V → Bool
  | .str x => pathB x
  | _ => false
def isTextV : V → Bool
  | .str x => textB x
  | _ => false
def isFolderV : V → Bool
  | .str x => pathB x || decide (x = Str.ofString "")
  | _ => false
theorem spl_len {S : List Nat} : ∀ (l : List Nat) (k : Nat) (acc p : List Nat), p ∈ spl S k acc l → p.length ≤ acc.length + l.length
  | [], k, acc, p, h => by
    rw [spl_nil] at h
    have e : p = acc := by simpa using h
    subst e
    simp
  | c :: r, 0, acc, p, h => by
    by_cases q : pre S (c :: r) = true
    · rw [spl_hit q] at h
      rcases List.mem_cons.mp h with rfl | h
      · simp
      · have ih := spl_len r _ _ p h
        simp at ih ⊢
        omega
    · rw [spl_miss (by simpa using q)] at h
      have ih := spl_len r _ _ p h
      simp at ih ⊢
      omega
  | c :: r, k + 1, acc, p, h => by
    have h' : p ∈ spl S k acc r := h
    have ih := spl_len r _ _ p h'
    simp at ih ⊢
    omega
theorem str_len (x : Str) : (tl x).length = x.length := by simp [tl, Str.length]
theorem part_len {x p : Str} (h : p ∈ partsOf x) : p.length ≤ x.length := by
  have e := split_spl x (Str.ofString "/") (by decide) (kind_ok (by decide +kernel))
  have h1 : tl p ∈ (Txt.split x (Str.ofString "/")).map tl := List.mem_map.mpr ⟨p, h, rfl⟩
  rw [e] at h1
  have h2 := spl_len _ _ _ _ h1
  rw [str_len, str_len] at h2
  simpa using h2
example : pathB (Str.ofString "e/f/g") = true := by decide +kernel
example : pathB (Str.ofString "a/b/c/d") = false := by decide +kernel
end Bm
/-! more of what readings evaluate to -/
namespace Be
open PySem PySem.Spec PyProof.Rows L2 Bk Bm Evl
section
variable {K : PySem.W.Frag} {σ : L2.St} {H H' : Hp} {ta tb tc te tx : TE} {t u : TT} {x y z v : V} {r r' : R2}
theorem ev_chain {b1 b2 : Bool} (ha : Ev ta σ H x) (hb : Ev tb σ H y) (hr : RV r x y H (.bl b1)) (hc : b1 = true → Ev tc σ H z) (hr' : b1 = true → RV r' y z H (.bl b2)) : Ev (tChain r r' ta tb tc) σ H (.bl (b1 && b2)) := fun H1 e Q q =>
  ha H1 e _ fun H2 e2 => hb H2 (e.trans e2) _ fun H3 e3 => hr H3 ((e.trans e2).trans e3) _ fun H4 e4 => ⟨b1, rfl, by
    have e14 := (e2.trans e3).trans e4
    cases b1 with
    | false =>
      rw [if_neg (by decide)]
      exact q H4 e14
    | true =>
      rw [if_pos rfl]
      exact hc rfl H4 (e.trans e14) _ fun H5 e5 => hr' rfl H5 ((e.trans e14).trans e5) Q fun H6 e6 => q H6 ((e14.trans e5).trans e6)⟩
theorem ev_isL {xs ys : List V} (h : EvL te σ H xs) (e : xs = ys) : EvL te σ H ys := by
  rw [← e]
  exact h
theorem ev_and {a b : Bool} (h1 : Ev ta σ H (.bl a)) (h2 : a = true → Ev tb σ H (.bl b)) : Ev (tAndV ta tb) σ H (.bl (a && b)) := ev_andV h1 h2
/-- a comprehension over a text, no test -/
theorem el_lcS {j : Nat} {w : Str} {tl : TE} (f : Nat → V) (h : Ev tl σ H (.str w)) (hz : w.length ≤ 40000)
    (he : ∀ (c : Nat) H1, Ex H H1 → c ∈ w.cps.toList → Ev te (σ.set j (some (.str ⟨#[c]⟩))) H1 (f c)) : EvL (tLc (iStr tl) (gName j) tYes te [j]) σ H (w.cps.toList.map f) := fun H0 e Q q => h H0 e _ fun H1 e1 => ⟨w, rfl, fun D hD =>
  lc_it (walk_str (z := w)) (fun i G => Ex H1 G ∧ G D = some (.lst ((w.cps.toList.take i).map f))) ⟨Ex.new hD, upd_same⟩ (fun _ _ _ _ => trivial) (by
    rintro i v G G' hi ⟨s1, hd⟩ ⟨rfl, c, hc, rfl⟩
    have hl : w.cps.toList[i]? = some c := by simpa using hc
    have ee : (wipe σ [j]).set j (some (V.str ⟨#[c]⟩)) = σ.set j (some (V.str ⟨#[c]⟩)) := by
      show (σ.set j none).set j (some (V.str ⟨#[c]⟩)) = _
      rw [List.set_set]
    show wipe ((wipe σ [j]).set j (some (V.str ⟨#[c]⟩))) [j] = wipe σ [j] ∧ _
    rw [ee]
    refine ⟨by show (σ.set j _).set j none = σ.set j none; rw [List.set_set], ?_⟩
    unfold tYes
    dsimp only
    rw [if_pos rfl]
    refine he c G' ((e.trans e1).trans s1) (List.mem_of_getElem? hl) G' (Ex.refl _) _ fun G2 e2 => ⟨_, e2 D _ hd, sz_lt ?_, (s1.trans e2).mut hD, ?_⟩
    · rw [List.length_map]
      have h1 := List.length_take_le i w.cps.toList
      have h2 : w.cps.toList.length = w.length := by simp [Str.length]
      have h3 := List.length_take_le' i w.cps.toList
      omega
    · rw [upd_same, List.take_succ, hl]
      simp) (by
    rintro G ⟨s1, hd⟩
    refine q D G (fresh_back e1 hD) (e1.trans s1) ?_
    rw [hd]
    have h2 : w.cps.toList.length = w.cps.size := by simp
    rw [List.take_of_length_le (Nat.le_of_eq h2)])⟩
/-- over a list, no test -/
theorem el_lcN {j : Nat} {xs : List V} {tl : TE} (f : V → V) (h : EvL tl σ H xs) (hz : xs.length ≤ 40000)
    (he : ∀ (x : V) H1, Ex H H1 → x ∈ xs → Ev te (σ.set j (some x)) H1 (f x)) : EvL (tLc (iList K tl) (gName j) tYes te [j]) σ H (xs.map f) := fun H0 e Q q => h H0 e _ fun a H1 ha e1 hx => ⟨a, rfl, ⟨xs, sq_of hx⟩, fun D hD =>
  lc_it (walk_list (K := K) (a := a) (xs := xs)) (fun i G => Ex H1 G ∧ G D = some (.lst ((xs.take i).map f))) ⟨Ex.new hD, upd_same⟩ (fun i G _ p => sq_of (p.1 a _ hx)) (by
    rintro i v G G' hi ⟨s1, hd⟩ ⟨rfl, hl⟩
    have ee : (wipe σ [j]).set j (some v) = σ.set j (some v) := by
      show (σ.set j none).set j (some v) = _
      rw [List.set_set]
    show wipe ((wipe σ [j]).set j (some v)) [j] = wipe σ [j] ∧ _
    rw [ee]
    refine ⟨by show (σ.set j _).set j none = σ.set j none; rw [List.set_set], ?_⟩
    unfold tYes
    dsimp only
    rw [if_pos rfl]
    refine he v G' ((e.trans e1).trans s1) (List.mem_of_getElem? hl) G' (Ex.refl _) _ fun G2 e2 => ⟨_, e2 D _ hd, sz_lt ?_, (s1.trans e2).mut hD, ?_⟩
    · rw [List.length_map]
      have h3 := List.length_take_le' i xs
      omega
    · rw [upd_same, List.take_succ, hl]
      simp) (by
    rintro G ⟨s1, hd⟩
    refine q D G (fresh_back e1 hD) (e1.trans s1) ?_
    rw [hd, List.take_of_length_le (Nat.le_refl _)])⟩
/-- over a tuple, no test -/
theorem el_lcT {j : Nat} {a : Addr} {xs : List V} {tl : TE} (f : V → V) (h : Ev tl σ H (.ref a)) (hx : SqT K H a xs) (hz : xs.length ≤ 40000)
    (he : ∀ (x : V) H1, Ex H H1 → x ∈ xs → Ev te (σ.set j (some x)) H1 (f x)) : EvL (tLc (iTup K tl) (gName j) tYes te [j]) σ H (xs.map f) := fun H0 e Q q => h H0 e _ fun H1 e1 => ⟨a, rfl, ⟨xs, ex_t (e.trans e1) hx⟩, fun D hD =>
  lc_it (walk_tup (K := K) (a := a) (xs := xs)) (fun i G => Ex H1 G ∧ G D = some (.lst ((xs.take i).map f))) ⟨Ex.new hD, upd_same⟩ (fun i G _ p => ex_t ((e.trans e1).trans p.1) hx) (by
    rintro i v G G' hi ⟨s1, hd⟩ ⟨rfl, hl⟩
    have ee : (wipe σ [j]).set j (some v) = σ.set j (some v) := by
      show (σ.set j none).set j (some v) = _
      rw [List.set_set]
    show wipe ((wipe σ [j]).set j (some v)) [j] = wipe σ [j] ∧ _
    rw [ee]
    refine ⟨by show (σ.set j _).set j none = σ.set j none; rw [List.set_set], ?_⟩
    unfold tYes
    dsimp only
    rw [if_pos rfl]
    refine he v G' ((e.trans e1).trans s1) (List.mem_of_getElem? hl) G' (Ex.refl _) _ fun G2 e2 => ⟨_, e2 D _ hd, sz_lt ?_, (s1.trans e2).mut hD, ?_⟩
    · rw [List.length_map]
      have h3 := List.length_take_le' i xs
      omega
    · rw [upd_same, List.take_succ, hl]
      simp) (by
    rintro G ⟨s1, hd⟩
    refine q D G (fresh_back e1 hD) (e1.trans s1) ?_
    rw [hd, List.take_of_length_le (Nat.le_refl _)])⟩
theorem ev_all {bs : List Bool} (h : EvL te σ H (bs.map V.bl)) : Ev (tCB (rAll K) (tCons te tNil)) σ H (.bl (bs.all id)) := fun H1 e Q q =>
  h H1 e _ fun p H2 _ e2 h2 => ⟨p, bs, rfl, sq_of h2, q H2 e2⟩
theorem ev_any {bs : List Bool} (h : EvL te σ H (bs.map V.bl)) : Ev (tCB (rAny K) (tCons te tNil)) σ H (.bl (bs.any id)) := fun H1 e Q q =>
  h H1 e _ fun p H2 _ e2 h2 => ⟨p, bs, rfl, sq_of h2, q H2 e2⟩
theorem ev_lenS {w : Str} (h : Ev te σ H (.str w)) (hl : w.length ≤ 100000) : Ev (tCB (fun xs H Q => ∃ z, xs = [V.str z] ∧ z.length ≤ sizeLine ∧ Q (.int z.length) H) (tCons te tNil)) σ H (.int (w.length : Int)) := fun H1 e Q q =>
  h H1 e _ fun H2 e2 => ⟨w, rfl, sz_of hl, q H2 e2⟩
/-- what isinstance asks of any value of these programs -/
inductive Kd (K : PySem.W.Frag) (H : Hp) : V → String → Prop
  | mk {v : V} {n : String} (h : TyX K H v (.type n)) (k : n ∈ (["NoneType", "bool", "int", "str", "list", "tuple", "dict"] : List String)) : Kd K H v n
theorem kd_str (x : Str) : Kd K H (.str x) "str" := ⟨.base (.str x), by decide⟩
theorem kd_non : Kd K H .non "NoneType" := ⟨.base .non, by decide⟩
theorem kd_int (i : Int) : Kd K H (.int i) "int" := ⟨.base (.int i), by decide⟩
theorem kd_bl (b : Bool) : Kd K H (.bl b) "bool" := ⟨.base (.bl b), by decide⟩
theorem kd_lst {a : Addr} {xs : List V} (h : H a = some (.lst xs)) : Kd K H (.ref a) "list" := ⟨.base (.lst h), by decide⟩
theorem kd_tup {a : Addr} {xs : List V} (h : H a = some (.tup xs)) : Kd K H (.ref a) "tuple" := ⟨.base (.tup h), by decide⟩
theorem kd_dK {a : Addr} {kvs : List (Key × V)} (h : H a = some (.dK kvs)) : Kd K H (.ref a) "dict" := ⟨.base (.dK h), by decide⟩
theorem tyOf_mono {v : V} {T : Value} (e : Ex H H') (h : TyOf K H v T) : TyOf K H' v T := by
  cases h with
  | non => exact .non
  | bl b => exact .bl b
  | int i => exact .int i
  | str x => exact .str x
  | flt x => exact .flt x
  | lst h => exact .lst (e _ _ h)
  | frz h => exact .frz (e _ _ h)
  | tup h => exact .tup (e _ _ h)
  | dK h => exact .dK (e _ _ h)
  | dT h => exact .dT (e _ _ h)
  | ins h a b c d f => exact .ins (e _ _ h) a b c d f
theorem tyX_mono {v : V} {T : Value} (e : Ex H H') (h : TyX K H v T) : TyX K H' v T := by
  cases h with
  | base h => exact .base (tyOf_mono e h)
  | byt b => exact .byt b
  | set h => exact .set (e _ _ h)
  | kList h c => exact .kList h c
  | kTuple h c => exact .kTuple h c
  | kDict h c => exact .kDict h c
  | fTuple h => exact .fTuple (e _ _ h)
  | fDict h => exact .fDict (e _ _ h)
theorem Kd.mono {n : String} (e : Ex H H') (h : Kd K H v n) : Kd K H' v n := by
  obtain ⟨h, k⟩ := h
  exact ⟨tyX_mono e h, k⟩
theorem kd_kit {n m : String} (h : Kd K H v n) (hm : m = "str" ∨ m = "tuple") : PySem.W.kitOne K (.type n) (.type m) = some (decide (n = m)) := by
  obtain ⟨_, k⟩ := h
  simp only [List.mem_cons, List.not_mem_nil, or_false] at k
  rcases hm with rfl | rfl <;> rcases k with rfl | rfl | rfl | rfl | rfl | rfl | rfl <;> exact kit_ty (by decide +kernel)
theorem ev_isi {n m : String} (h : Ev te σ H v) (hc : Ev tx σ H (.ty m)) (k : Kd K H v n) (hm : m = "str" ∨ m = "tuple") : Ev (tCB (rIsi K) (tCons te (tCons tx tNil))) σ H (.bl (decide (n = m))) := fun H1 e Q q =>
  h H1 e _ fun H2 e2 => hc H2 (e.trans e2) _ fun H3 e3 => by
    obtain ⟨ty, kk⟩ := id (k.mono ((e.trans e2).trans e3))
    exact ⟨v, .ty m, .type n, .type m, _, rfl, .ty m, ty, kd_kit k hm, q H3 (e2.trans e3)⟩
/-- s.split(sep) -/
theorem el_split {w s : Str} (h : Ev te σ H (.str w)) (hs : Ev tx σ H (.str s)) (h0 : (s.length == 0) = false) (hl : w.length ≤ 100000) :
    EvL (tM1 (fun x xs H Q => ∃ a b, x = .str a ∧ xs = [.str b] ∧ (b.length == 0) = false ∧ a.length + 2 ≤ sizeLine ∧ rNewStrs (Txt.split a b) H Q) te tx) σ H ((Txt.split w s).map V.str) := fun H1 e Q q =>
  h H1 e _ fun H2 e2 => ⟨⟨w, rfl⟩, hs H2 (e.trans e2) _ fun H3 e3 => ⟨w, s, rfl, rfl, h0, Nat.le_trans (Nat.add_le_add_right hl 2) (by rw [sizeLine_eq]; decide), fun p hp => q p _ (fresh_back (e2.trans e3) hp) ((e2.trans e3).trans (Ex.new hp)) upd_same⟩⟩
/-- over a list that stands, no test -/
theorem el_lcA {j : Nat} {a : Addr} {xs : List V} {tl : TE} (f : V → V) (h : Ev tl σ H (.ref a)) (hx : SqL K H a xs) (hz : xs.length ≤ 40000)
    (he : ∀ (x : V) H1, Ex H H1 → x ∈ xs → Ev te (σ.set j (some x)) H1 (f x)) : EvL (tLc (iList K tl) (gName j) tYes te [j]) σ H (xs.map f) := fun H0 e Q q => h H0 e _ fun H1 e1 => ⟨a, rfl, ⟨xs, ex_l (e.trans e1) hx⟩, fun D hD =>
  lc_it (walk_list (K := K) (a := a) (xs := xs)) (fun i G => Ex H1 G ∧ G D = some (.lst ((xs.take i).map f))) ⟨Ex.new hD, upd_same⟩ (fun i G _ p => ex_l ((e.trans e1).trans p.1) hx) (by
    rintro i v G G' hi ⟨s1, hd⟩ ⟨rfl, hl⟩
    have ee : (wipe σ [j]).set j (some v) = σ.set j (some v) := by
      show (σ.set j none).set j (some v) = _
      rw [List.set_set]
    show wipe ((wipe σ [j]).set j (some v)) [j] = wipe σ [j] ∧ _
    rw [ee]
    refine ⟨by show (σ.set j _).set j none = σ.set j none; rw [List.set_set], ?_⟩
    unfold tYes
    dsimp only
    rw [if_pos rfl]
    refine he v G' ((e.trans e1).trans s1) (List.mem_of_getElem? hl) G' (Ex.refl _) _ fun G2 e2 => ⟨_, e2 D _ hd, sz_lt ?_, (s1.trans e2).mut hD, ?_⟩
    · rw [List.length_map]
      have h3 := List.length_take_le' i xs
      omega
    · rw [upd_same, List.take_succ, hl]
      simp) (by
    rintro G ⟨s1, hd⟩
    refine q D G (fresh_back e1 hD) (e1.trans s1) ?_
    rw [hd, List.take_of_length_le (Nat.le_refl _)])⟩
theorem kd_strV {x : Str} {n : String} (h : Kd K H (.str x) n) : n = "str" := by
  obtain ⟨h, _⟩ := h
  cases h with
  | base h => cases h; rfl
theorem kd_isStr {v : V} (h : Kd K H v "str") : ∃ x, v = .str x := by
  obtain ⟨h, _⟩ := h
  generalize e : Value.type "str" = T at h
  cases h with
  | base h =>
    cases h with
    | str x => exact ⟨x, rfl⟩
    | ins => cases e
    | _ => simp at e
  | _ => simp at e
theorem kd_isTup {v : V} (h : Kd K H v "tuple") : ∃ a, v = .ref a := by
  obtain ⟨h, _⟩ := h
  generalize e : Value.type "tuple" = T at h
  cases h with
  | base h =>
    cases h with
    | tup h => exact ⟨_, rfl⟩
    | ins => cases e
    | _ => simp at e
  | kTuple h c => exact ⟨_, rfl⟩
  | fTuple h => exact ⟨_, rfl⟩
  | _ => simp at e
/-- a def as its callers see it -/
structure Cal (P : Program) (w : World) (K : PySem.W.Frag) (mg : Str → Option Value) (base : Heap) (CX : CXT) (k : Nat) (x : Str) (ps : List Str) (sp : Sp) where
  f : Addr
  fd : FuncData
  F : FnOk P w K mg base CX k f fd ps sp
  g : mg x = some (.ref f)
  kp : PySem.W.keepIn K (.ref f) = true
  b : Binds K fd ps []
end
end Be
/-! own classes: len, ==; zip of tuples in a comprehension -/
namespace Cr
open PySem PySem.Spec PyProof.Rows L2 Bk Bm Evl Be
section
variable {X : Cx} {n : Nat} {C f : Addr} {fd : FuncData} {ps : List Str} {sp : Sp}
/-- len(x), x of an own class with a __len__ -/
theorem call_lenI (F : FnOk X.prog X.w X.K X.mg X.base CX0 n f fd ps sp) (hs : PySem.W.findIn X.K (.ref C) "__len__" = some (some (.ref f))) (hf : PySem.W.isFn X.K (.ref f) = true) (hb : Binds X.K fd ps []) (hr : Room (n + 1) X.A) :
    CallR X (.builtin "len") (fun xs H Q => ∃ a dx fs, xs = [.ref a] ∧ H a = some (.ins C dx fs) ∧ sp [.ref a] H (fun v H' => ∃ i, v = .int i ∧ 0 ≤ i ∧ i < 2 ^ 63 ∧ Q (.int i) H') E0) := by
  intro pins s σ H xs us Q I r h
  obtain ⟨a, dx, fs, rfl, ha, hsp⟩ := h
  obtain ⟨u, rfl, ru⟩ := vals1 r
  cases ru
  obtain ⟨mA, J, _⟩ := ins_get I.hok ha
  obtain ⟨od, J, _⟩ := J.look
  obtain ⟨m, hF⟩ := I.fr
  refine PySem.W.len_K hF I.ok.mod.kin J hs hf ?_
  have hl := F.len _ _ _ _ hsp
  have r2 : Vals [V.ref a] [Value.ref a] := .cons rfl .nil
  refine wpAny_call (codeAny_mono (F.run X.A.in1 X.stack s H ⟨[.ref a], []⟩ [.ref a] [.ref a] _ E0 hr.in1 I.env0.in1 (by
    have := hb s [.ref a] I.kIn (by simpa using hl)
    simpa using this) r2 hsp) fun r s' hq => ?_)
  cases r with
  | error e => exact pass0 pins σ H s e s' I hq
  | ok fl =>
    cases fl with
    | ret w =>
      obtain ⟨z, H', I', rz, i, rfl, h0, h1, q⟩ := I.after hq
      obtain ⟨t, rfl⟩ := rz
      exact ⟨⟨h0, h1⟩, .int i, H', I'.tok _, ⟨_, rfl⟩, q⟩
    | next => exact False.elim hq
    | brk => exact False.elim hq
    | cont => exact False.elim hq
/-- the other side of an own == -/
inductive Oth (K : PySem.W.Frag) (C : Addr) (H : Hp) : V → Prop
  | ins {b dx : Addr} {fs : List (Str × V)} (h : H b = some (.ins C dx fs)) : Oth K C H (.ref b)
  | tup {b : Addr} {xs : List V} (h : H b = some (.tup xs)) (hn : PySem.W.notFirst K C (.type "tuple") = true) : Oth K C H (.ref b)
/-- x == y, x of an own class with an __eq__ -/
theorem op_eqI (F : FnOk X.prog X.w X.K X.mg X.base CX0 n f fd ps sp) (hs : PySem.W.findIn X.K (.ref C) "__eq__" = some (some (.ref f))) (hf : PySem.W.isFn X.K (.ref f) = true) (hb : Binds X.K fd ps []) (hr : Room n X.A) :
    OpR X (compareOp .Eq) (fun x y H Q => ∃ a dx fs b, x = .ref a ∧ H a = some (.ins C dx fs) ∧ y = .ref b ∧ Oth X.K C H y ∧ sp [.ref a, .ref b] H (fun v H' => ∃ i, v = .bl i ∧ Q (.bl i) H') E0) := by
  intro pins s σ H x y v u Q I rx ry h
  obtain ⟨a, dx, fs, b, rfl, ha, rfl, oth, hsp⟩ := h
  cases rx
  cases ry
  obtain ⟨mA, J, _⟩ := ins_get I.hok ha
  obtain ⟨od, J, _⟩ := J.look
  obtain ⟨m, hF⟩ := I.fr
  have ty : ∃ tb, PySem.W.Looks (model X.prog X.w) s.heap (typeOf (.ref b)) tb ∧ PySem.W.notFirst X.K C tb = true := by
    cases oth with
    | ins hb' =>
      obtain ⟨mB, J', _⟩ := ins_get I.hok hb'
      obtain ⟨od', J', _⟩ := J'.look
      exact ⟨_, J'.type, by simp [PySem.W.notFirst]⟩
    | tup hb' hn =>
      obtain ⟨_, its, _, o, ho, hc, _⟩ := I.hok b _ hb'
      exact ⟨_, hc ▸ (PySem.W.Looks.ld ho).andThen .now, hn⟩
  obtain ⟨tb, hL, hn⟩ := ty
  show wpAny (model X.prog X.w) X.A (richCompare .Eq (.ref a) (.ref b)) (EP X pins σ Q) X.xe s
  refine PySem.W.cmp_K (op := .Eq) hr.units0 hF I.ok.mod.kin J hL hn hs hf ?_
  have hl := F.len _ _ _ _ hsp
  have r2 : Vals [V.ref a, V.ref b] [Value.ref a, Value.ref b] := .cons rfl (.cons rfl .nil)
  refine wpAny_call (codeAny_mono (F.run X.A X.stack s H ⟨[.ref a, .ref b], []⟩ [.ref a, .ref b] [.ref a, .ref b] _ E0 hr I.env0 (by
    have := hb s [.ref a, .ref b] I.kIn (by simpa using hl)
    simpa using this) r2 hsp) fun r s' hq => ?_)
  cases r with
  | error e => exact pass0 pins σ H s e s' I hq
  | ok fl =>
    cases fl with
    | ret w =>
      obtain ⟨z, H', I', rz, i, rfl, q⟩ := I.after hq
      cases rz
      exact ⟨.bl i, H', I', rfl, q⟩
    | next => exact False.elim hq
    | brk => exact False.elim hq
    | cont => exact False.elim hq
end
section
variable {K : PySem.W.Frag} {σ : L2.St} {H H' : Hp} {ta tb tc te tx : TE} {x y z v : V}
/-- pairs of two tuples -/
theorem walk_zipT {a b : Addr} {xs ys : List V} {n : Nat} (hn : n = min xs.length ys.length) : Walk (RZ.ItzT K a b) n (fun H => SqT K H a xs ∧ SqT K H b ys) (YPair (fun i => xs[i]?) (fun i => ys[i]?)) := by
  subst hn
  refine ⟨fun i _ hi q => ?_, fun _ q => ⟨xs, ys, q.1, q.2, by omega⟩, fun i H v H' _ q y => ?_⟩
  · have h1 : i < xs.length := by omega
    have h2 : i < ys.length := by omega
    exact ⟨xs, ys, xs[i], ys[i], q.1, q.2, by simp [h1], by simp [h2]⟩
  · obtain ⟨T, x, z, h1, h2, h3, h4, h5⟩ := y
    exact ⟨T, x, z, h1, h2, h3, h4 xs q.1, h5 ys q.2⟩
end
end Cr
/-! tuples that are known to be plain: dict(a tuple of pairs) -/
namespace Kr
open PySem PySem.Spec PyProof.Rows L2 Bk Bm Evl Be
/-- a plain tuple, as tuple(a list) lays it -/
def Pln (o : Obj) : Prop := o.cls = .type "tuple" ∧ o.dict = none
section
variable {X : Cx}
theorem call_tuple_ofZ : CallR X (.type "tuple") (fun vs G Q => ∃ p ys, vs = [.ref p] ∧ SqL X.K G p ys ∧ ∀ l o, G l = none → Pln o → Q (.ref l) (upd G l (.frz o (.tup ys)))) := by
  intro pins s τ G vs us Q I rv h
  obtain ⟨p, ys, rfl, hq, q⟩ := h
  obtain ⟨u, rfl, ru⟩ := vals1 rv
  cases ru
  obtain ⟨its, r2, pl, small⟩ := I.list hq
  have count := r2.length
  refine call_tuple_list pl.isList (fun g kp => ?_) (by simp only [List.size_toArray]; omega)
  have J : Inv X pins τ G { s with heap := g } := I.kept (t' := s.toks) kp
  have at_ : (g.push { cls := .type "tuple", data := .seq its.toArray }).get? g.objs.size = some { cls := .type "tuple", data := .seq its.toArray } := Heap.get?_push_size _ rfl
  have J2 : Inv X pins τ (upd G g.objs.size (.frz { cls := .type "tuple", data := .seq its.toArray } (.tup ys))) { s with heap := g.push { cls := .type "tuple", data := .seq its.toArray } } :=
    J.laid (t' := s.toks) (fun b o e => Heap.get?_push_of_some _ e) (Nat.le_refl _) (show ObjOk X.prog X.w _ _ _ (.frz _ (.tup ys)) from ⟨at_, small, its, r2, IsTup.new _ _⟩)
  exact ⟨.ref g.objs.size, _, J2, rfl, q _ _ (J.hok.fresh (Nat.le_refl _)) ⟨rfl, rfl⟩⟩
theorem pairs_raw {pins : List (Addr × Obj)} {τ : L2.St} {G : Hp} {s : Shared} (I : Inv X pins τ G s) : ∀ {ps : List Addr} {kvs : List (Key × V)}, Paired (fun p kv => SqT X.K G p [kV kv.1, kv.2]) ps kvs →
    ∃ (prs : List (Key × Value)) (raw : List (Value × Value)), KV kvs prs ∧ prs.length = ps.length ∧ raw.length = ps.length ∧
      ∀ (j : Nat) (k v : Value), raw[j]? = some (k, v) → ∃ b key, ps[j]? = some b ∧ PairAt s.heap b k v ∧ prs[j]? = some (key, v) ∧ keyIs key k = true
  | _, _, .nil => ⟨[], [], .nil, rfl, rfl, fun j k v e => by simp at e⟩
  | _, _, .cons (a := p) (b := kv) h t => by
    obtain ⟨prs, raw, r, l1, l2, hp⟩ := pairs_raw I t
    obtain ⟨its, rv, ht, _⟩ := I.tuple h
    obtain ⟨u, y, rfl, ru, ry⟩ := vals2 rv
    refine ⟨(kv.1, y) :: prs, (u, y) :: raw, .cons ⟨rfl, ry⟩ r, by rw [List.length_cons, List.length_cons, l1], by rw [List.length_cons, List.length_cons, l2], fun j k v e => ?_⟩
    cases j with
    | zero =>
      have e' : (u, y) = (k, v) := Option.some.inj e
      cases e'
      exact ⟨p, kv.1, rfl, .inl ht, rfl, kV_is (P := X.prog) (w := X.w) ru⟩
    | succ j =>
      obtain ⟨b, key, e1, e2, e3, e4⟩ := hp j k v (by simpa using e)
      exact ⟨b, key, by simpa using e1, e2, by simpa using e3, e4⟩
/-- dict(a plain tuple of pairs) -/
def rDictT (K : PySem.W.Frag) : List V → Hp → VK → Prop := fun vs G Q => ∃ (a : Addr) (o : Obj) (ps : List Addr) (kvs : List (Key × V)), vs = [.ref a] ∧ G a = some (.frz o (.tup (ps.map V.ref))) ∧ Pln o ∧
    Paired (fun p kv => SqT K G p [kV kv.1, kv.2]) ps kvs ∧ ∀ p, G p = none → Q (.ref p) (upd G p (.dK (mergeK [] kvs)))
theorem call_dictT (hcalm : X.calm = true) : CallR X (.type "dict") (rDictT X.K) := by
  intro pins s τ G vs us Q I rv h
  obtain ⟨a, o, ps, kvs, rfl, ha, hpl, hp, q⟩ := h
  obtain ⟨u, rfl, ru⟩ := vals1 rv
  cases ru
  obtain ⟨at_, small, its, r2, o2, e2, hc2, n, hdat⟩ := I.hok a _ ha
  have ei := refs_at r2
  subst ei
  rw [at_] at e2
  cases e2
  rw [List.length_map] at small
  obtain ⟨prs, raw, rel, l1, l2, hpr⟩ := pairs_raw I hp
  have P := PairArg.tuple (prog := X.prog) (w := X.w) a (ps.map Value.ref).toArray (fun j => ps.getD j 0) raw
  refine PySem.call_dict_pairs (knd := mixKind X.prog X.w) (kvs := prs) P (I.ok.hd hcalm) ⟨⟨o, n, at_, hc2, hpl.2, hdat⟩, by simp [l2], fun j k v e => ?_⟩ ⟨by rw [l1, l2], fun i key v e => ?_⟩ (by rw [l2]; exact small) fun g tk hd k => ?_
  · obtain ⟨b, key, e1, e2, _, _⟩ := hpr j k v e
    have eb : ps.getD j 0 = b := by rw [List.getD_eq_getElem?_getD, e1]; rfl
    refine ⟨by simp [e1, eb], ?_⟩
    show PairAt s.heap (ps.getD j 0) k v
    rw [eb]
    exact e2
  · obtain ⟨b, k, e1, e2, e3, e4⟩ := hpr i key v e
    exact ⟨k, e3, e4⟩
  · have hm : (s.heap.objs.size == sysModules) = false := beq_eq_false_iff_ne.mpr (Nat.ne_of_gt I.big)
    have few : (mergeK [] kvs).length ≤ sizeLine := by
      refine Nat.le_trans (length_mergeK kvs []) ?_
      rw [List.length_nil, Nat.zero_add, rel.length, l1]
      exact small
    have fine : ObjOk X.prog X.w (upd G s.heap.objs.size (.dK (mergeK [] kvs))) g s.heap.objs.size (.dK (mergeK [] kvs)) := ⟨few, hm, _, KV.merge rel .nil, hd⟩
    exact ⟨.ref s.heap.objs.size, upd G s.heap.objs.size (.dK (mergeK [] kvs)), I.laid (t' := tk) (fun b ob e => k b ob (by simp) e) (Nat.le_refl _) fine, rfl, q _ (I.hok.fresh (Nat.le_refl _))⟩
end
end Kr
/-! sorted of any alike data -/
namespace Kr
open PySem PySem.Spec PyProof.Rows L2 Bk Bm Evl Be
section
variable {X : Cx}
theorem each_vals : ∀ {bs : List (V × PyData)} {us : List Value}, Vals (bs.map Prod.fst) us → PySem.W.EachIs (fun v b => RelV b.1 v) us bs
  | [], us, r => by
    cases r
    exact .nil
  | b :: t, us, r => by
    rw [List.map_cons] at r
    cases r with
    | cons h t' => exact .cons h (each_vals t')
theorem vals_each {bs : List (V × PyData)} {us : List Value} (h : PySem.W.EachIs (fun v b => RelV b.1 v) us bs) : Vals (bs.map Prod.fst) us := by
  induction h with
  | nil => exact .nil
  | cons r _ ih => exact .cons r ih
theorem each_reads {pins : List (Addr × Obj)} {τ : L2.St} {G : Hp} {s : Shared} (I : Inv X pins τ G s) {bs : List (V × PyData)} {us : List Value} (h : PySem.W.EachIs (fun v b => RelV b.1 v) us bs) : (∀ b ∈ bs, Dp X.K G b.1 b.2) → PySem.W.EachIs (fun v b => ∃ as, Reads s.heap v b.2 as) us bs := by
  induction h with
  | nil => exact fun _ => .nil
  | @cons v b vs bs r _ ih => exact fun hd => .cons (Dp.reads I b.2 b.1 v (hd b List.mem_cons_self) r) (ih fun c hc => hd c (List.mem_cons_of_mem _ hc))
theorem cr_sortedW (hu : X.A.units + 70 < cLine) : CallR X (.builtin "sorted") (fun vs G Q => ∃ (a : Addr) (bs : List (V × PyData)), vs = [.ref a] ∧ SqL X.K G a (bs.map Prod.fst) ∧ (∀ b ∈ bs, Dp X.K G b.1 b.2) ∧ (∀ b ∈ bs, b.2.depth ≤ 64) ∧
    PySem.W.AllAlike (bs.map Prod.snd) ∧ PySem.W.Sortable (bs.map Prod.snd) ∧ ∀ p, G p = none → Q (.ref p) (upd G p (.lst ((bs.mergeSort (PySem.W.dataLe false Prod.snd)).map Prod.fst)))) := by
  intro pins s τ G vs us Q I rv h
  obtain ⟨a, bs, rfl, hq, hd, hdep, hal, hk, q⟩ := h
  obtain ⟨u, rfl, ru⟩ := vals1 rv
  cases ru
  obtain ⟨its, r2, pl, small⟩ := I.list hq
  rw [List.length_map] at small
  have each := each_vals r2
  refine PySem.W.sorted_data (R := fun v b => RelV b.1 v) (enc := Prod.snd) (bs := bs) pl.isList each (each_reads I each hd) hal hk small (fun b hb => by have := hdep b hb; omega) fun out ho eo => ?_
  obtain ⟨ep, he⟩ := PyProof.Rows.sortedAll_at s.heap its (List.toArray out)
  have few : ((bs.mergeSort (PySem.W.dataLe false Prod.snd)).map Prod.fst).length ≤ sizeLine := by rw [List.length_map, List.length_mergeSort]; exact small
  exact ⟨.ref _, upd G (s.heap.objs.size + 1) (.lst _), I.laid (t' := s.toks) (fun _ _ => PyProof.Rows.sortedAll_old) (Nat.le_succ _) ⟨few, out, ep, vals_each eo, he⟩, rfl, q _ (I.hok.fresh (Nat.le_succ _))⟩
end
end Kr
/-! dict(a plain tuple of pairs), as a dict that stands -/
namespace Kr
open PySem PySem.Spec PyProof.Rows L2 Bk Bm Evl Be
section
variable {X : Cx}
def rDictZ (K : PySem.W.Frag) : List V → Hp → VK → Prop := fun vs G Q => ∃ (a : Addr) (o : Obj) (ps : List Addr) (kvs : List (Key × V)), vs = [.ref a] ∧ G a = some (.frz o (.tup (ps.map V.ref))) ∧ Pln o ∧
    Paired (fun p kv => SqT K G p [kV kv.1, kv.2]) ps kvs ∧ ∀ p od, G p = none → Q (.ref p) (upd G p (.frz od (.dK (mergeK [] kvs))))
theorem call_dictZ (hcalm : X.calm = true) : CallR X (.type "dict") (rDictZ X.K) := by
  intro pins s τ G vs us Q I rv h
  obtain ⟨a, o, ps, kvs, rfl, ha, hpl, hp, q⟩ := h
  obtain ⟨u, rfl, ru⟩ := vals1 rv
  cases ru
  obtain ⟨at_, small, its, r2, o2, e2, hc2, n, hdat⟩ := I.hok a _ ha
  have ei := refs_at r2
  subst ei
  rw [at_] at e2
  cases e2
  rw [List.length_map] at small
  obtain ⟨prs, raw, rel, l1, l2, hpr⟩ := pairs_raw I hp
  have P := PairArg.tuple (prog := X.prog) (w := X.w) a (ps.map Value.ref).toArray (fun j => ps.getD j 0) raw
  refine PySem.call_dict_pairs (knd := mixKind X.prog X.w) (kvs := prs) P (I.ok.hd hcalm) ⟨⟨o, n, at_, hc2, hpl.2, hdat⟩, by simp [l2], fun j k v e => ?_⟩ ⟨by rw [l1, l2], fun i key v e => ?_⟩ (by rw [l2]; exact small) fun g tk hd k => ?_
  · obtain ⟨b, key, e1, e2, _, _⟩ := hpr j k v e
    have eb : ps.getD j 0 = b := by rw [List.getD_eq_getElem?_getD, e1]; rfl
    refine ⟨by simp [e1, eb], ?_⟩
    show PairAt s.heap (ps.getD j 0) k v
    rw [eb]
    exact e2
  · obtain ⟨b, k, e1, e2, e3, e4⟩ := hpr i key v e
    exact ⟨k, e3, e4⟩
  · have hm : (s.heap.objs.size == sysModules) = false := beq_eq_false_iff_ne.mpr (Nat.ne_of_gt I.big)
    have few : (mergeK [] kvs).length ≤ sizeLine := by
      refine Nat.le_trans (length_mergeK kvs []) ?_
      rw [List.length_nil, Nat.zero_add, rel.length, l1]
      exact small
    obtain ⟨od, eod⟩ : ∃ od, g.get? s.heap.objs.size = some od := by
      obtain ⟨od, _, _, e, _⟩ := id hd
      exact ⟨od, e⟩
    have fine : ObjOk X.prog X.w (upd G s.heap.objs.size (.frz od (.dK (mergeK [] kvs)))) g s.heap.objs.size (.frz od (.dK (mergeK [] kvs))) := ⟨eod, few, hm, _, KV.merge rel .nil, hd⟩
    exact ⟨.ref s.heap.objs.size, upd G s.heap.objs.size (.frz od (.dK (mergeK [] kvs))), I.laid (t' := tk) (fun b ob e => k b ob (by simp) e) (Nat.le_refl _) fine, rfl, q _ _ (I.hok.fresh (Nat.le_refl _))⟩
end
end Kr
/-! sorted of a tuple of alike data -/
namespace Kr
open PySem PySem.Spec PyProof.Rows L2 Bk Bm Evl Be
section
variable {P : Program} {w : World} {A : Around} {E : Value → Shared → Prop} {s : Shared}
theorem coll_tup {l : Addr} {o : Obj} {vs : List Value} {n : Nat} {Q : List Value → Shared → Prop} (ho : s.heap.get? l = some o) (hc : o.cls = .type "tuple") (hd : o.data = .seq vs.toArray n) (hz : vs.length ≤ sizeLine)
    (h : Q vs { s with heap := (s.heap.push (seqObj "list" #[] 0)).update s.heap.objs.size (Obj.mapSeq (· ++ vs.toArray)) }) : wpAny (model P w) A (collect (.ref l)) Q E s := by
  unfold collect
  refine wpAny_bind (wpAny_runValue (codeAny_builtin entry_proto_collect' (wpAny_bind (wpAny_newList (wpAny_pure ⟨Code.quiet_builtin _ (by decide +kernel), codeAny_builtin entry_list_iadd' ?_⟩)))))
  have at0 : (s.heap.push (seqObj "list" #[] 0)).get? s.heap.objs.size = some (seqObj "list" #[] 0) := Heap.get?_push_size _ rfl
  have hl2 := Heap.get?_push_of_some (seqObj "list" #[] 0) ho
  show wpAny _ _ (Builtin.List.listExtendWith (.ref s.heap.objs.size) (.ref l) (.ref s.heap.objs.size)) _ _ _
  unfold Builtin.List.listExtendWith; refine wpAny_bind (wpAny_typeOf (T := "tuple") ⟨o, hl2, hc⟩ ?_)
  rw [if_pos (by simp)]
  refine wpAny_bind (listItems_at hl2 hd (wpAny_bind (listItems_at (xs := #[]) (n := 0) at0 rfl ?_)))
  rw [if_neg (by simp)]; refine wpAny_bind (listUpdate_at (xs := #[]) (n := 0) at0 rfl (wpAny_pure ?_) (Nat.zero_le _) (by simp; omega))
  refine wpAny_bind (wpAny_load (get?_update_seq at0 _) ?_)
  have e : ((#[] : Array Value) ++ vs.toArray).toList = vs := by simp
  show wpAny _ _ (pure ((#[] : Array Value) ++ vs.toArray).toList : Sem _) _ _ _
  rw [e]
  exact wpAny_pure h
theorem sort_tup {l : Addr} {o : Obj} {vs : List Value} {n : Nat} {κ : PyProof.Rows.KeyKind} {Q : Value → Shared → Prop} (ho : s.heap.get? l = some o) (hc : o.cls = .type "tuple") (hd : o.data = .seq vs.toArray n) (hz : vs.length ≤ sizeLine)
    (S : PySem.W.SortsAt P w A.in1.in1 { s with heap := PySem.W.sortingHeap (PySem.W.copyHeap s.heap vs) (s.heap.objs.size + 1) vs } κ vs)
    (h : Q (.ref (s.heap.objs.size + 1)) { s with heap := sortedAll s.heap vs (PySem.W.sortVals κ false vs vs).toArray }) : wpAny (model P w) A (call (.builtin "sorted") [.ref l]) Q E s := by
  refine Calls.call_function_entry kind_sorted plain_sorted entry_sorted (args_sorted1 _) (show wpAny _ _ (Builtin.«sorted» _) _ _ _ from ?_)
  unfold Builtin.«sorted»; refine wpAny_bind (m := checkCount "sorted" 1 1 _) (wpAny_pure (wpAny_bind (coll_tup ho hc hd hz (wpAny_bind (wpAny_newList ?_ hz)))))
  have at1 := PySem.W.copyHeap_at s.heap vs
  have e1 : ((s.heap.push (seqObj "list" #[] 0)).update s.heap.objs.size (Obj.mapSeq (· ++ vs.toArray))).objs.size = s.heap.objs.size + 1 := by rw [Heap.size_update, size_push']
  show wpAny _ _ _ _ _ { s with heap := PySem.W.copyHeap s.heap vs }; rw [e1]
  refine wpAny_bind (wpAny_holding (wpAny_call_entry slot_list_sort ⟨_, at1, rfl⟩ entry_list_sort (PySem.W.list_sort_vals (s := { s with heap := PySem.W.copyHeap s.heap vs }) at1 S hz ⟨_, rfl, ?_⟩) (args_list_sort _)))
  exact wpAny_pure ⟨_, rfl, h⟩
/-- sorted(a tuple): a list of THE sorted data -/
theorem sort_tup_data {l : Addr} {o : Obj} {vs : List Value} {bs : List (V × PyData)} {n : Nat} {Q : Value → Shared → Prop} (ho : s.heap.get? l = some o) (hc : o.cls = .type "tuple") (hd : o.data = .seq vs.toArray n)
    (e : PySem.W.EachIs (fun v b => RelV b.1 v) vs bs) (er : PySem.W.EachIs (fun v b => ∃ as, Reads s.heap v b.2 as) vs bs) (hal : PySem.W.AllAlike (bs.map Prod.snd)) (hk : PySem.W.Sortable (bs.map Prod.snd)) (hL : bs.length ≤ sizeLine)
    (hu : ∀ b, b ∈ bs → A.units + 2 + b.2.depth < cLine)
    (h : ∀ out, out.length = bs.length → PySem.W.EachIs (fun v b => RelV b.1 v) out (bs.mergeSort (PySem.W.dataLe false Prod.snd)) → Q (.ref (s.heap.objs.size + 1)) { s with heap := sortedAll s.heap vs (List.toArray out) }) :
    wpAny (model P w) A (call (.builtin "sorted") [.ref l]) Q E s := by
  have er2 : PySem.W.EachIs (fun v b => ∃ as, Reads (PySem.W.sortingHeap (PySem.W.copyHeap s.heap vs) (s.heap.objs.size + 1) vs) v b.2 as) vs bs := er.mono fun _ _ ⟨as, r⟩ => ⟨as, PyProof.Rows.Reads.keeps (fun _ _ => PySem.W.sorting_copy_old) r⟩
  have ew := PySem.W.each_map (R := fun v d => ∃ as, Reads (PySem.W.sortingHeap (PySem.W.copyHeap s.heap vs) (s.heap.objs.size + 1) vs) v d as) Prod.snd er2
  refine sort_tup ho hc hd (by rw [e.length]; exact hL) (PySem.W.SortsAt.data (s := { s with heap := PySem.W.sortingHeap (PySem.W.copyHeap s.heap vs) (s.heap.objs.size + 1) vs }) ew hal hk (PySem.W.bound_map hu)) (h _ ?_ (PySem.W.sortVals_data false e er2 hal))
  rw [PySem.W.sortVals_length false rfl, e.length]
end
section
variable {X : Cx}
def rSortedD (Sq : Hp → Addr → List V → Prop) (K : PySem.W.Frag) : List V → Hp → VK → Prop := fun vs G Q => ∃ (a : Addr) (bs : List (V × PyData)), vs = [.ref a] ∧ Sq G a (bs.map Prod.fst) ∧ (∀ b ∈ bs, Dp K G b.1 b.2) ∧ (∀ b ∈ bs, b.2.depth ≤ 64) ∧
    PySem.W.AllAlike (bs.map Prod.snd) ∧ PySem.W.Sortable (bs.map Prod.snd) ∧ ∀ p, G p = none → Q (.ref p) (upd G p (.lst ((bs.mergeSort (PySem.W.dataLe false Prod.snd)).map Prod.fst)))
theorem cr_sortedDL (hu : X.A.units + 70 < cLine) : CallR X (.builtin "sorted") (rSortedD (SqL X.K) X.K) := cr_sortedW hu
theorem cr_sortedDT (hu : X.A.units + 70 < cLine) : CallR X (.builtin "sorted") (rSortedD (SqT X.K) X.K) := by
  intro pins s τ G vs us Q I rv h
  obtain ⟨a, bs, rfl, hq, hd, hdep, hal, hk, q⟩ := h
  obtain ⟨u, rfl, ru⟩ := vals1 rv
  cases ru
  obtain ⟨its, r2, pl, small⟩ := I.tuple hq
  rw [List.length_map] at small
  have each := each_vals r2
  obtain ⟨o, ho, hc, n, hdat⟩ := pl
  refine sort_tup_data (bs := bs) ho hc hdat each (each_reads I each hd) hal hk small (fun b hb => by have := hdep b hb; omega) fun out ho eo => ?_
  obtain ⟨ep, he⟩ := PyProof.Rows.sortedAll_at s.heap its (List.toArray out)
  have few : ((bs.mergeSort (PySem.W.dataLe false Prod.snd)).map Prod.fst).length ≤ sizeLine := by rw [List.length_map, List.length_mergeSort]; exact small
  exact ⟨.ref _, upd G (s.heap.objs.size + 1) (.lst _), I.laid (t' := s.toks) (fun _ _ => PyProof.Rows.sortedAll_old) (Nat.le_succ _) ⟨few, out, ep, vals_each eo, he⟩, rfl, q _ (I.hok.fresh (Nat.le_succ _))⟩
end
end Kr
/-! sets of texts: what is in them, and their table -/
namespace Ks
open PySem PySem.Spec PyProof.Rows L2
def txt (e : Int × Value) : Str := match e.2 with
  | .str x _ => x
  | _ => Str.empty
def Txe (P : Program) (w : World) (e : Int × Value) : Prop := ∃ x tk, e.2 = Value.str x tk ∧ e.1 = (strKind P w).hash x
/-- the set of texts at a -/
def TxS (P : Program) (w : World) (h : Heap) (a : Addr) (S : Str → Bool) (n : Nat) : Prop :=
  ∃ ob xs era tab, h.get? a = some ob ∧ ob.ExactSet ∧ ob.data = .set xs era tab ∧ (∀ e ∈ xs.toList, Txe P w e) ∧ (xs.toList.map txt).Nodup ∧ (∀ x, S x = true ↔ x ∈ xs.toList.map txt) ∧
    xs.size < scanBound ∧ tab.fits xs.size = true ∧ xs.size = n ∧ Ris tab.place.toList ∧ (w.params.followText "set-order" = true ∨ tab.led = true)
section
variable {P : Program} {w : World} {A : Around} {E : Value → Shared → Prop} {s : Shared} {h h' : Heap} {a : Addr} {S : Str → Bool} {n : Nat}
theorem TxS.at (T : TxS P w h a S n) (k : ∀ o, h.get? a = some o → h'.get? a = some o) : TxS P w h' a S n := by
  obtain ⟨ob, xs, era, tab, at0, rest⟩ := T
  exact ⟨ob, xs, era, tab, k ob at0, rest⟩
theorem tx_elems {l : List (Int × Value)} (gd : ∀ e ∈ l, Txe P w e) : ElemsOf (strKind P w) l := fun e he => by
  obtain ⟨x, tk, e1, e2⟩ := gd e he
  exact ⟨⟨x, by rw [e1]; exact strKind_is P w x tk, e2⟩, by rw [e1]; rfl⟩
theorem tx_is {e : Int × Value} (gd : Txe P w e) (y : Str) : (strKind P w).is y e.2 = true ↔ txt e = y := by
  obtain ⟨x, tk, e1, _⟩ := gd
  unfold txt
  rw [e1]
  constructor
  · intro q
    have q' : (x == y) = true := q
    simpa using q'
  · rintro rfl
    exact strKind_is P w x tk
theorem tx_mem {l : List (Int × Value)} (gd : ∀ e ∈ l, Txe P w e) (y : Str) : y ∈ l.map txt ↔ ∃ e ∈ l, (strKind P w).is y e.2 = true := by
  rw [List.mem_map]
  exact ⟨fun ⟨e, he, q⟩ => ⟨e, he, (tx_is (gd e he) y).2 q⟩, fun ⟨e, he, q⟩ => ⟨e, he, (tx_is (gd e he) y).1 q⟩⟩
theorem tx_tail {giv : Bool → Sem Unit} (hgiv : ∀ (b : Bool) (s₁ : Shared) (Z : Unit → Shared → Prop), Z () s₁ → wpAny (model P w) A (giv b) Z E s₁)
    {ob : Obj} {xs : Array (Int × Value)} {era : Nat} {tab : SetTable} (at0 : s.heap.get? a = some ob) (exa : ob.ExactSet) (dat : ob.data = .set xs era tab)
    {ys : Array (Int × Value)} {tab2 : SetTable} {S' : Str → Bool} (gd : ∀ e ∈ ys.toList, Txe P w e) (nod : (ys.toList.map txt).Nodup) (mem : ∀ x, S' x = true ↔ x ∈ ys.toList.map txt)
    (few : ys.size < scanBound) (fit : tab2.fits ys.size = true) (ris : Ris tab2.place.toList) (led : w.params.followText "set-order" = true ∨ tab2.led = true) {dum : Bool} {Z : Option Bool → Shared → Prop}
    (fin : ∀ g, Heap.SameBut a s.heap g → TxS P w g a S' ys.size → Z (some true) { s with heap := g }) :
    wpAny (model P w) A (do
        storeSet a ys tab2
        if (!dum && tab2.tooFull) = true then do
            giv (relayAll tab2 ys (SetTable.grown ys.size)).2.2
            storeSet a (relayAll tab2 ys (SetTable.grown ys.size)).1 (relayAll tab2 ys (SetTable.grown ys.size)).2.1
            pure (some true)
          else pure (some true)) Z E s := by
  have at1 := store_at (es' := ys) (t' := tab2) at0 dat
  have same1 := Heap.SameBut.update s.heap a (Obj.putSet ys tab2)
  refine wpAny_bind (wpAny_storeSet_of at0 dat ?_ (fits_of_scanBound few))
  by_cases full : (!dum && tab2.tooFull) = true
  · rw [if_pos full]
    have perm := relayAll_perm tab2 ys (SetTable.grown ys.size)
    have fit3 := relayAll_fits tab2 ys (SetTable.grown ys.size)
    have ris3 := relayAll_ris tab2 ys (SetTable.grown ys.size)
    have led3 := relayAll_led tab2 ys (SetTable.grown ys.size)
    generalize relayAll tab2 ys (SetTable.grown ys.size) = laid at perm fit3 ris3 led3 ⊢
    obtain ⟨zs, tab3, gave⟩ := laid
    dsimp only at perm fit3 ris3 led3 ⊢
    have size3 : zs.size = ys.size := by
      rw [← Array.length_toList, ← Array.length_toList]
      exact perm.length_eq
    have at2 := store_at (es' := zs) (t' := tab3) at1 rfl
    refine wpAny_bind (hgiv _ _ _ (wpAny_bind (wpAny_storeSet_of at1 rfl (wpAny_pure (fin _ (same1.trans (Heap.SameBut.update _ a _)) ?_)) (fits_of_scanBound (by rw [size3]; exact few)))))
    refine ⟨_, zs, _, tab3, at2, exa, rfl, fun e he => gd e (perm.mem_iff.mp he), (perm.map txt).nodup_iff.mpr nod, fun x => (mem x).trans (perm.map txt).mem_iff.symm, by rw [size3]; exact few, fit3, size3, ris3, ?_⟩
    exact led.imp id fun z => led3.trans z
  · rw [if_neg full]
    exact wpAny_pure (fin _ same1 ⟨_, ys, _, tab2, at1, exa, rfl, gd, nod, mem, few, fit, rfl, ris, led⟩)
end
end Ks
/-! a text put to a set of texts -/
namespace Ks
open PySem PySem.Spec PyProof.Rows L2
section
variable {P : Program} {w : World} {A : Around} {E : Value → Shared → Prop} {s : Shared} {a : Addr} {S : Str → Bool} {n : Nat}
theorem tx_put {x : Str} {tk : Tok} {Z : Bool → Shared → Prop} (T : TxS P w s.heap a S n) (room : n + 1 < scanBound)
    (fin : ∀ g, Heap.SameBut a s.heap g → TxS P w g a (fun y => S y || decide (y = x)) (if S x = true then n else n + 1) → Z (!S x) { s with heap := g }) :
    wpAny (model P w) A (setAddHashed a (.str x tk) ((strKind P w).hash x)) Z E s := by
  obtain ⟨ob, xs, era, tab, at0, exa, dat, gd, nod, mem, few, fit, cnt, ris, led⟩ := T
  have isx : (strKind P w).is x (.str x tk) = true := strKind_is P w x tk
  have scan : (Value.str x tk).scannable = true := rfl
  have els : ElemsOf (strKind P w) xs.toList := tx_elems gd
  unfold setAddHashed setAddHashedIn
  refine wpAny_holding (wpAny_bind (wpAny_setState_of at0 dat fit ?_))
  dsimp only
  rw [byScan_of scan few els]
  simp only [↓reduceIte]
  unfold setAddByScan
  refine wpAny_bind (wpAny_bind (wpAny_rule (wpAny_bind (wpAny_setScan_of isx at0 dat fit els ?_))))
  cases met : List.findIdx? (fun e => (strKind P w).is x e.2) xs.toList with
  | some j =>
    dsimp only
    obtain ⟨hj, pj, _⟩ := List.findIdx?_eq_some_iff_getElem.mp met
    have inS : S x = true := (mem x).2 ((tx_mem gd x).2 ⟨xs.toList[j], List.getElem_mem hj, pj⟩)
    have q := fin s.heap (Heap.SameBut.refl a s.heap) ⟨ob, xs, era, tab, at0, exa, dat, gd, nod, fun y => by
      rw [Bool.or_eq_true, decide_eq_true_eq, ← mem y]
      exact ⟨fun z => z.elim id (fun e => e ▸ inS), .inl⟩, few, fit, by rw [if_pos inS]; exact cnt, ris, led⟩
    rw [inS] at q
    exact wpAny_pure (wpAny_pure q)
  | none =>
    dsimp only
    have away : x ∉ xs.toList.map txt := fun z => by
      obtain ⟨e, he, q⟩ := (tx_mem gd x).1 z
      have c := List.findIdx?_eq_none_iff.mp met e he
      rw [q] at c
      cases c
    have outS : S x = false := by
      cases q : S x with
      | false => rfl
      | true => exact absurd ((mem x).1 q) away
    have way : ∀ (b : Bool) {s₁ : Shared} {Z' : Unit → Shared → Prop}, Z' () s₁ → wpAny (model P w) A (match b with | true => rule "set.scan.the-table-gave-way" | false => pure ()) Z' E s₁ := fun b s₁ Z' q => by
      cases b
      · exact wpAny_pure q
      · exact wpAny_rule q
    have perm := layNew_perm tab xs ((strKind P w).hash x) (.str x tk)
    have fit1 := layNew_fits tab xs ((strKind P w).hash x) (.str x tk)
    have ris1 := layNew_ris tab xs ((strKind P w).hash x) (.str x tk) ris
    have led1 := layNew_led tab xs ((strKind P w).hash x) (.str x tk)
    generalize layNew tab xs ((strKind P w).hash x) (.str x tk) = laid at perm fit1 ris1 led1 ⊢
    obtain ⟨ys, tab1, dum, gave⟩ := laid
    dsimp only at perm fit1 ris1 led1 ⊢
    rw [Array.toList_push] at perm
    have permc : ys.toList.Perm (((strKind P w).hash x, Value.str x tk) :: xs.toList) := perm.trans (List.perm_append_singleton _ _)
    have permk : (ys.toList.map txt).Perm (x :: xs.toList.map txt) := permc.map txt
    have gd1 : ∀ e ∈ ys.toList, Txe P w e := fun e he => by
      rcases List.mem_cons.mp (permc.mem_iff.mp he) with rfl | z
      · exact ⟨x, tk, rfl, rfl⟩
      · exact gd e z
    have nod1 : (ys.toList.map txt).Nodup := permk.nodup_iff.mpr (List.nodup_cons.mpr ⟨away, nod⟩)
    have mem1 : ∀ y, (S y || decide (y = x)) = true ↔ y ∈ ys.toList.map txt := fun y => by
      rw [Bool.or_eq_true, decide_eq_true_eq, mem y, permk.mem_iff, List.mem_cons]
      exact ⟨Or.symm, Or.symm⟩
    have size1 : ys.size = n + 1 := by
      rw [← Array.length_toList, permc.length_eq]
      show xs.toList.length + 1 = n + 1
      rw [Array.length_toList, cnt]
    have few1 : ys.size < scanBound := by
      rw [size1]
      exact room
    have led2 : w.params.followText "set-order" = true ∨ tab1.led = true := led.imp id fun z => led1.trans z
    have last : ∀ g, Heap.SameBut a s.heap g → TxS P w g a (fun y => S y || decide (y = x)) ys.size → Z true { s with heap := g } := fun g same r => by
      have q := fin g same
      rw [outS] at q
      rw [size1] at r
      exact q r
    refine wpAny_bind (way _ ?_)
    split
    · refine wpAny_bind ?_
      rw [hashByValue_scannable 8 scan]
      refine wpAny_pure (tx_tail (fun b s₁ Z' q => ?_) at0 exa dat gd1 nod1 mem1 few1 ?_ ?_ ?_ fun g same r => ?_)
      · cases b
        · exact wpAny_pure q
        · exact wpAny_rule q
      · first | (split <;> first | exact fit1 | exact SetTable.fits_plain_off fit1) | exact fit1
      · first | (split <;> exact ris1) | exact ris1
      · first | (split <;> exact led2) | exact led2
      · dsimp only
        exact wpAny_pure (last g same r)
    · refine wpAny_bind (wpAny_pure ?_)
      simp only [↓reduceIte]
      refine tx_tail (fun b s₁ Z' q => ?_) at0 exa dat gd1 nod1 mem1 few1 fit1 ris1 led2 fun g same r => ?_
      · cases b
        · exact wpAny_pure q
        · exact wpAny_rule q
      · dsimp only
        exact wpAny_pure (last g same r)
theorem tx_fresh {h : Heap} {a : Addr} (at0 : h.get? a = some { cls := .type "set", dict := none, data := .set #[] 0 (.fresh 0 0 (!w.params.followText "set-order")) }) : TxS P w h a (fun _ => false) 0 := by
  refine ⟨_, #[], 0, _, at0, ⟨rfl, rfl, rfl⟩, rfl, fun e he => ?_, List.nodup_nil, fun x => ?_, by decide, rfl, rfl, List.Pairwise.nil, ?_⟩
  · simp at he
  · simp
  · show _ ∨ (!w.params.followText "set-order") = true
    cases w.params.followText "set-order"
    · exact .inr rfl
    · exact .inl rfl
end
end Ks
/-! set(a list of texts) -/
namespace Ks
open PySem PySem.Spec PyProof.Rows L2
section
variable {P : Program} {w : World} {A : Around} {E : Value → Shared → Prop} {s : Shared}
/-- the set at a has just the texts of l -/
def Has (P : Program) (w : World) (h : Heap) (a : Addr) (l : List Str) : Prop := ∃ n, n ≤ l.length ∧ TxS P w h a (fun y => decide (y ∈ l)) n
theorem Has.at {h h' : Heap} {a : Addr} {l : List Str} (x : Has P w h a l) (k : ∀ o, h.get? a = some o → h'.get? a = some o) : Has P w h' a l := by
  obtain ⟨n, hn, T⟩ := x
  exact ⟨n, hn, T.at k⟩
theorem Has.next {h : Heap} {a : Addr} {l : List Str} {x : Str} {n m : Nat} (hm : m ≤ n + 1) (hn : n ≤ l.length) (T : TxS P w h a (fun y => decide (y ∈ l) || decide (y = x)) m) : Has P w h a (l ++ [x]) := by
  refine ⟨m, by rw [List.length_append]; show m ≤ _ + 1; omega, ?_⟩
  have e : (fun y => decide (y ∈ l) || decide (y = x)) = fun y => decide (y ∈ l ++ [x]) := funext fun y => by simp
  rw [← e]
  exact T
theorem tx_loop {I : Addr} {fp wr : List Addr} {GG : Array GenState → Array GenState → Prop} {n : Nat} {Pv : Nat → Value → Prop} {St : Nat → Shared → Prop} {R : Result → Shared → Prop}
    (W : WalksS P w A.in1 I fp wr GG n Pv St) (b0 : Addr) (off : b0 ∉ fp) (xs : List Str) (cnt : n = xs.length) (few : xs.length + 1 < scanBound) (val : ∀ i v, Pv i v → ∃ x tk, xs[i]? = some x ∧ v = .str x tk) :
    ∀ (k i : Nat) (s : Shared), n - i = k → i ≤ n → St i s → Has P w s.heap b0 (xs.take i) → (∀ s', Moved (b0 :: wr) GG s s' → Has P w s'.heap b0 xs → R (.ok (.ret .none)) s') → codeAny (model P w) A (.builtin "set.update.loop" ⟨[.ref b0, .ref I], []⟩) R s := by
  have apart : b0 ∉ wr := fun h => off (W.sub _ h)
  have more : ∀ b ∈ wr, b ∈ b0 :: wr := fun b hb => List.mem_cons_of_mem _ hb
  intro k
  induction k with
  | zero =>
    intro i s hk hi at_ has fin
    obtain rfl : i = n := by omega
    apply codeAny_builtin F.entry_set_update_loop
    rw [show _ = _ from Around.under_plainId F.plain_set_update_loop _]
    show wpAny _ A.in1 (pyNext (Value.ref I) >>= _) _ _ s
    refine wpAny_bind (W.done s _ _ at_ fun s' mv => wpAny_pure (fin s' (mv.mono more) ?_))
    rw [cnt, List.take_length] at has
    exact has.at fun o e => mv.heap b0 o apart e
  | succ k again =>
    intro i s hk hi at_ has fin
    have lt : i < n := by omega
    apply codeAny_builtin F.entry_set_update_loop
    rw [show _ = _ from Around.under_plainId F.plain_set_update_loop _]
    show wpAny _ A.in1 (pyNext (Value.ref I) >>= _) _ _ s
    refine wpAny_bind (W.item i s _ _ lt at_ fun v s' pv at2 mv => ?_)
    obtain ⟨x, tk, hx, rfl⟩ := val i v pv
    obtain ⟨m, hm, T⟩ := has.at fun o e => mv.heap b0 o apart e
    have hmi : m ≤ i := Nat.le_trans hm (List.length_take_le _ _)
    show wpAny _ A.in1 (holding [Value.str x tk] (setAdd b0 (.str x tk)) >>= _) _ _ s'
    refine wpAny_bind (wpAny_holding ?_)
    unfold setAdd
    refine wpAny_holding (wpAny_bind ((strKind P w).pyHash (k := x) (strKind_is P w x tk) ?_))
    refine tx_put (s := { s' with toks := s'.toks + 1 }) T (by omega) fun g same T2 => ?_
    have has2 : Has P w g b0 (xs.take (i + 1)) := by
      rw [List.take_succ, hx]
      exact Has.next (by split <;> omega) hm T2
    refine wpAny_pure ⟨plainId_quiet F.plain_set_update_loop _, again (i + 1) _ (by omega) lt (W.frame _ s' _ _ at2 (Nat.le_succ _) fun b hb o e => ?_) has2 fun s3 mv3 has3 => ?_⟩
    · have nb : b ≠ b0 := fun z => off (z ▸ hb)
      exact (same.2 b nb).trans e
    · refine fin s3 (Moved.trans W.gtrans ((mv.mono more).then_heap (Nat.le_succ _) fun b o hb e => ?_) mv3) has3
      have nb : b ≠ b0 := fun z => hb (z ▸ List.mem_cons_self)
      exact (same.2 b nb).trans e
end
end Ks
namespace Ks
open PySem PySem.Spec PyProof.Rows L2
section
variable {P : Program} {w : World} {A : Around} {E : Value → Shared → Prop} {s : Shared}
/-- a set that was just made -/
abbrev noSet (w : World) : Obj := { cls := .type "set", dict := none, data := .set #[] 0 (.fresh 0 0 (!w.params.followText "set-order")) }
theorem set_of_texts {l : Addr} {items : Array Value} (xs : List Str) {Z : Value → Shared → Prop} (calm : A.handled = none) (isl : s.heap.IsList l items) (val : ∀ (i : Nat) (v : Value), items[i]? = some v → ∃ x tk, xs[i]? = some x ∧ v = Value.str x tk)
    (cnt : items.size = xs.length) (few : xs.length + 1 < scanBound)
    (fin : ∀ (g : Heap) (tk : Nat), Has P w g s.heap.objs.size xs → (∀ b o, s.heap.get? b = some o → g.get? b = some o) → Z (.ref s.heap.objs.size) { s with heap := g, toks := tk }) :
    wpAny (model P w) A (call (.type "set") [.ref l]) Z E s := by
  obtain ⟨c, tl, inMro⟩ := F.called_set.mro
  have isMade := F.called_set.made
  have isSub := F.called_set.sub
  refine wpAny_call (codeAny_of_tree ?_)
  show wpAny _ _ (callAny (.type "set") _) _ _ _
  refine wpAny_pure ⟨Code.quiet_builtin _ (by decide +kernel), codeAny_builtin F.entry_type_call ?_⟩
  rw [show _ = _ from Around.under_plain (weight_type_call_type "set" [.ref l] []) rfl]
  have ok1 := F.called_set.notType
  have ok2 := F.called_set.canCreate
  have ok3 := F.typeCall_set_1 (.ref l)
  repeat (any_goals (first | assumption | wp_step))
  refine codeAny_mono (code_set_led1 (.ref l) (E := E) (Q₁ := fun obj s₁ => obj = .ref s.heap.objs.size ∧ s₁ = { s with heap := s.heap.push (noSet w) }) ⟨rfl, rfl⟩) fun out s₁ got => ?_
  cases out with
  | error e => exact got
  | ok fl =>
    cases fl with
    | ret obj =>
      obtain ⟨rfl, rfl⟩ := got
      have at0 : (s.heap.push (noSet w)).get? s.heap.objs.size = some (noSet w) := Heap.get?_push_size _ rfl
      have ty0 : Shared.TypeIs { s with heap := s.heap.push (noSet w) } (.ref s.heap.objs.size) "set" := ⟨_, at0, rfl⟩
      have look0 := F.called_set.init.lookup
      have bind0 := F.called_set.init.bind (.ref s.heap.objs.size)
      repeat (any_goals (first | assumption | wp_step))
      refine codeAny_mono (codeAny_call_builtin (R := wants (fun r s₂ => r = .none ∧ ∃ g tk, s₂ = { s with heap := g, toks := tk } ∧ Has P w g s.heap.objs.size xs ∧ (∀ b o, s.heap.get? b = some o → g.get? b = some o)) E)
        F.called_set.init.plain F.entry_set_init (check_set_init_1 ty0 ?_)) fun out2 s₂ got2 => ?_
      · obtain ⟨ol, hol, hcl, nl, hdl⟩ := isl
        obtain ⟨ocls, odict, odata, oslots⟩ := ol
        simp only at hcl hdl
        subst hcl hdl
        have hol2 : (s.heap.push (noSet w)).get? l = some { cls := .type "list", dict := odict, data := .seq items nl, slots := oslots } := Heap.get?_push_of_some _ hol
        have no1 := F.sub_list_set
        have no2 := F.sub_list_frozenset
        have no3 : (Value.type "list" == Value.type "dict") = false := by decide
        have isl2 : (s.heap.push (noSet w)).IsList l items := ⟨_, hol2, rfl, nl, rfl⟩
        unfold Builtin.«set.__init__» noKeywords Builtin.Frozenset.updateFrom
        generalize hPI : pyIter = PI
        wp_walk
        subst hPI
        refine wpAny_pyIter_list isl2 ?_
        refine wpAny_bind (wpAny_runValue ?_)
        have low : l < s.heap.objs.size := Heap.lt_size hol
        have calm3 : A.in1.in1.in1.handled = none := by simp [calm]
        have size1 : (s.heap.push (noSet w)).objs.size = s.heap.objs.size + 1 := Heap.size_push ..
        have apart1 : l ≠ (s.heap.push (noSet w)).objs.size := by rw [size1]; exact Nat.ne_of_lt (Nat.lt_succ_of_lt low)
        have apart2 : s.heap.objs.size ∉ [(s.heap.push (noSet w)).objs.size, l] := by
          rw [size1]
          intro z
          rcases List.mem_cons.mp z with z | z
          · exact absurd z (Nat.ne_of_lt (Nat.lt_succ_self _))
          · exact absurd (List.mem_singleton.mp z) (Nat.ne_of_gt low)
        refine tx_loop ((Walks.list calm3 _ l apart1 items).toS) s.heap.objs.size apart2 xs cnt few val (items.size - 0) 0 _ (by omega) (Nat.zero_le _) ⟨⟨_, Heap.get?_push_size _ rfl, rfl, rfl⟩, (isl2.push _)⟩ ?has0 ?end0
        case has0 => exact ⟨0, Nat.le_refl _, by
          have T := tx_fresh (P := P) (w := w) (h := (s.heap.push (noSet w)).push { cls := .type "list_iterator", data := .fields #[.ref l, .int 0 0] }) (Heap.get?_push_of_some _ at0)
          have e : (fun y => decide (y ∈ xs.take 0)) = fun _ : Str => false := funext fun y => by simp
          rw [e]
          exact T⟩
        case end0 =>
          intro s' mv has
          obtain ⟨g, gens, drawn, tk, os⟩ := s'
          obtain rfl : gens = s.gens := mv.gens
          obtain rfl : drawn = s.drawn := mv.drawn
          obtain rfl : os = s.os := mv.os
          have keep : ∀ b o, s.heap.get? b = some o → g.get? b = some o := fun b o e => mv.heap b o (fun z => by
            have lt := Heap.lt_size e
            rcases List.mem_cons.mp z with z | z
            · exact absurd z (Nat.ne_of_lt lt)
            · have e3 := List.mem_singleton.mp z
              rw [size1] at e3
              exact absurd e3 (Nat.ne_of_lt (Nat.lt_succ_of_lt lt))) (Heap.get?_push_of_some _ (Heap.get?_push_of_some _ e))
          show wpAny _ _ _ _ _ _
          refine wpAny_pure ?_
          show wpAny _ _ (ret Value.none) _ _ _
          exact wpAny_pure ⟨rfl, g, tk, rfl, has, keep⟩
      · cases out2 with
        | error e => exact got2
        | ok fl2 =>
          cases fl2 with
          | ret r =>
            obtain ⟨rfl, g, tk, rfl, has, keep⟩ := got2
            repeat (any_goals (first | assumption | wp_step))
            exact fin _ _ has keep
          | _ => exact got2.elim
    | _ => exact got.elim
end
end Ks
/-! sorted(a set of texts); both as rules of the hand layer -/
namespace Ks
open PySem PySem.Spec PyProof.Rows L2
theorem strs_of : ∀ (l : List Value), (∀ v ∈ l, ∃ x tk, v = Value.str x tk) → StrsAre l (l.map fun v => txt (0, v))
  | [], _ => .nil
  | v :: r, h => by
    obtain ⟨x, tk, rfl⟩ := h v List.mem_cons_self
    exact .cons x tk (strs_of r fun u hu => h u (List.mem_cons_of_mem _ hu))
section
variable {P : Program} {w : World} {A : Around} {E : Value → Shared → Prop} {s : Shared}
theorem sort_texts {a : Addr} {xs : List Str} {Z : Value → Shared → Prop} (has : Has P w s.heap a xs) (calm : A.handled = none) (few : xs.length < 64)
    (fin : ∀ s' p (out : Array Value) (c : Nat) (ys : List Str), (∀ b o, s.heap.get? b = some o → s'.heap.get? b = some o) → s'.gens = s.gens → s'.os = s.os → s.heap.objs.size ≤ p →
      s'.heap.get? p = some (seqObj "list" out c) → StrsAre out.toList ys → sortedS ys = true → ys.Nodup → (∀ y, y ∈ ys ↔ y ∈ xs) → ys.length ≤ xs.length → Z (.ref p) s') :
    wpAny (model P w) A (call (.builtin "sorted") [.ref a]) Z E s := by
  obtain ⟨n, hn, ob, es, era, tab, at0, exa, dat, gd, nod, mem, small, fit, cnt, ris, led⟩ := has
  refine Calls.call_function_entry kind_sorted plain_sorted entry_sorted (args_sorted1 _) ?_
  unfold Builtin.«sorted»
  refine wpAny_bind (m := checkCount "sorted" 1 1 _) (wpAny_pure (wpAny_bind (collect_set (A := A.in1) calm ⟨ob, at0, exa.1, dat⟩ fit small ris led fun s1 vs k1 hz g1 o1 pm => ?_)))
  have count : vs.length = n := by
    rw [pm.length_eq, List.length_map, Array.length_toList]
    exact cnt
  have texts : ∀ v ∈ vs, ∃ x tk, v = Value.str x tk := fun v hv => by
    obtain ⟨e, he, rfl⟩ := List.mem_map.mp (pm.mem_iff.mp hv)
    obtain ⟨x, tk, h1, _⟩ := gd e he
    exact ⟨x, tk, h1⟩
  have txs := strs_of vs texts
  have pk : (vs.map fun v => txt (0, v)).Perm (es.toList.map txt) := by
    have q := pm.map fun v => txt (0, v)
    rw [List.map_map] at q
    exact q
  refine wpAny_bind (wpAny_newList ?_ (by rw [count, sizeLine_eq]; omega))
  have atL : (s1.heap.push (seqObj "list" vs.toArray 0)).get? s1.heap.objs.size = some (seqObj "list" vs.toArray 0) := Heap.get?_push_size _ rfl
  refine wpAny_bind (wpAny_holding (wpAny_call_entry slot_list_sort ⟨_, atL, rfl⟩ entry_list_sort (list_sort_treeK strKind_oneLt atL txs.keysOf (fun v₁ v₂ rest e => keyKind_strs (by rw [← e]; exact txs)) (by omega) fun st' hp hs => ?_) (args_list_sort _)))
  obtain ⟨ys, a1, a2, a3⟩ := sorted_out_str txs hp hs
  refine ⟨_, rfl, ?_⟩
  obtain ⟨c, hc⟩ := sortedHeap_at (vs := vs) (out := (arrOf st').map (·.2)) atL
  have py := a2.trans pk
  refine wpAny_pure ⟨_, rfl, fin _ s1.heap.objs.size _ c ys (fun b u e => ?_) g1 o1 hz hc a1 a3 (py.nodup_iff.mpr nod) (fun y => by rw [py.mem_iff, ← mem y]; simp) ?_⟩
  · have old := k1 b u e
    have below := Heap.lt_size old
    show (sortedHeap (s1.heap.push (seqObj "list" vs.toArray 0)) s1.heap.objs.size vs ((arrOf st').map (·.2))).get? b = some u
    rw [sortedHeap_old (Nat.ne_of_lt below) (by rw [size_push']; exact Nat.lt_succ_of_lt below)]
    exact Heap.get?_push_of_some _ old
  · rw [py.length_eq, List.length_map, Array.length_toList, cnt]
    exact hn
end
/-- the set of the texts of xs -/
def SetX (P : Program) (w : World) (a : Addr) (xs : List Str) : HO := .ext fun h => Has P w h a xs
section
variable {X : Cx}
theorem cr_setX (hc : X.calm = true) : CallR X (.type "set") (fun vs G Q => ∃ (a : Addr) (xs : List Str), vs = [.ref a] ∧ SqL X.K G a (xs.map V.str) ∧ xs.length < 1000 ∧ ∀ p, G p = none → Q (.ref p) (upd G p (SetX X.prog X.w p xs))) := by
  intro pins s τ G vs us Q I rv h
  obtain ⟨a, xs, rfl, hq, few, q⟩ := h
  obtain ⟨u, rfl, ru⟩ := vals1 rv
  cases ru
  obtain ⟨its, r2, pl, small⟩ := I.list hq
  have count := r2.length
  rw [List.length_map] at count
  refine set_of_texts xs (I.ok.hd hc) pl.isList (fun i v e => ?_) (by simp only [List.size_toArray]; exact count.symm) (by unfold scanBound; omega) fun g tk has keep => ?_
  · have e' : its[i]? = some v := by simpa using e
    have lt : i < (xs.map V.str).length := by
      have := (List.getElem?_eq_some_iff.mp e').1
      rw [List.length_map]
      omega
    obtain ⟨v2, h1, h2⟩ := r2.get (List.getElem?_eq_getElem lt)
    rw [e'] at h1
    cases h1
    rw [List.length_map] at lt
    rw [List.getElem_map] at h2
    obtain ⟨tk, rfl⟩ := h2
    exact ⟨xs[i], tk, List.getElem?_eq_getElem lt, rfl⟩
  · obtain ⟨n, hn, ob, rest⟩ := id has
    have fine : ObjOk X.prog X.w (upd G s.heap.objs.size (SetX X.prog X.w s.heap.objs.size xs)) g s.heap.objs.size (SetX X.prog X.w s.heap.objs.size xs) := by
      refine ⟨has, ?_, fun h1 h2 h3 k => h3.at k⟩
      obtain ⟨_, _, _, at0, _⟩ := rest
      exact ⟨ob, at0⟩
    exact ⟨.ref s.heap.objs.size, _, I.laid (t' := tk) keep (Nat.le_refl _) fine, rfl, q _ (I.hok.fresh (Nat.le_refl _))⟩
theorem cr_sortedX (hc : X.calm = true) : CallR X (.builtin "sorted") (fun vs G Q => ∃ (a : Addr) (xs : List Str), vs = [.ref a] ∧ G a = some (SetX X.prog X.w a xs) ∧ xs.length < 64 ∧
    ∀ (ys : List Str) p, sortedS ys = true → ys.Nodup → (∀ y, y ∈ ys ↔ y ∈ xs) → G p = none → Q (.ref p) (upd G p (.lst (ys.map V.str)))) := by
  intro pins s τ G vs us Q I rv h
  obtain ⟨a, xs, rfl, ha, few, q⟩ := h
  obtain ⟨u, rfl, ru⟩ := vals1 rv
  cases ru
  have has : Has X.prog X.w s.heap a xs := (I.hok a _ ha).1
  refine sort_texts has (I.ok.hd hc) few fun s' p out c ys keep g o hp hg txs so nd mem len => ?_
  have small : (ys.map V.str).length ≤ sizeLine := by rw [List.length_map, sizeLine_eq]; omega
  have new : G p = none := I.hok.fresh hp
  have J : Inv X pins τ (upd G p (.lst (ys.map V.str))) { s with heap := s'.heap, gens := s'.gens, drawn := s'.drawn, toks := s'.toks } :=
    I.call (ch := []) (Un.laid keep hp new) (I.hok.laid keep hp ⟨small, out.toList, c, vals_of_strs txs, hg⟩) (by rw [g]; exact I.bare) (fun _ z => nomatch z)
  obtain ⟨h', g', d', t', o'⟩ := s'
  obtain rfl : o' = s.os := o
  exact ⟨.ref p, _, J, rfl, q ys p so nd mem new⟩
end
end Ks
namespace Bp
open PySem PySem.Spec PyProof.Rows L2 Bk Bm Evl Be
def top (i : Nat) : Stmt := PySem.Challenge.pw_buildroom_k01_whole_trees.main.body.getD i (.Pass ⟨0, 0, 0, 0⟩)
abbrev sLies : Stmt := top 21
abbrev sWay : Stmt := top 22
abbrev sIsName : Stmt := top 23
abbrev sIsPath : Stmt := top 24
abbrev sIsFolder : Stmt := top 25
abbrev sIsText : Stmt := top 26
abbrev sHas : Stmt := top 27
abbrev sIsFile : Stmt := top 28
abbrev sFollow : Stmt := top 29
/-- the built-ins and the module's constants -/
structure Gv (mg : Str → Option Value) : Prop where
  len : mg "len" = none
  all : mg "all" = none
  any : mg "any" = none
  isi : mg "isinstance" = none
  str : mg "str" = none
  tup : mg "tuple" = none
  lst : mg "list" = none
  int : mg "int" = none
  rng : mg "range" = none
  enu : mg "enumerate" = none
  mn : ∃ t, mg "MOST_NAMES" = some (.int 3 t)
  ln : ∃ t, mg "LONGEST_NAME" = some (.int 6 t)
  lt : ∃ t, mg "LONGEST_TEXT" = some (.int 200 t)
  mf : ∃ t, mg "MOST_FILES" = some (.int 20 t)
  srt : mg "sorted" = none
  set_ : mg "set" = none
  dct : mg "dict" = none
section
variable {σ : L2.St} {H : Hp}
theorem rv_leS {a b : Str} {k : Bool} (e : (!decide (b.cps.toList < a.cps.toList)) = k) : RV (fun x y H Q => ∃ i j, x = V.str i ∧ y = V.str j ∧ Q (.bl (!decide (j.cps.toList < i.cps.toList))) H) (.str a) (.str b) H (.bl k) := fun H1 _ Q q =>
  ⟨a, b, rfl, rfl, by rw [e]; exact q H1 (Ex.refl H1)⟩
theorem rv_gtS {a b : Str} : RV (fun x y H Q => ∃ i j, x = V.str i ∧ y = V.str j ∧ Q (.bl (decide (j.cps.toList < i.cps.toList))) H) (.str a) (.str b) H (.bl (decide (b.cps.toList < a.cps.toList))) := fun H1 _ Q q =>
  ⟨a, b, rfl, rfl, q H1 (Ex.refl H1)⟩
theorem not_lt_dec (a b : Nat) : (!decide (a < b)) = decide (b ≤ a) := by
  by_cases h : a < b
  · rw [decide_eq_true h, decide_eq_false (by omega)]; rfl
  · rw [decide_eq_false h, decide_eq_true (by omega)]; rfl
theorem le_lo {c n : Nat} : (!decide ((⟨#[c]⟩ : Str).cps.toList < (⟨#[n]⟩ : Str).cps.toList)) = decide (n ≤ c) := by
  show (!decide (([c] : List Nat) < [n])) = _
  rw [lt_one, not_lt_dec]
end
section
variable {P : Program} {w : World} {K : PySem.W.Frag} {mg : Str → Option Value} {base : Heap}
/-! ### is_name -/
def spName : Sp := fun vs H Q _ => ∃ x : Str, vs = [.str x] ∧ x.length ≤ 100000 ∧ RetV (.bl (nameB x)) H Q
theorem scName : FnScope ["word", "sign"] ["word"] (defScope sIsName) := ⟨rfl, rfl, rfl, by decide +kernel, rfl, by decide +kernel, by decide +kernel⟩
theorem ok_name {f : Addr} {fd : FuncData} (F : Fun K "is_name" "is_name" sIsName f fd) (T : Gv mg) : FnOk P w K mg base CX0 1 f fd ["word"] spName := by
  refine F.ok scName (fun vs H Q E h => ?_) (fun cdv A outer s H vs Q E hr h => ?_)
  · obtain ⟨x, rfl, _⟩ := h
    rfl
  · obtain ⟨x, rfl, hl, k⟩ := h
    obtain ⟨t1, m1⟩ := T.ln
    refine ⟨_, pss_one (ps_ret (pe_and (pe_chain op_le op_le pe_int (pe_callB call_len_str (by rfl) T.len PySem.boot_len (pa_cons (pv 0) pa_nil)) (pe_glob (v := .int 6) (by rfl) m1 ⟨_, rfl⟩))
      (pe_one (pe_callB (cr_all rfl) (by rfl) T.all boot_all (pa_cons (pe_lc (own := [("sign", 1)]) (g := gName 1) (tt := tYes) rfl scName.nd (pi_str (pv 0)) (blkOk_by (N := ["word", "sign"]) (sc := defScope sIsName) (by decide +kernel))
        (fun _ _ _ _ _ => pg_name (i := 1) scName.nd rfl (Or.inl rfl)) (fun _ _ _ _ _ => pts_nil)
        (fun _ _ _ _ _ => pe_or (pe_chain op_le_str op_le_str pe_str (pv 1) pe_str) (pe_one (pe_chain op_le_str op_le_str pe_str (pv 1) pe_str)))) pa_nil))))), ?_⟩
    refine s_ret (v := .bl (nameB x)) ?_ k
    refine ev_is (ev_and (a := decide ((1:Int) ≤ x.length) && decide ((x.length : Int) ≤ 6)) (b := (x.cps.toList.map sgnN).all id)
      (ev_chain ev_c (ev_lenS (ev_var rfl) hl) (rv_I0) (fun _ => ev_c) (fun _ => rv_I0))
      (fun hh => ev_all (ev_isL (el_lcS (fun c => .bl (sgnN c)) (ev_var rfl) ?_ fun c H1 e1 hc => ?_) ?_))) ?_
    · simp only [Bool.and_eq_true, decide_eq_true_eq] at hh
      omega
    · exact ev_orV (a := decide (97 ≤ c) && decide (c ≤ 122)) (b := decide (48 ≤ c) && decide (c ≤ 57)) (ev_chain ev_c (ev_var rfl) (rv_leS le_lo) (fun _ => ev_c) (fun _ => rv_leS le_lo)) (fun _ => ev_chain ev_c (ev_var rfl) (rv_leS le_lo) (fun _ => ev_c) (fun _ => rv_leS le_lo))
    · simp
    · have d1 : decide ((1 : Int) ≤ (x.length : Int)) = decide (1 ≤ x.length) := decide_eq_decide.mpr (by omega)
      have d2 : decide ((x.length : Int) ≤ 6) = decide (x.length ≤ 6) := decide_eq_decide.mpr (by omega)
      rw [d1, d2]
      simp [nameB, List.all_map]
/-! ### is_path -/
def spPath : Sp := fun vs H Q _ => ∃ v n, vs = [v] ∧ Kd K H v n ∧ (∀ x, v = .str x → x.length ≤ 100000) ∧ RetV (.bl (isPathV v)) H Q
theorem scPath : FnScope ["value", "names", "name"] ["value"] (defScope sIsPath) := ⟨rfl, rfl, rfl, by decide +kernel, rfl, by decide +kernel, by decide +kernel⟩
theorem ok_path {f : Addr} {fd : FuncData} (F : Fun K "is_path" "is_path" sIsPath f fd) (T : Gv mg) (cN : Cal P w K mg base CX0 1 "is_name" ["word"] spName) : FnOk P w K mg base CX0 2 f fd ["value"] (spPath (K := K)) := by
  refine F.ok scPath (fun vs H Q E h => ?_) (fun cdv A outer s H vs Q E hr h => ?_)
  · obtain ⟨x, n, rfl, _⟩ := h
    rfl
  · obtain ⟨v, n, rfl, kd, hl, k⟩ := h
    obtain ⟨t1, m1⟩ := T.mn
    refine ⟨_, pss_cons (ps_if (pt_not (pt_val (pe_callB call_isi (by rfl) T.isi boot_isinstance (pa_cons (pv 0) (pa_cons (pe_bltn (v := .ty "str") (by rfl) T.str (by decide +kernel) rfl) pa_nil))))) (pss_one (ps_ret pe_bl)) pss_nil)
      (pss_cons (ps_set (i := 1) scPath.nd rfl (Or.inl rfl) (pe_split (pv 0) pe_str))
      (pss_one (ps_ret (pe_and (pe_cmpR op_le (pe_callB call_len_seq (by rfl) T.len PySem.boot_len (pa_cons (pv 1) pa_nil)) (pe_glob (v := .int 3) (by rfl) m1 ⟨_, rfl⟩) (nomark _))
        (pe_one (pe_callB (cr_all rfl) (by rfl) T.all boot_all (pa_cons (pe_lc (own := [("name", 2)]) (g := gName 2) (tt := tYes) rfl scPath.nd (pi_list (pv 1)) (blkOk_by (N := ["value", "names", "name"]) (sc := defScope sIsPath) (by decide +kernel))
          (fun _ _ _ _ _ => pg_name (i := 2) scPath.nd rfl (Or.inl rfl)) (fun _ _ _ _ _ => pts_nil)
          (fun _ _ _ _ _ => pe_call cN.F hr rfl cN.g cN.kp cN.b .nil pass0 (pa_cons (pv 2) pa_nil))) pa_nil))))))), ?_⟩
    refine q_when (et_not (et_B (ev_isi (ev_var rfl) ev_c kd (.inl rfl)))) (fun hb H1 e1 => ?_) (fun hb H1 e1 => ?_)
    · have hn : n ≠ "str" := by simpa using hb
      refine s_ret (v := .bl (isPathV v)) (ev_is ev_c ?_) fun H2 e2 => k H2 (e1.trans e2)
      cases v with
      | str x => exact absurd (kd_strV kd) hn
      | _ => rfl
    · have hn : n = "str" := by simpa using hb
      subst hn
      obtain ⟨x, rfl⟩ := kd_isStr kd
      have hx := hl x rfl
      refine q_asgL (el_split (ev_var rfl) ev_c (by decide) hx) fun p H2 hp e2 h2 => ?_
      refine s_ret (v := .bl (pathB x)) ?_ fun H3 e3 => k H3 ((e1.trans e2).trans e3)
      refine ev_is (ev_and (a := decide (((partsOf x).length : Int) ≤ 3)) (b := ((partsOf x).map nameB).all id)
        (ev_is (ev_op (ev_len (ev_var rfl) (sq_of h2)) ev_c rv_I0) ?_)
        (fun hh => ev_all (ev_isL (el_lcA (fun y => match y with | .str z => .bl (nameB z) | _ => .non) (ev_var rfl) (sq_of h2) ?_ fun y H4 e4 hy => ?_) ?_))) ?_
      · rw [List.length_map]
        rfl
      · have h3 : ((partsOf x).length : Int) ≤ 3 := by simpa using hh
        rw [List.length_map]
        have h4 : (Txt.split x (Str.ofString "/")).length = (partsOf x).length := rfl
        omega
      · obtain ⟨z, hz, rfl⟩ := List.mem_map.mp hy
        have h5 := part_len (x := x) (p := z) hz
        exact ev_call (ea_cons (ev_var rfl) ea_nil) fun H5 e5 Q' q' E' => ⟨z, rfl, by omega, q'⟩
      · simp [partsOf]
      · have d1 : decide (((partsOf x).length : Int) ≤ 3) = decide ((partsOf x).length ≤ 3) := decide_eq_decide.mpr (by omega)
        rw [d1]
        simp [pathB, List.all_map]
/-! ### is_text -/
def spText : Sp := fun vs H Q _ => ∃ v n, vs = [v] ∧ Kd K H v n ∧ (∀ x, v = .str x → x.length ≤ 100000) ∧ RetV (.bl (isTextV v)) H Q
theorem scHas : FnScope ["value", "most", "sign"] ["value", "most"] (defScope sHas) := ⟨rfl, rfl, rfl, by decide +kernel, rfl, by decide +kernel, by decide +kernel⟩
def hasB (m : Nat) (x : Str) : Bool := decide (x.length ≤ m) && x.cps.toList.all sgnT
def hasV (m : Nat) : V → Bool
  | .str x => hasB m x
  | _ => false
def spHas : Sp := fun vs H Q _ => ∃ v n, ∃ m : Nat, vs = [v, .int (m : Int)] ∧ m ≤ 40000 ∧ Kd K H v n ∧ (∀ x, v = .str x → x.length ≤ 100000) ∧ RetV (.bl (hasV m v)) H Q
theorem ok_has {f : Addr} {fd : FuncData} (F : Fun K "has_signs" "has_signs" sHas f fd) (T : Gv mg) : FnOk P w K mg base CX0 1 f fd ["value", "most"] (spHas (K := K)) := by
  refine F.ok scHas (fun vs H Q E h => ?_) (fun cdv A outer s H vs Q E hr h => ?_)
  · obtain ⟨x, n, m, rfl, _⟩ := h
    rfl
  · obtain ⟨v, n, m, rfl, hm, kd, hl, k⟩ := h
    refine ⟨_, pss_cons (ps_if (pw_or (pt_not (pt_val (pe_callB call_isi (by rfl) T.isi boot_isinstance (pa_cons (pv 0) (pa_cons (pe_bltn (v := .ty "str") (by rfl) T.str (by decide +kernel) rfl) pa_nil)))))
        (pw_or1 (pt_cmpR op_gt (pe_callB call_len_str (by rfl) T.len PySem.boot_len (pa_cons (pv 0) pa_nil)) (pv 1) (nomark _)))).pt (pss_one (ps_ret pe_bl)) pss_nil)
      (pss_one (ps_ret (pe_callB (cr_all rfl) (by rfl) T.all boot_all (pa_cons (pe_lc (own := [("sign", 2)]) (g := gName 2) (tt := tYes) rfl scHas.nd (pi_str (pv 0)) (blkOk_by (N := ["value", "most", "sign"]) (sc := defScope sHas) (by decide +kernel))
          (fun _ _ _ _ _ => pg_name (i := 2) scHas.nd rfl (Or.inl rfl)) (fun _ _ _ _ _ => pts_nil)
          (fun _ _ _ _ _ => pe_or (pe_chain op_le_str op_le_str pe_str (pv 2) pe_str) (pe_one (pe_cmpR op_eq (pv 2) pe_str (nomark _))))) pa_nil)))), ?_⟩
    refine q_when (b := !(decide (n = "str")) || (match v with | .str x => decide ((m : Int) < x.length) | _ => false)) (et_or (et_not (et_B (ev_isi (ev_var rfl) ev_c kd (.inl rfl)))) fun hb => ?_) (fun hb H1 e1 => ?_) (fun hb H1 e1 => ?_)
    · have hn : n = "str" := by simpa using hb
      subst hn
      obtain ⟨x, rfl⟩ := kd_isStr kd
      exact et_test (ev_op (ev_lenS (ev_var rfl) (hl x rfl)) (ev_var rfl) rv_I0)
    · refine s_ret (v := .bl (hasV m v)) (ev_is ev_c ?_) fun H2 e2 => k H2 (e1.trans e2)
      cases v with
      | str x =>
        have hn := kd_strV kd
        subst hn
        have h6 : (m : Int) < x.length := by simpa using hb
        have h7 : hasB m x = false := by
          simp only [hasB, Bool.and_eq_false_iff, decide_eq_false_iff_not]
          left
          omega
        show _ = V.bl (hasB m x)
        rw [h7]
      | _ => rfl
    · have hb' := hb
      simp only [Bool.or_eq_false_iff] at hb'
      have hn : n = "str" := by simpa using hb'.1
      subst hn
      obtain ⟨x, rfl⟩ := kd_isStr kd
      have h6 : (x.length : Int) ≤ m := by simpa using hb'.2
      refine s_ret (v := .bl (hasB m x)) ?_ fun H2 e2 => k H2 (e1.trans e2)
      refine ev_is (ev_all (bs := x.cps.toList.map sgnT) (ev_isL (el_lcS (fun c => .bl (sgnT c)) (ev_var rfl) (by omega) fun c H1 e1 hc => ?_) ?_)) ?_
      · exact ev_orV (a := decide (32 ≤ c) && decide (c ≤ 126)) (b := decide (c = 10)) (ev_chain ev_c (ev_var rfl) (rv_leS le_lo) (fun _ => ev_c) (fun _ => rv_leS le_lo)) (fun _ => ev_is (ev_op (ev_var rfl) ev_c (rv_eq rfl)) (by
          congr 1
          rw [Bool.eq_iff_iff, decide_eq_true_eq, decide_eq_true_eq]
          constructor
          · intro h
            injection h with h
            have h8 : ([c] : List Nat) = [10] := congrArg (fun z : Str => z.cps.toList) h
            simpa using h8
          · rintro rfl
            rfl))
      · simp
      · simp [hasB, List.all_map]
        intro _
        omega
theorem scText : FnScope ["value"] ["value"] (defScope sIsText) := ⟨rfl, rfl, rfl, by decide +kernel, rfl, by decide +kernel, by decide +kernel⟩
theorem ok_text {f : Addr} {fd : FuncData} (F : Fun K "is_text" "is_text" sIsText f fd) (T : Gv mg) (cH : Cal P w K mg base CX0 1 "has_signs" ["value", "most"] (spHas (K := K))) : FnOk P w K mg base CX0 2 f fd ["value"] (spText (K := K)) := by
  refine F.ok scText (fun vs H Q E h => ?_) (fun cdv A outer s H vs Q E hr h => ?_)
  · obtain ⟨x, n, rfl, _⟩ := h
    rfl
  · obtain ⟨v, n, rfl, kd, hl, k⟩ := h
    obtain ⟨t1, m1⟩ := T.lt
    refine ⟨_, pss_one (ps_ret (pe_call cH.F hr (by rfl) cH.g cH.kp cH.b .nil pass0 (pa_cons (pv 0) (pa_cons (pe_glob (v := .int 200) (by rfl) m1 ⟨_, rfl⟩) pa_nil)))), ?_⟩
    refine s_ret (v := .bl (isTextV v)) (ev_call (ea_cons (ev_var rfl) (ea_cons ev_c ea_nil)) fun H1 e Q q E => ⟨v, n, 200, rfl, by decide, kd.mono e, hl, ?_⟩) k
    have z : hasV 200 v = isTextV v := by cases v <;> rfl
    rw [z]
    exact q
/-! ### is_folder -/
theorem scFolder : FnScope ["value"] ["value"] (defScope sIsFolder) := ⟨rfl, rfl, rfl, by decide +kernel, rfl, by decide +kernel, by decide +kernel⟩
/-! ### lies_within -/
def spLies : Sp := fun vs H Q _ => ∃ p f : Str, vs = [.str p, .str f] ∧ f.length ≤ 100000 ∧ RetV (.bl (within p f)) H Q
theorem scLies : FnScope ["path", "folder"] ["path", "folder"] (defScope sLies) := ⟨rfl, rfl, rfl, by decide +kernel, rfl, by decide +kernel, by decide +kernel⟩
theorem ok_lies {f : Addr} {fd : FuncData} (F : Fun K "lies_within" "lies_within" sLies f fd) : FnOk P w K mg base CX0 1 f fd ["path", "folder"] spLies := by
  refine F.ok scLies (fun vs H Q E h => ?_) (fun cdv A outer s H vs Q E hr h => ?_)
  · obtain ⟨x, n, rfl, _⟩ := h
    rfl
  · obtain ⟨p, fo, rfl, hl, k⟩ := h
    refine ⟨_, pss_one (ps_ret (pe_or (pe_cmpR op_eq (pv 1) pe_str (nomark _)) (pe_one (pe_m1 PySem.F.slot_str_startswith PySem.F.type_str_startswith mt_startswith (pv 0) (pe_op op_add_str (pv 1) pe_str))))), ?_⟩
    refine s_ret (v := .bl (within p fo)) ?_ k
    refine ev_is (ev_orV (a := decide (V.str fo = V.str (Str.ofString ""))) (b := Txt.startswith p (fo ++ Str.ofString "/")) (ev_op (ev_var rfl) ev_c (rv_eq rfl)) (fun _ =>
      fun H1 e1 Q q => ⟨_, rfl, ⟨p, rfl⟩, ev_op (r := fun x y H Q => ∃ i j, x = .str i ∧ y = .str j ∧ i.length + j.length ≤ sizeLine ∧ Q (.str (i ++ j)) H) (ev_var (v := .str fo) rfl) (ev_c (v := .str (Str.ofString "/"))) (z := .str (fo ++ Str.ofString "/"))
        (fun H2 e2 Q2 q2 => ⟨fo, _, rfl, rfl, Nat.le_trans (Nat.add_le_add_right hl 1) (by rw [sizeLine_eq]; decide), q2 H2 (Ex.refl _)⟩) H1 e1 _ fun H2 e2 => ⟨p, _, rfl, rfl, q H2 e2⟩⟩)) ?_
    simp [within]
/-! ### in_the_way -/
def way (p q : Str) : Bool := decide (p = q) || (within p q || within q p)
def spWay : Sp := fun vs H Q _ => ∃ p q : Str, vs = [.str p, .str q] ∧ p.length ≤ 100000 ∧ q.length ≤ 100000 ∧ RetV (.bl (way p q)) H Q
theorem scWay : FnScope ["one", "other"] ["one", "other"] (defScope sWay) := ⟨rfl, rfl, rfl, by decide +kernel, rfl, by decide +kernel, by decide +kernel⟩
theorem ok_way {f : Addr} {fd : FuncData} (F : Fun K "in_the_way" "in_the_way" sWay f fd) (cL : Cal P w K mg base CX0 1 "lies_within" ["path", "folder"] spLies) : FnOk P w K mg base CX0 2 f fd ["one", "other"] spWay := by
  refine F.ok scWay (fun vs H Q E h => ?_) (fun cdv A outer s H vs Q E hr h => ?_)
  · obtain ⟨x, n, rfl, _⟩ := h
    rfl
  · obtain ⟨p, q, rfl, hp, hq, k⟩ := h
    refine ⟨_, pss_one (ps_ret (pe_or (pe_cmpR op_eq (pv 0) (pv 1) (nomark _)) (pe_or (pe_call cL.F hr (by rfl) cL.g cL.kp cL.b .nil pass0 (pa_cons (pv 0) (pa_cons (pv 1) pa_nil)))
      (pe_one (pe_call cL.F hr (by rfl) cL.g cL.kp cL.b .nil pass0 (pa_cons (pv 1) (pa_cons (pv 0) pa_nil))))))), ?_⟩
    refine s_ret (v := .bl (way p q)) ?_ k
    refine ev_is (ev_orV (a := decide (V.str p = V.str q)) (b := within p q || within q p) (ev_op (ev_var rfl) (ev_var rfl) (rv_eq rfl)) (fun _ =>
      ev_orV (ev_call (ea_cons (ev_var rfl) (ea_cons (ev_var rfl) ea_nil)) fun H5 e5 Q' q' E' => ⟨p, q, rfl, hq, q'⟩) (fun _ => ev_call (ea_cons (ev_var rfl) (ea_cons (ev_var rfl) ea_nil)) fun H5 e5 Q' q' E' => ⟨q, p, rfl, hp, q'⟩))) ?_
    simp [way]
end
end Bp
namespace Bp
open PySem PySem.Spec PyProof.Rows L2 Bk Bm Evl Be
/-- a small value of any kind -/
inductive Sm (H : Hp) : V → Prop
  | non : Sm H .non
  | bl (b : Bool) : Sm H (.bl b)
  | int (i : Int) : Sm H (.int i)
  | str (x : Str) (h : x.length ≤ 1000) : Sm H (.str x)
  | l1 {a : Addr} (h : H a = some (.lst [.str (Str.ofString "a")])) : Sm H (.ref a)
  | t1 {a : Addr} (h : H a = some (.tup [.str (Str.ofString "a")])) : Sm H (.ref a)
  | d0 {a : Addr} (h : H a = some (.dK [])) : Sm H (.ref a)
section
variable {H H' : Hp} {K : PySem.W.Frag} {v : V}
theorem Sm.mono (e : Ex H H') (h : Sm H v) : Sm H' v := by
  cases h with
  | non => exact .non
  | bl b => exact .bl b
  | int i => exact .int i
  | str x h => exact .str x h
  | l1 h => exact .l1 (e _ _ h)
  | t1 h => exact .t1 (e _ _ h)
  | d0 h => exact .d0 (e _ _ h)
theorem Sm.kd (h : Sm H v) : ∃ n, Kd K H v n := by
  cases h with
  | non => exact ⟨_, kd_non⟩
  | bl b => exact ⟨_, kd_bl b⟩
  | int i => exact ⟨_, kd_int i⟩
  | str x h => exact ⟨_, kd_str x⟩
  | l1 h => exact ⟨_, kd_lst h⟩
  | t1 h => exact ⟨_, kd_tup h⟩
  | d0 h => exact ⟨_, kd_dK h⟩
theorem Sm.len {x : Str} (h : Sm H (.str x)) : x.length ≤ 1000 := by
  cases h with
  | str _ h => exact h
/-- v == "z", v != "z" for small values -/
theorem sh_a : SeqAt.shaped (.tuple [.str (Str.ofString "a")]) = true := by decide +kernel
theorem sh_l : SeqAt.shaped (.list [.str (Str.ofString "a")]) = true := by decide +kernel
def rEqSm (K : PySem.W.Frag) : R2 := fun x y H Q => rEq x y H Q ∨ (rEqD K x y H Q ∨ rDS false x y H Q)
def rNeSm (K : PySem.W.Frag) : R2 := fun x y H Q => rNe x y H Q ∨ (rNeD K x y H Q ∨ rDS true x y H Q)
theorem op_eqSm {X : Cx} (hu : X.A.units + 64 < cLine) : OpR X (compareOp .Eq) (rEqSm X.K) := op_or op_eq (op_or (op_eqD hu) (op_eq_ds (by omega)))
theorem op_neSm {X : Cx} (hu : X.A.units + 64 < cLine) : OpR X (compareOp .NotEq) (rNeSm X.K) := op_or op_ne (op_or (op_neD hu) (op_ne_ds (by omega)))
theorem rv_eqSm {z : Str} (h : Sm H v) (hz : SeqAt.shaped (.str z) = true) : RV (rEqSm K) v (.str z) H (.bl (decide (v = .str z))) := fun H1 e Q q => by
  have g := h.mono e
  have q1 := q H1 (Ex.refl _)
  cases g with
  | non => exact .inl ⟨rfl, q1⟩
  | bl b => exact .inl ⟨rfl, q1⟩
  | int i => exact .inl ⟨rfl, q1⟩
  | str x h => exact .inl ⟨rfl, q1⟩
  | l1 g1 => exact .inr (.inl ⟨_, _, .lst (SqL.of g1) (.cons (.str _) .nil), .str z, sh_l, hz, by simpa [PyData.eqv] using q1⟩)
  | t1 g1 => exact .inr (.inl ⟨_, _, .tup (SqT.of g1) (.cons (.str _) .nil), .str z, sh_a, hz, by simpa [PyData.eqv] using q1⟩)
  | d0 g1 => exact .inr (.inr ⟨_, _, _, rfl, rfl, g1, by simpa using q1⟩)
theorem rv_neSm {z : Str} (h : Sm H v) (hz : SeqAt.shaped (.str z) = true) : RV (rNeSm K) v (.str z) H (.bl (!decide (v = .str z))) := fun H1 e Q q => by
  have g := h.mono e
  have q1 := q H1 (Ex.refl _)
  cases g with
  | non => exact .inl ⟨rfl, q1⟩
  | bl b => exact .inl ⟨rfl, q1⟩
  | int i => exact .inl ⟨rfl, q1⟩
  | str x h => exact .inl ⟨rfl, q1⟩
  | l1 g1 => exact .inr (.inl ⟨_, _, .lst (SqL.of g1) (.cons (.str _) .nil), .str z, sh_l, hz, by simpa [PyData.eqv] using q1⟩)
  | t1 g1 => exact .inr (.inl ⟨_, _, .tup (SqT.of g1) (.cons (.str _) .nil), .str z, sh_a, hz, by simpa [PyData.eqv] using q1⟩)
  | d0 g1 => exact .inr (.inr ⟨_, _, _, rfl, rfl, g1, by simpa using q1⟩)
end
/-- what is_file says of a thing -/
inductive Fil (K : PySem.W.Frag) (H : Hp) : V → Bool → Prop
  | no {v : V} {n : String} (k : Kd K H v n) (h : n ≠ "tuple") : Fil K H v false
  | len {a : Addr} {xs : List V} (h : H a = some (.tup xs)) (hl : xs.length ≠ 2) (hz : xs.length ≤ 1000) : Fil K H (.ref a) false
  | two {a : Addr} {u w : V} (h : H a = some (.tup [u, w])) (hu : Sm H u) (hw : Sm H w) : Fil K H (.ref a) (isPathV u && isTextV w)
theorem Fil.mono {K : PySem.W.Frag} {H H' : Hp} {v : V} {b : Bool} (e : Ex H H') (h : Fil K H v b) : Fil K H' v b := by
  cases h with
  | no k h => exact .no (k.mono e) h
  | len h hl hz => exact .len (e _ _ h) hl hz
  | two h hu hw => exact .two (e _ _ h) (hu.mono e) (hw.mono e)
section
variable {P : Program} {w : World} {K : PySem.W.Frag} {mg : Str → Option Value} {base : Heap}
theorem spv_path {v : V} {H : Hp} (h : Sm H v) : SpV (spPath (K := K)) [v] H (.bl (isPathV v)) := fun H1 e Q q E => by
  obtain ⟨n, kd⟩ := (h.mono e).kd (K := K)
  exact ⟨v, n, rfl, kd, fun x hx => by subst hx; exact Nat.le_trans h.len (by decide), q⟩
theorem spv_text {v : V} {H : Hp} (h : Sm H v) : SpV (spText (K := K)) [v] H (.bl (isTextV v)) := fun H1 e Q q E => by
  obtain ⟨n, kd⟩ := (h.mono e).kd (K := K)
  exact ⟨v, n, rfl, kd, fun x hx => by subst hx; exact Nat.le_trans h.len (by decide), q⟩
/-! ### is_folder -/
def spFolder : Sp := fun vs H Q _ => ∃ v, vs = [v] ∧ Sm H v ∧ RetV (.bl (isFolderV v)) H Q
theorem ok_folder {f : Addr} {fd : FuncData} (F : Fun K "is_folder" "is_folder" sIsFolder f fd) (cP : Cal P w K mg base CX0 2 "is_path" ["value"] (spPath (K := K))) : FnOk P w K mg base CX0 3 f fd ["value"] spFolder := by
  refine F.ok scFolder (fun vs H Q E h => ?_) (fun cdv A outer s H vs Q E hr h => ?_)
  · obtain ⟨x, rfl, _⟩ := h
    rfl
  · obtain ⟨v, rfl, sm, k⟩ := h
    have hu : (A.deeper (envOfC "is_folder" (defScope sIsFolder) s.heap.objs.size f cdv)).units + 64 < cLine := by have := hr.un; omega
    refine ⟨_, pss_one (ps_ret (pe_or (pe_call cP.F hr (by rfl) cP.g cP.kp cP.b .nil pass0 (pa_cons (pv 0) pa_nil)) (pe_one (pe_cmpR (op_eqSm hu) (pv 0) pe_str (nomark _))))), ?_⟩
    refine s_ret (v := .bl (isFolderV v)) ?_ k
    refine ev_is (ev_orV (a := isPathV v) (b := decide (v = .str (Str.ofString ""))) (ev_call (ea_cons (ev_var rfl) ea_nil) (spv_path sm)) (fun _ => ev_op (ev_var rfl) ev_c (rv_eqSm sm (by decide +kernel)))) ?_
    cases v <;> simp [isPathV, isFolderV]
/-! ### is_file -/
theorem scFile : FnScope ["value"] ["value"] (defScope sIsFile) := ⟨rfl, rfl, rfl, by decide +kernel, rfl, by decide +kernel, by decide +kernel⟩
def spFile : Sp := fun vs H Q _ => ∃ v b, vs = [v] ∧ Fil K H v b ∧ RetV (.bl b) H Q
theorem ev_lenT {σ : L2.St} {H : Hp} {ta : TE} {p : Addr} {xs : List V} (ha : Ev ta σ H (.ref p)) (h : SqT K H p xs) : Ev (tCB (rLenS K) (tCons ta tNil)) σ H (.int (xs.length : Int)) := fun H1 e Q q =>
  ha H1 e _ fun H2 e2 => ⟨p, xs, rfl, Or.inr (ex_t (e.trans e2) h), q H2 e2⟩
theorem kd_tupX {H : Hp} {a : Addr} {n : String} {xs : List V} (h : H a = some (.tup xs)) (k : Kd K H (.ref a) n) (hk : n ≠ "tuple") : K.lookup a ≠ none := by
  obtain ⟨t, _⟩ := k
  intro hn
  cases t with
  | base t =>
    cases t with
    | lst e => rw [h] at e; cases e
    | frz e => rw [h] at e; cases e
    | tup e => exact hk rfl
    | dK e => rw [h] at e; cases e
    | dT e => rw [h] at e; cases e
  | set e => rw [h] at e; cases e
  | kList e c => rw [hn] at e; cases e
  | kTuple e c => exact hk rfl
  | kDict e c => rw [hn] at e; cases e
  | fTuple e => exact hk rfl
  | fDict e => rw [h] at e; cases e
theorem ok_file {f : Addr} {fd : FuncData} (F : Fun K "is_file" "is_file" sIsFile f fd) (T : Gv mg) (cP : Cal P w K mg base CX0 2 "is_path" ["value"] (spPath (K := K))) (cT : Cal P w K mg base CX0 2 "is_text" ["value"] (spText (K := K))) :
    FnOk P w K mg base CX0 3 f fd ["value"] (spFile (K := K)) := by
  refine F.ok scFile (fun vs H Q E h => ?_) (fun cdv A outer s H vs Q E hr h => ?_)
  · obtain ⟨x, b, rfl, _⟩ := h
    rfl
  · obtain ⟨v, b, rfl, fi, k⟩ := h
    refine ⟨_, pss_one (ps_ret (pe_and (pe_callB call_isi (by rfl) T.isi boot_isinstance (pa_cons (pv 0) (pa_cons (pe_bltn (v := .ty "tuple") (by rfl) T.tup (by decide +kernel) rfl) pa_nil)))
      (pe_and (pe_cmpR op_eq (pe_callB call_len_seq (by rfl) T.len PySem.boot_len (pa_cons (pv 0) pa_nil)) pe_int (nomark _))
      (pe_and (pe_call cP.F hr (by rfl) cP.g cP.kp cP.b .nil pass0 (pa_cons (pe_ix ix_tup (pv 0) pe_int (fun _ _ => rfl)) pa_nil))
      (pe_one (pe_call cT.F (hr.mono (by decide)) (by rfl) cT.g cT.kp cT.b .nil pass0 (pa_cons (pe_ix ix_tup (pv 0) pe_int (fun _ _ => rfl)) pa_nil))))))), ?_⟩
    refine s_ret (v := .bl b) ?_ k
    cases fi with
    | no kd hn =>
      have e : decide (_ = "tuple") = false := decide_eq_false hn
      exact ev_is (ev_and (b := false) (ev_isi (ev_var rfl) ev_c kd (.inr rfl)) (fun h => by rw [e] at h; cases h)) (by rw [e]; rfl)
    | @len a xs h hl hz =>
      refine ev_is (ev_and (a := true) (b := false) (ev_is (ev_isi (ev_var rfl) ev_c (kd_tup h) (.inr rfl)) rfl) fun _ => ?_) rfl
      have e : decide (V.int (xs.length : Int) = V.int 2) = false := decide_eq_false (fun z => by injection z with z; omega)
      exact ev_is (ev_and (b := false) (ev_is (ev_op (ev_lenT (ev_var rfl) (st_of h)) ev_c (rv_eq rfl)) (by rw [e])) (fun h => by cases h)) rfl
    | @two a u wv h hu hw =>
      refine ev_is (ev_and (a := true) (b := isPathV u && isTextV wv) (ev_is (ev_isi (ev_var rfl) ev_c (kd_tup h) (.inr rfl)) rfl) fun _ => ?_) (by simp)
      refine ev_is (ev_and (a := true) (b := isPathV u && isTextV wv) (ev_is (ev_op (ev_lenT (ev_var rfl) (st_of h)) ev_c (rv_eq rfl)) rfl) fun _ => ?_) (by simp)
      refine ev_and (ev_call (ea_cons (ev_op (ev_var rfl) ev_c (rv_ixT (st_of h) rfl)) ea_nil) (spv_path hu)) fun _ => ?_
      exact ev_call (ea_cons (ev_op (ev_var rfl) ev_c (rv_ixT (st_of h) rfl)) ea_nil) (spv_text hw)
end
end Bp
namespace Bp
open PySem PySem.Spec PyProof.Rows L2 Bk Bm Evl Be
abbrev Fl := Str × Str
/-- a pair (path, text) stands at v -/
def FileAt (H : Hp) (v : V) (f : Fl) : Prop := ∃ b, v = .ref b ∧ H b = some (.tup [.str f.1, .str f.2])
theorem FileAt.mono {H H' : Hp} {v : V} {f : Fl} (e : Ex H H') (h : FileAt H v f) : FileAt H' v f := by
  obtain ⟨b, hv, hb⟩ := h
  exact ⟨b, hv, e _ _ hb⟩
def okF (f : Fl) : Prop := f.1.length ≤ 1000 ∧ f.2.length ≤ 1000 ∧ PyData.strOk f.1 = true ∧ PyData.strOk f.2 = true
theorem paired_mono {α β : Type} {F G : α → β → Prop} {l : List α} {m : List β} (h : Paired F l m) (f : ∀ a b, F a b → G a b) : Paired G l m := by
  induction h with
  | nil => exact .nil
  | cons r _ ih => exact .cons (f _ _ r) ih
theorem paired_mem {α β : Type} {F : α → β → Prop} {l : List α} {m : List β} (h : Paired F l m) {x : α} (hx : x ∈ l) : ∃ y ∈ m, F x y := by
  induction h with
  | nil => cases hx
  | cons r _ ih =>
    rcases List.mem_cons.mp hx with rfl | hx
    · exact ⟨_, List.mem_cons_self, r⟩
    · obtain ⟨y, hy, q⟩ := ih hx
      exact ⟨y, List.mem_cons_of_mem _ hy, q⟩
theorem paired_take {α β : Type} {F : α → β → Prop} {l : List α} {m : List β} (h : Paired F l m) : ∀ n, Paired F (l.take n) (m.take n) := by
  induction h with
  | nil => intro n; simp; exact .nil
  | cons r _ ih =>
    intro n
    cases n with
    | zero => exact .nil
    | succ n => exact .cons r (ih n)
theorem paired_len {α β : Type} {F : α → β → Prop} {l : List α} {m : List β} (h : Paired F l m) : l.length = m.length := by
  induction h with
  | nil => rfl
  | cons r _ ih => simp [ih]
theorem paired_get {α β : Type} {F : α → β → Prop} {l : List α} {m : List β} (h : Paired F l m) : ∀ {i : Nat} {x : α}, l[i]? = some x → ∃ y, m[i]? = some y ∧ F x y := by
  induction h with
  | nil => intro i x e; simp at e
  | cons r _ ih =>
    intro i x e
    cases i with
    | zero =>
      have e' := Option.some.inj e
      subst e'
      exact ⟨_, rfl, r⟩
    | succ i => exact ih (i := i) e
theorem paired_append {α β : Type} {F : α → β → Prop} {l l' : List α} {m m' : List β} (h : Paired F l m) (h' : Paired F l' m') : Paired F (l ++ l') (m ++ m') := by
  induction h with
  | nil => exact h'
  | cons r _ ih => exact .cons r ih
def dF (f : Fl) : PyData := .tuple [.str f.1, .str f.2]
theorem dp_files {K : PySem.W.Frag} {H : Hp} {xs : List V} {fs : List Fl} (h : Paired (FileAt H) xs fs) : DpAll K H xs (fs.map dF) := by
  induction h with
  | nil => exact .nil
  | cons r _ ih =>
    obtain ⟨b, rfl, hb⟩ := r
    exact .cons (.tup (SqT.of hb) (.cons (.str _) (.cons (.str _) .nil))) ih
theorem can_files : ∀ {fs : List Fl}, (∀ f ∈ fs, okF f) → PyData.canLayAll0 (fs.map dF) = true
  | [], _ => rfl
  | f :: r, h => by
    have h1 := h f List.mem_cons_self
    have ih := can_files (fs := r) fun g hg => h g (List.mem_cons_of_mem _ hg)
    show (PyData.canLay0 (dF f) && PyData.canLayAll0 (r.map dF)) = true
    rw [ih, Bool.and_true]
    show ((PyData.strOk f.1) && ((PyData.strOk f.2) && true)) = true
    rw [h1.2.2.1, h1.2.2.2]
    rfl
theorem depth_files : ∀ {fs : List Fl}, PyData.depthAll (fs.map dF) ≤ 3
  | [] => by simp [PyData.depthAll]
  | f :: r => by
    have ih := depth_files (fs := r)
    simp only [List.map_cons, PyData.depthAll, dF, PyData.depth] at ih ⊢
    omega
theorem shaped_files {fs : List Fl} (h : ∀ f ∈ fs, okF f) : SeqAt.shaped (.tuple (fs.map dF)) = true := by
  have h1 := can_files h
  have h2 := depth_files (fs := fs)
  have h3 : PyData.depth (.tuple (fs.map dF)) ≤ 64 := by
    simp only [PyData.depth]
    omega
  show (PyData.canLayAll0 (fs.map dF) && decide (PyData.depth (.tuple (fs.map dF)) ≤ 64)) = true
  rw [h1, decide_eq_true h3]
  rfl
/-- may the path stand behind these files -/
def follow (p : Str) (fs : List Fl) : Bool := match fs.getLast? with
  | none => true
  | some l => decide (l.1.cps.toList < p.cps.toList) && !(fs.any fun f => within p f.1)
section
variable {P : Program} {w : World} {K : PySem.W.Frag} {mg : Str → Option Value} {base : Heap}
theorem scFollow : FnScope ["path", "files", "file"] ["path", "files"] (defScope sFollow) := ⟨rfl, rfl, rfl, by decide +kernel, rfl, by decide +kernel, by decide +kernel⟩
def spFollow : Sp := fun vs H Q _ => ∃ p a xs fs, vs = [.str p, .ref a] ∧ SqT K H a xs ∧ Paired (FileAt H) xs fs ∧ (∀ f ∈ fs, okF f) ∧ p.length ≤ 1000 ∧ fs.length ≤ 1000 ∧ RetV (.bl (follow p fs)) H Q
theorem ok_follow {f : Addr} {fd : FuncData} (F : Fun K "may_follow" "may_follow" sFollow f fd) (T : Gv mg) (cL : Cal P w K mg base CX0 1 "lies_within" ["path", "folder"] spLies) :
    FnOk P w K mg base CX0 2 f fd ["path", "files"] (spFollow (K := K)) := by
  refine F.ok scFollow (fun vs H Q E h => ?_) (fun cdv A outer s H vs Q E hr h => ?_)
  · obtain ⟨p, a, xs, fs, rfl, _⟩ := h
    rfl
  · obtain ⟨p, a, xs, fs, rfl, hx, hp, hok, hl, hn, k⟩ := h
    have hu : (A.deeper (envOfC "may_follow" (defScope sFollow) s.heap.objs.size f cdv)).units + 64 < cLine := by have := hr.un; omega
    refine ⟨_, pss_cons (ps_if (pt_cmpR (op_eqD hu) (pv 1) (pe_tup pa_nil) (nomark _)) (pss_one (ps_ret pe_bl)) pss_nil)
      (pss_one (ps_ret (pe_and (pe_cmpR op_gt_str (pv 0) (pe_ix ix_tup (pe_ix ix_tup (pv 1) (pe_un un_neg pe_int) (fun _ _ => rfl)) pe_int (fun _ _ => rfl)) (nomark _))
        (pe_one (pe_not (pe_callB (cr_any rfl) (by rfl) T.any boot_any (pa_cons (pe_lc (own := [("file", 2)]) (g := gName 2) (tt := tYes) rfl scFollow.nd (pi_tup (pv 1)) (blkOk_by (N := ["path", "files", "file"]) (sc := defScope sFollow) (by decide +kernel))
          (fun _ _ _ _ _ => pg_name (i := 2) scFollow.nd rfl (Or.inl rfl)) (fun _ _ _ _ _ => pts_nil)
          (fun _ _ _ _ _ => pe_call cL.F hr rfl cL.g cL.kp cL.b .nil pass0 (pa_cons (pv 0) (pa_cons (pe_ix (r := rIxT K) ix_tup (pv 2) pe_int (fun _ _ => rfl)) pa_nil)))) pa_nil))))))), ?_⟩
    have test : EvT (tTest (tOp (rEqD K) (tVar 1) (tTup tNil))) (L2.start ["path", "files", "file"] [.str p, .ref a]) H (PyData.eqv (.tuple (fs.map dF)) (.tuple [])) :=
      et_test (ev_opU (ev_var rfl) (eu_tup ea_nil (by decide)) fun q H1 hq e1 H2 e2 Q' q' => ⟨.tuple (fs.map dF), .tuple [], .tup (ex_t (e1.trans e2) hx) (dp_files (paired_mono hp fun _ _ r => r.mono (e1.trans e2))), .tup (st_of (e2 _ _ hq)) .nil, shaped_files hok, by decide +kernel, q' H2 (Ex.refl _)⟩)
    refine q_when test (fun hb H1 e1 => ?_) (fun hb H1 e1 => ?_)
    · have hf : fs = [] := by
        cases fs with
        | nil => rfl
        | cons g r => simp [PyData.eqv, PyData.eqvAll] at hb
      subst hf
      exact s_ret (v := .bl true) ev_c fun H2 e2 => k H2 (e1.trans e2)
    · have hne : fs ≠ [] := fun z => by
        subst z
        simp [PyData.eqv, PyData.eqvAll] at hb
      obtain ⟨gs, g, rfl⟩ : ∃ gs g, fs = gs ++ [g] := ⟨fs.dropLast, fs.getLast hne, (List.dropLast_concat_getLast hne).symm⟩
      have hfol : follow p (gs ++ [g]) = (decide (g.1.cps.toList < p.cps.toList) && !((gs ++ [g]).any fun f => within p f.1)) := by
        unfold follow
        rw [List.getLast?_append]
        rfl
      have hlen := paired_len hp
      have hxg : xs[xs.length - 1]? = some (xs.getD (xs.length - 1) .non) := by
        rw [List.getD_eq_getElem?_getD]
        have : xs.length - 1 < xs.length := by rw [hlen]; simp
        rw [List.getElem?_eq_getElem this]
        rfl
      obtain ⟨y, hy, b, hb1, hb2⟩ := paired_get hp hxg
      have ey : y = g := by
        rw [hlen, List.length_append] at hy
        simp at hy
        exact hy.symm
      subst ey
      have hat : atI xs (-1) = some (.ref b) := by
        unfold atI ixN
        have h0 : 0 < xs.length := by rw [hlen]; simp
        rw [if_neg (by decide), if_pos (by omega)]
        have e1 : ((-1 : Int) + (xs.length : Int)).toNat = xs.length - 1 := by omega
        show xs[((-1 : Int) + (xs.length : Int)).toNat]? = _
        rw [e1, hxg, hb1]
      refine s_ret (v := .bl (follow p (gs ++ [y]))) ?_ fun H2 e2 => k H2 (e1.trans e2)
      rw [hfol]
      refine ev_and (ev_op (ev_var rfl) (ev_op (ev_op (ev_var rfl) (ev_un ev_c ru_neg) (rv_ixT (ex_t e1 hx) hat)) ev_c (rv_ixT (st_of (e1 _ _ hb2)) rfl)) rv_gtS) fun _ => ?_
      refine ev_notV (ev_is (ev_any (bs := (gs ++ [y]).map fun f => within p f.1) (fun H2 e2 Q2 q2 => ?_)) ?_)
      · have big := el_lcT (K := K) (σ := L2.start ["path", "files", "file"] [.str p, .ref a]) (H := H1) (j := 2) (te := tCall spLies [] E0 (tCons (tVar 0) (tCons (tOp (rIxT K) (tVar 2) (tC (.int 0))) tNil)))
          (fun v => match v with | .ref c => (match H c with | some (.tup (.str z :: _)) => .bl (within p z) | _ => .non) | _ => .non) (ev_var (i := 1) (v := .ref a) rfl) (ex_t e1 hx) (by rw [hlen]; omega) (fun x H3 e3 hx3 => ?_)
        · refine ev_isL big ?_ H2 e2 Q2 q2
          have hmap : ∀ {xs : List V} {fs : List Fl}, Paired (FileAt H) xs fs → xs.map (fun v => match v with | .ref c => (match H c with | some (.tup (.str z :: _)) => V.bl (within p z) | _ => .non) | _ => .non) = (fs.map fun f => within p f.1).map V.bl := by
            intro xs fs h
            induction h with
            | nil => rfl
            | cons r _ ih =>
              obtain ⟨c, rfl, hc⟩ := r
              simp only [List.map_cons, ih, hc]
          exact hmap hp
        · obtain ⟨f, hf, c, rfl, hc⟩ := paired_mem hp hx3
          have hcc := e3 _ _ (e1 _ _ hc)
          simp only [hc]
          exact ev_call (ea_cons (ev_var rfl) (ea_cons (ev_op (ev_var rfl) ev_c (rv_ixT (st_of hcc) rfl)) ea_nil)) fun H5 e5 Q' q' E' => ⟨p, f.1, rfl, Nat.le_trans (hok f hf).1 (by decide), q'⟩
      · simp
end
end Bp
namespace Bp
open PySem PySem.Spec PyProof.Rows L2 Bk Bm Evl Be
abbrev vTail : List Value := [.type "ValueError", .type "Exception", .type "BaseException", .type "object"]
/-- an error class without a field, at C -/
structure Xc (K : PySem.W.Frag) (mg : Str → Option Value) (x : Str) (C : Addr) : Prop where
  g : mg x = some (.ref C)
  q : PySem.W.excIn K C vTail "ValueError.__new__" = true
  k : PySem.W.keepIn K (.ref C) = true
  b : PySem.W.subIn K (.ref C) (.type "BaseException") = some true
  t : PySem.W.typeIn K (.ref C) = some (.type "type")
section
variable {X : Cx} {C : Addr} {x : Str} {p pos : Pos}
/-- X() -/
theorem pmk_own0 (c : Xc X.K X.mg x C) (hg : Gl X x) (hdb : (x == ("__debug__" : Str)) = false := by decide) : PMk X (.Call (.Name x p) [] [] pos) (fun _ H Q => Q (.ref C) none H) := by
  intro pins s σ H Q I h
  refine wpAny_Call_Name_kw (ld_glob I hg c.g ?_ hdb)
  refine PySem.W.callWith_K0 I.kIn c.k ?_
  show wpAny _ _ (call (.ref C) []) _ _ _
  obtain ⟨bm, N, nm, qn, bs, hdct, sn, sub, ab, col, dd, k0, k1, k2, k3, k5, mN, hC, hN, hni, T⟩ := exc_obj I.kIn c.q
  refine wpAny_call_exc_subT PySem.F.excBase_ValueError T hC hN hni (fun h' e hm => ?_) (by rw [sizeLine_eq]; decide)
  exact mk_of I hm (raises_own c.b c.t) h (I.hok.gone hm.new)
end
abbrev sCkPath : Stmt := top 30
abbrev sCkFolder : Stmt := top 31
abbrev sCkWords : Stmt := top 32
section
variable {P : Program} {w : World} {K : PySem.W.Frag} {mg : Str → Option Value} {base : Heap}
/-- a check of one small value: nothing, or the error -/
def spCk (C : Addr) (ok : V → Bool) : Sp := fun vs H Q E => ∃ v, vs = [v] ∧ Sm H v ∧ (ok v = true → RetV .non H Q) ∧ (ok v = false → ∀ H', Ex H H' → E (.ref C) none H')
theorem scCkPath : FnScope ["value"] ["value"] (defScope sCkPath) := ⟨rfl, rfl, rfl, by decide +kernel, rfl, by decide +kernel, by decide +kernel⟩
theorem ok_ckPath {f C : Addr} {fd : FuncData} (F : Fun K "check_path" "check_path" sCkPath f fd) (c : Xc K mg "BadPath" C) (cP : Cal P w K mg base CX0 2 "is_path" ["value"] (spPath (K := K))) :
    FnOk P w K mg base (L2.CX P w) 3 f fd ["value"] (spCk C isPathV) := by
  refine F.okX scCkPath (fun vs H Q E h => ?_) (fun cdv A outer s H vs Q E hr h => ?_)
  · obtain ⟨x, rfl, _⟩ := h
    rfl
  · obtain ⟨v, rfl, sm, k1, k2⟩ := h
    refine ⟨_, pss_one (ps_if (pt_not (pt_val (pe_call cP.F hr (by rfl) cP.g cP.kp cP.b .nil pass0 (pa_cons (pv 0) pa_nil)))) (pss_one (ps_raise rfl (takes_of rfl rfl rfl rfl) (pmk_own0 c (by rfl)))) pss_nil), ?_⟩
    refine s_if (et_not (et_B (ev_call (ea_cons (ev_var rfl) ea_nil) (spv_path sm)))) (fun hb H1 e1 => ?_) (fun hb H1 e1 => ?_)
    · exact k2 (by simpa using hb) H1 e1
    · exact k1 (by simpa using hb) H1 e1
theorem scCkFolder : FnScope ["value"] ["value"] (defScope sCkFolder) := ⟨rfl, rfl, rfl, by decide +kernel, rfl, by decide +kernel, by decide +kernel⟩
theorem ok_ckFolder {f C : Addr} {fd : FuncData} (F : Fun K "check_folder" "check_folder" sCkFolder f fd) (c : Xc K mg "BadFolder" C) (cP : Cal P w K mg base CX0 3 "is_folder" ["value"] spFolder) :
    FnOk P w K mg base (L2.CX P w) 4 f fd ["value"] (spCk C isFolderV) := by
  refine F.okX scCkFolder (fun vs H Q E h => ?_) (fun cdv A outer s H vs Q E hr h => ?_)
  · obtain ⟨x, rfl, _⟩ := h
    rfl
  · obtain ⟨v, rfl, sm, k1, k2⟩ := h
    refine ⟨_, pss_one (ps_if (pt_not (pt_val (pe_call cP.F hr (by rfl) cP.g cP.kp cP.b .nil pass0 (pa_cons (pv 0) pa_nil)))) (pss_one (ps_raise rfl (takes_of rfl rfl rfl rfl) (pmk_own0 c (by rfl)))) pss_nil), ?_⟩
    refine s_if (et_not (et_B (ev_call (ea_cons (ev_var rfl) ea_nil) fun H1 e Q q E => ⟨v, rfl, sm.mono e, q⟩))) (fun hb H1 e1 => ?_) (fun hb H1 e1 => ?_)
    · exact k2 (by simpa using hb) H1 e1
    · exact k1 (by simpa using hb) H1 e1
theorem scCkWords : FnScope ["value"] ["value"] (defScope sCkWords) := ⟨rfl, rfl, rfl, by decide +kernel, rfl, by decide +kernel, by decide +kernel⟩
theorem ok_ckWords {f C : Addr} {fd : FuncData} (F : Fun K "check_words" "check_words" sCkWords f fd) (c : Xc K mg "BadWords" C) (cP : Cal P w K mg base CX0 2 "is_text" ["value"] (spText (K := K))) :
    FnOk P w K mg base (L2.CX P w) 3 f fd ["value"] (spCk C isTextV) := by
  refine F.okX scCkWords (fun vs H Q E h => ?_) (fun cdv A outer s H vs Q E hr h => ?_)
  · obtain ⟨x, rfl, _⟩ := h
    rfl
  · obtain ⟨v, rfl, sm, k1, k2⟩ := h
    refine ⟨_, pss_one (ps_if (pt_not (pt_val (pe_call cP.F hr (by rfl) cP.g cP.kp cP.b .nil pass0 (pa_cons (pv 0) pa_nil)))) (pss_one (ps_raise rfl (takes_of rfl rfl rfl rfl) (pmk_own0 c (by rfl)))) pss_nil), ?_⟩
    refine s_if (et_not (et_B (ev_call (ea_cons (ev_var rfl) ea_nil) (spv_text sm)))) (fun hb H1 e1 => ?_) (fun hb H1 e1 => ?_)
    · exact k2 (by simpa using hb) H1 e1
    · exact k1 (by simpa using hb) H1 e1
end
end Bp
namespace Bp
open PySem PySem.Spec PyProof.Rows L2 Bk Bm Evl Be Kr Ks
abbrev sCkTree : Stmt := top 33
abbrev sTextAt : Stmt := top 14
/-- good files in their order -/
structure GF (fs : List Fl) : Prop where
  ok : ∀ f ∈ fs, okF f ∧ pathB f.1 = true ∧ textB f.2 = true
  up : ∀ (i : Nat) (f : Fl), fs[i]? = some f → follow f.1 (fs.take i) = true
  few : fs.length ≤ 20
/-- a good tree stands at a, a plain tuple -/
def GT (H : Hp) (a : Addr) (fs : List Fl) : Prop := (∃ o xs, H a = some (.frz o (.tup xs)) ∧ Pln o ∧ Paired (FileAt H) xs fs) ∧ GF fs
section
variable {H H' : Hp} {a : Addr} {fs : List Fl} {K : PySem.W.Frag}
theorem GT.mono (e : Ex H H') (h : GT H a fs) : GT H' a fs := by
  obtain ⟨⟨o, xs, h1, h2, h3⟩, g⟩ := h
  exact ⟨⟨o, xs, e _ _ h1, h2, paired_mono h3 fun _ _ z => z.mono e⟩, g⟩
theorem GT.seq (h : GT H a fs) : ∃ xs, SqT K H a xs ∧ Paired (FileAt H) xs fs ∧ Kd K H (.ref a) "tuple" := by
  obtain ⟨⟨o, xs, h1, h2, h3⟩, g⟩ := h
  exact ⟨xs, .inl (.inr ⟨o, h1⟩), h3, .fTuple h1, by decide⟩
end
/-- the dict of a tree's files -/
def kvF (f : Fl) : Key × V := (Sum.inr f.1, V.str f.2)
theorem merge_id : ∀ (more kvs : List (Key × V)), (∀ p ∈ more, ∀ q ∈ kvs, q.1 ≠ p.1) → (more.map (·.1)).Nodup → mergeK kvs more = kvs ++ more
  | [], kvs, _, _ => by simp [mergeK]
  | p :: r, kvs, h, nd => by
    have hp : putK kvs p.1 p.2 = kvs ++ [p] := by
      unfold putK
      rw [if_neg (by
        intro z
        obtain ⟨q, hq, e⟩ := List.any_eq_true.mp z
        exact h p List.mem_cons_self q hq (by simpa using e))]
    have nd' := List.nodup_cons.mp (show (p.1 :: r.map (·.1)).Nodup from nd)
    show mergeK (putK kvs p.1 p.2) r = _
    rw [hp, merge_id r (kvs ++ [p]) (fun q hq z hz => ?_) nd'.2]
    · simp
    · rcases List.mem_append.mp hz with hz | hz
      · exact h q (List.mem_cons_of_mem _ hq) z hz
      · rw [List.mem_singleton.mp hz]
        intro e
        exact nd'.1 (by rw [e]; exact List.mem_map.mpr ⟨q, hq, rfl⟩)
/-- the text of the file at p -/
def textOf (fs : List Fl) (p : Str) : V := ((fs.find? fun f => decide (f.1 = p)).map fun f => V.str f.2).getD .non
theorem val_files : ∀ (fs : List Fl) (p : Str), (valV (fs.map kvF) (Sum.inr p)).getD .non = textOf fs p
  | [], p => rfl
  | f :: r, p => by
    by_cases e : f.1 = p
    · rw [List.map_cons, valV_pos (by show Sum.inr f.1 = _; rw [e])]
      unfold textOf
      rw [List.find?_cons, decide_eq_true e]
      rfl
    · rw [List.map_cons, valV_neg (by intro z; injection z with z; exact e z), val_files r p]
      unfold textOf
      rw [List.find?_cons, decide_eq_false e]
theorem GF.nodup {fs : List Fl} (g : GF fs) : ((fs.map kvF).map (·.1)).Nodup := by
  rw [List.map_map]
  have asc : ∀ (n : Nat) (gs : List Fl), gs = fs.take n → (gs.map fun f => (kvF f).1).Nodup ∧ ∀ l, gs.getLast? = some l → ∀ f ∈ gs, ¬ l.1.cps.toList < f.1.cps.toList := by
    intro n
    induction n with
    | zero =>
      intro gs e
      rw [List.take_zero] at e
      subst e
      exact ⟨List.nodup_nil, fun l z => by cases z⟩
    | succ n ih =>
      intro gs e
      obtain ⟨i1, i2⟩ := ih _ rfl
      cases hn : fs[n]? with
      | none =>
        rw [List.take_succ, hn] at e
        have e' : gs = fs.take n := by simpa using e
        subst e'
        exact ⟨i1, i2⟩
      | some f =>
        rw [List.take_succ, hn] at e
        have e' : gs = fs.take n ++ [f] := e
        subst e'
        have up := g.up n f hn
        have above : ∀ h ∈ fs.take n, h.1.cps.toList < f.1.cps.toList := by
          intro h hh
          unfold follow at up
          cases hl : (fs.take n).getLast? with
          | none =>
            rw [List.getLast?_eq_none_iff] at hl
            rw [hl] at hh
            cases hh
          | some l =>
            rw [hl] at up
            have lt : l.1.cps.toList < f.1.cps.toList := by
              have h0 : (decide (l.1.cps.toList < f.1.cps.toList) && !((fs.take n).any fun g => within f.1 g.1)) = true := up
              simp only [Bool.and_eq_true, decide_eq_true_eq] at h0
              exact h0.1
            exact List.lt_of_le_of_lt (List.not_lt.mp (i2 l hl h hh)) lt
        refine ⟨?_, fun l hl h hh => ?_⟩
        · rw [List.map_append]
          refine List.nodup_append.mpr ⟨i1, List.nodup_cons.mpr ⟨by simp, List.nodup_nil⟩, fun x hx y hy => ?_⟩
          obtain ⟨h, hh, rfl⟩ := List.mem_map.mp hx
          rw [List.mem_singleton.mp hy]
          intro z
          have z' : h.1 = f.1 := by injection z
          have := above h hh
          rw [z'] at this
          exact List.lt_irrefl _ this
        · rw [List.getLast?_append] at hl
          have el : f = l := by simpa using hl
          subst el
          rcases List.mem_append.mp hh with hh | hh
          · exact fun z => List.lt_irrefl _ (List.lt_trans (above h hh) z)
          · rw [List.mem_singleton.mp hh]
            exact List.lt_irrefl _
  have := (asc fs.length fs (List.take_length).symm).1
  exact this
theorem GF.merge {fs : List Fl} (g : GF fs) : mergeK [] (fs.map kvF) = fs.map kvF := by
  rw [merge_id _ [] (fun _ _ _ h => by cases h) g.nodup]
  rfl
end Bp
namespace Bp
open PySem PySem.Spec PyProof.Rows L2 Bk Bm Evl Be Kr Ks
section
variable {σ : L2.St} {H : Hp} {K : PySem.W.Frag}
/-- the addresses of a tree's files -/
theorem refs_files {H : Hp} {xs : List V} {fs : List Fl} (h : Paired (FileAt H) xs fs) : ∃ ps : List Addr, xs = ps.map V.ref ∧ Paired (fun p kv => SqT K H p [kV kv.1, kv.2]) ps (fs.map kvF) := by
  induction h with
  | nil => exact ⟨[], rfl, .nil⟩
  | cons r _ ih =>
    obtain ⟨b, rfl, hb⟩ := r
    obtain ⟨ps, e, hp⟩ := ih
    exact ⟨b :: ps, by rw [List.map_cons, e], .cons (st_of hb) hp⟩
theorem dict_go {H : Hp} {a : Addr} {fs : List Fl} {Q : VK} (gt : GT H a fs) (k : ∀ d H', H d = none → Ex H H' → H' d = some (.dK (fs.map kvF)) → Q (.ref d) H') : rDictT K [.ref a] H Q := by
  obtain ⟨⟨o, xs, h1, h2, h3⟩, g⟩ := gt
  obtain ⟨ps, rfl, hp⟩ := refs_files (K := K) h3
  refine ⟨a, o, ps, fs.map kvF, rfl, h1, h2, hp, fun d hd => ?_⟩
  rw [g.merge]
  exact k d _ hd (Ex.new hd) upd_same
/-- dict(e) of a tree -/
theorem dict_ev {te : TE} {a : Addr} {fs : List Fl} (h : Ev te σ H (.ref a)) (gt : GT H a fs) : ∀ H1, Ex H H1 → ∀ Q : VK, (∀ d H', H1 d = none → Ex H1 H' → H' d = some (.dK (fs.map kvF)) → Q (.ref d) H') → tCB (rDictT K) (tCons te tNil) σ H1 Q := fun H1 e Q q =>
  h H1 e _ fun H2 e2 => dict_go (gt.mono (e.trans e2)) fun d H' hd e3 h3 => q d H' (fresh_back e2 hd) (e2.trans e3) h3
theorem ev_get1 {te ty : TE} {a : Addr} {fs : List Fl} {p : Str} (h : Ev te σ H (.ref a)) (gt : GT H a fs) (hy : ∀ H1, Ex H H1 → Ev ty σ H1 (.str p)) : Ev (tDGet1 (tCB (rDictT K) (tCons te tNil)) ty) σ H (textOf fs p) := fun H1 e Q q =>
  dict_ev h gt H1 e _ fun d H2 hd e2 h2 => ⟨d, rfl, .inl ⟨_, .inl h2⟩, hy H2 (e.trans e2) H2 (Ex.refl _) _ fun H3 e3 => ⟨_, DGet.k (k := Sum.inr p) (e3 _ _ h2), by rw [val_files]; exact q H3 (e2.trans e3)⟩⟩
theorem ev_get2 {te ty : TE} {a : Addr} {fs : List Fl} {p : Str} (h : Ev te σ H (.ref a)) (gt : GT H a fs) (hy : ∀ H1, Ex H H1 → Ev ty σ H1 (.str p)) : Ev (tDGet2 (tCB (rDictT K) (tCons te tNil)) ty (tC .non)) σ H (textOf fs p) := fun H1 e Q q =>
  dict_ev h gt H1 e _ fun d H2 hd e2 h2 => ⟨d, rfl, .inl ⟨_, .inl h2⟩, hy H2 (e.trans e2) H2 (Ex.refl _) _ fun H3 e3 => ⟨_, DGet.k (k := Sum.inr p) (e3 _ _ h2), by rw [val_files]; exact q H3 (e2.trans e3)⟩⟩
end
section
variable {P : Program} {w : World} {K : PySem.W.Frag} {mg : Str → Option Value} {base : Heap}
theorem scCkTree : FnScope ["value", "index", "thing"] ["value"] (defScope sCkTree) := ⟨rfl, rfl, rfl, by decide +kernel, rfl, by decide +kernel, by decide +kernel⟩
theorem slice_to {σ : L2.St} {H : Hp} {K : PySem.W.Frag} {te ti : TE} {a : Addr} {xs : List V} {i : Nat} (h : Ev te σ H (.ref a)) (hi : Ev ti σ H (.int (i : Int))) (hx : SqT K H a xs) (hl : i ≤ xs.length) :
    ∀ H1, Ex H H1 → ∀ Q : VK, (∀ p H2, Ex H1 H2 → SqT K H2 p (xs.take i) → Q (.ref p) H2) → tSl (rSlA K) te tNoPart (tPart ti) σ H1 Q := fun H1 e Q q =>
  h H1 e _ fun H2 e2 => hi H2 (e.trans e2) _ fun H3 e3 => ⟨(i : Int), rfl, a, xs, rfl, ex_t ((e.trans e2).trans e3) hx, by
    have c1 : HT.sIx xs.length 0 none = 0 := HT.sIx_none _ _
    have c2 : HT.sIx xs.length xs.length (some (i : Int)) = i := by rw [HT.sIx_nat]; omega
    have c3 : cutV xs none (some (i : Int)) = xs.take i := by
      unfold cutV
      rw [c1, c2]
      simp
    rw [c1, c2]
    refine ⟨fun z => ?_, fun z p hp => ?_⟩
    · have z2 : xs.take i = xs := by rw [z.2]; exact List.take_length
      refine q a H3 (e2.trans e3) ?_
      rw [z2]
      exact ex_t ((e.trans e2).trans e3) hx
    · refine q p _ ((e2.trans e3).trans (Ex.new hp)) ?_
      rw [c3]
      exact st_of upd_same⟩
/-- check_tree of a good tree -/
def spGood : Sp := fun vs H Q _ => ∃ a fs, vs = [.ref a] ∧ GT H a fs ∧ RetV .non H Q
theorem ok_ckTree {f : Addr} {fd : FuncData} (F : Fun K "check_tree" "check_tree" sCkTree f fd) (T : Gv mg) (cF : Cal P w K mg base CX0 3 "is_file" ["value"] (spFile (K := K))) (cM : Cal P w K mg base CX0 2 "may_follow" ["path", "files"] (spFollow (K := K))) :
    FnOk P w K mg base CX0 4 f fd ["value"] spGood := by
  refine F.ok scCkTree (fun vs H Q E h => ?_) (fun cdv A outer s H vs Q E hr h => ?_)
  · obtain ⟨x, fs, rfl, _⟩ := h
    rfl
  · obtain ⟨a, fs, rfl, gt, k⟩ := h
    obtain ⟨t1, m1⟩ := T.mf
    refine ⟨_, pss_cons (ps_if (pw_or (pt_not (pt_val (pe_callB call_isi (by rfl) T.isi boot_isinstance (pa_cons (pv 0) (pa_cons (pe_bltn (v := .ty "tuple") (by rfl) T.tup (by decide +kernel) rfl) pa_nil)))))
        (pw_or1 (pt_cmpR op_gt (pe_callB call_len_seq (by rfl) T.len PySem.boot_len (pa_cons (pv 0) pa_nil)) (pe_glob (v := .int 20) (by rfl) m1 ⟨_, rfl⟩) (nomark _)))).pt pss_never pss_nil)
      (pss_one (ps_for PassesOwn.never rfl (pi_enumT (by rfl) T.enu (pa_cons (pv 0) pa_nil)) (pg_tup rfl (pgs_cons (pg_name (i := 1) scCkTree.nd rfl (Or.inl rfl)) (pgs_cons (pg_name (i := 2) scCkTree.nd rfl (Or.inl rfl)) pgs_nil)))
        (pss_one (ps_if (pw_or (pt_not (pt_val (pe_call cF.F hr (by rfl) cF.g cF.kp cF.b .nil pass0 (pa_cons (pv 2) pa_nil))))
          (pw_or1 (pt_not (pt_val (pe_call cM.F (hr.mono (by decide)) (by rfl) cM.g cM.kp cM.b .nil pass0 (pa_cons (pe_ix ix_tup (pv 2) pe_int (fun _ _ => rfl)) (pa_cons (pe_slice sl_tupA (pv 0) po_none (po_some (pv 1))) pa_nil))))))).pt pss_never pss_nil)))), ?_⟩
    obtain ⟨xs, hx, hp, kd⟩ := gt.seq (K := K)
    have g := gt.2
    have hlen := paired_len hp
    have h20 := g.few
    refine q_when (b := false) (et_is (et_or (b := false) (et_not (et_B (ev_isi (ev_var rfl) ev_c kd (.inr rfl)))) fun hb => ?_) (by simp)) (fun hb => by cases hb) (fun _ H1 e1 => ?_)
    · exact et_is (et_test (ev_op (ev_lenT (ev_var rfl) hx) ev_c rv_I0)) (by simp; omega)
    · refine ⟨_, rfl, a, xs, rfl, ex_t e1 hx, for_enumT (K := K) (a := a) (xs := xs) (fun i τ G => ∃ (u v : Option V), τ = [some (.ref a), u, v] ∧ Ex H G) ⟨none, none, rfl, e1⟩ (fun i τ G _ q => by obtain ⟨_, _, _, q⟩ := q; exact ex_t q hx) ?_ ?_⟩
      · rintro i x τ G T0 hi ⟨u, v, rfl, eG⟩ hT
        obtain ⟨f, hf, b, rfl, hb⟩ := paired_get hp hi
        have hi2 : i < xs.length := (List.getElem?_eq_some_iff.mp hi).1
        have e2 : Ex H (upd G T0 (.tup [.int (i : Nat), .ref b])) := eG.trans (Ex.new hT)
        obtain ⟨okf, pf, tf⟩ := g.ok f (List.mem_of_getElem? hf)
        refine ⟨T0, _, rfl, SqT.of upd_same, rfl, _, _, rfl, _, _, rfl, rfl, ?_⟩
        show tIfS _ _ tNext _ ([some (.ref a), some (.int (i : Int)), some (.ref b)] : L2.St) _
        refine s_when (b := false) (et_is (et_or (a := false) (b := false) (et_is (et_not (et_B (ev_call (z := .bl true) (ea_cons (ev_var rfl) ea_nil) fun H3 e3 Q' q' E' => ?_))) rfl) fun _ => ?_) rfl) (fun z => by cases z) (fun _ H3 e3 => ⟨_, _, rfl, e2.trans e3⟩)
        · have r := Fil.two (K := K) ((e2.trans e3) _ _ hb) (Sm.str f.1 okf.1) (Sm.str f.2 okf.2.1)
          have e : (isPathV (.str f.1) && isTextV (.str f.2)) = true := by
            show (pathB f.1 && textB f.2) = true
            rw [pf, tf]
            rfl
          rw [e] at r
          exact ⟨.ref b, true, rfl, r, q'⟩
        · refine fun H3 e3 Q' q' => ?_
          refine ev_op (z := .str f.1) (ev_var (i := 2) rfl) ev_c (rv_ixT (st_of ((e2.trans e3) _ _ hb)) rfl) H3 (Ex.refl _) _ fun H4 e4 => ?_
          refine slice_to (i := i) (ev_var (i := 0) rfl) (ev_var (i := 1) rfl) (ex_t ((e2.trans e3).trans e4) hx) (Nat.le_of_lt hi2) H4 (Ex.refl _) _ fun p H5 e5 hp5 => ?_
          refine ⟨f.1, p, xs.take i, fs.take i, rfl, hp5, paired_mono (paired_take hp i) fun _ _ r => r.mono (((e2.trans e3).trans e4).trans e5), fun z hz => (g.ok z (List.mem_of_mem_take hz)).1, okf.1, by rw [List.length_take]; omega, fun H6 e6 => ⟨_, rfl, ?_⟩⟩
          rw [g.up i f hf]
          exact q' H6 ((e4.trans e5).trans e6)
      · rintro τ G ⟨u, v, rfl, eG⟩
        exact k G eG
/-! ### text_at -/
theorem scTextAt : FnScope ["tree", "path"] ["tree", "path"] (defScope sTextAt) := ⟨rfl, rfl, rfl, by decide +kernel, rfl, by decide +kernel, by decide +kernel⟩
/-- what is let out of a body as it comes -/
theorem lets {X : Cx} {E : XK} (tk : Takes X (fun cls d _ H => E cls d H)) : Passes (L2.CX X.prog X.w) X E := passes_call tk fun _ _ _ _ h => h
def spTextAt : Sp := fun vs H Q _ => ∃ a fs p, vs = [.ref a, .str p] ∧ GT H a fs ∧ pathB p = true ∧ p.length ≤ 1000 ∧ RetV (textOf fs p) H Q
theorem ck_go {C : Addr} {ok : V → Bool} {σ : L2.St} {H : Hp} {te : TE} {v : V} (h : Ev te σ H v) (sm : Sm H v) (good : ok v = true) : Ev (tCall (spCk C ok) [] E0 (tCons te tNil)) σ H .non := ev_call (ea_cons h ea_nil) fun H1 e Q q E => ⟨v, rfl, sm.mono e, fun _ => q, fun z => by rw [good] at z; cases z⟩
theorem ok_textAt {f Cp : Addr} {fd : FuncData} (F : Fun K "text_at" "text_at" sTextAt f fd) (T : Gv mg) (cT : Cal P w K mg base CX0 4 "check_tree" ["value"] spGood) (cP : Cal P w K mg base (L2.CX P w) 3 "check_path" ["value"] (spCk Cp isPathV)) :
    FnOk P w K mg base CX0 5 f fd ["tree", "path"] spTextAt := by
  refine F.ok scTextAt (fun vs H Q E h => ?_) (fun cdv A outer s H vs Q E hr h => ?_)
  · obtain ⟨a, fs, p, rfl, _⟩ := h
    rfl
  · obtain ⟨a, fs, p, rfl, gt, hp, hl, k⟩ := h
    have hr3 : Room 3 _ := hr.mono (by decide)
    have hu : (A.deeper (envOfC "text_at" (defScope sTextAt) s.heap.objs.size f cdv)).units + 1 < cLine := by have := hr.un; omega
    refine ⟨_, pss_cons (ps_expr (pe_call cT.F hr (by rfl) cT.g cT.kp cT.b .nil pass0 (pa_cons (pv 0) pa_nil)))
      (pss_cons (ps_expr (pe_call cP.F hr3 (by rfl) cP.g cP.kp cP.b .nil (lets (E := E0) takes0) (pa_cons (pv 1) pa_nil)))
      (pss_one (ps_ret (pe_dget1 hu (pe_callTy (call_dictT rfl) (by rfl) T.dct (by decide +kernel) (pa_cons (pv 0) pa_nil)) (pv 1) ⟨rfl, rfl, rfl, rfl⟩)))), ?_⟩
    refine q_drop (v := .non) (ev_call (ea_cons (ev_var rfl) ea_nil) fun H1 e1 Q' q' E' => ⟨a, fs, rfl, gt.mono e1, q'⟩) fun H1 e1 => ?_
    refine q_drop (v := .non) (ck_go (ev_var rfl) (.str p hl) hp) fun H2 e2 => ?_
    exact s_ret (ev_get1 (K := K) (ev_var rfl) (gt.mono (e1.trans e2)) fun H3 e3 => ev_var rfl) fun H3 e3 => k H3 ((e1.trans e2).trans e3)
end
end Bp
namespace Bp
open PySem PySem.Spec PyProof.Rows L2 Bk Bm Evl Be Kr Ks
abbrev sTaken : Stmt := top 17
section
variable {K : PySem.W.Frag} {σ : L2.St} {H H' : Hp} {te : TE}
/-- over a tuple, with a test -/
theorem el_fT {j : Nat} {a : Addr} {xs : List V} {tl : TE} {tt : TT} (kp : V → Bool) (val : V → V) (h : Ev tl σ H (.ref a)) (hx : SqT K H a xs) (hz : xs.length ≤ 40000)
    (ht : ∀ (x : V) H1, Ex H H1 → x ∈ xs → EvT tt (σ.set j (some x)) H1 (kp x)) (he : ∀ (x : V) H1, Ex H H1 → x ∈ xs → kp x = true → Ev te (σ.set j (some x)) H1 (val x)) :
    EvL (tLc (iTup K tl) (gName j) tt te [j]) σ H ((xs.filter kp).map val) := fun H0 e Q q => h H0 e _ fun H1 e1 => ⟨a, rfl, ⟨xs, ex_t (e.trans e1) hx⟩, fun D hD =>
  lc_it (walk_tup (K := K) (a := a) (xs := xs)) (fun i G => Ex H1 G ∧ G D = some (.lst (((xs.take i).filter kp).map val))) ⟨Ex.new hD, by rw [upd_same]; rfl⟩ (fun i G _ p => ex_t ((e.trans e1).trans p.1) hx) (by
    rintro i v G G' hi ⟨s1, hd⟩ ⟨rfl, hl⟩
    have ee : (wipe σ [j]).set j (some v) = σ.set j (some v) := by
      show (σ.set j none).set j (some v) = _
      rw [List.set_set]
    show wipe ((wipe σ [j]).set j (some v)) [j] = wipe σ [j] ∧ _
    rw [ee]
    refine ⟨by show (σ.set j _).set j none = σ.set j none; rw [List.set_set], ?_⟩
    have hm := List.mem_of_getElem? hl
    refine ht v G' ((e.trans e1).trans s1) hm G' (Ex.refl _) _ fun G2 e2 => ?_
    have step : (xs.take (i + 1)).filter kp = (xs.take i).filter kp ++ if kp v = true then [v] else [] := by
      rw [List.take_succ, hl, List.filter_append]
      congr 1
      show List.filter kp [v] = _
      rw [List.filter_cons]
      rfl
    cases hk : kp v with
    | false =>
      rw [if_neg (by decide)]
      refine ⟨s1.trans e2, ?_⟩
      rw [step, hk, if_neg (by decide), List.append_nil]
      exact e2 _ _ hd
    | true =>
      rw [if_pos rfl]
      refine he v G2 (((e.trans e1).trans s1).trans e2) hm hk G2 (Ex.refl _) _ fun G3 e3 => ⟨_, e3 D _ (e2 D _ hd), sz_lt ?_, ((s1.trans e2).trans e3).mut hD, ?_⟩
      · rw [List.length_map]
        have h3 := List.length_take_le' i xs
        have h4 := List.length_filter_le kp (xs.take i)
        omega
      · rw [upd_same, step, hk, if_pos rfl, List.map_append]
        rfl) (by
    rintro G ⟨s1, hd⟩
    refine q D G (fresh_back e1 hD) (e1.trans s1) ?_
    rw [hd, List.take_of_length_le (Nat.le_refl _)])⟩
theorem ret_raw {De : Ends} (h : te σ H De.rt) : tRet te De σ H := h
theorem cb_raw {r : List V → Hp → VK → Prop} {Q : VK} (h : te σ H fun x H1 => r [x] H1 Q) : tCB r (tCons te tNil) σ H Q := h
theorem has_files (fs : List Fl) (p : Str) : (valV (fs.map kvF) (Sum.inr p)).isSome = fs.any fun f => decide (f.1 = p) := by
  rw [← valV_any, List.any_map]
  congr 1
  funext f
  show decide ((Sum.inr f.1 : Key) = Sum.inr p) = decide (f.1 = p)
  exact decide_eq_decide.mpr ⟨fun h => by injection h, fun h => by rw [h]⟩
/-- p not in dict(e) -/
theorem ev_notin {td ty : TE} {a : Addr} {fs : List Fl} {p : Str} (hy : Ev ty σ H (.str p)) (h : ∀ H1, Ex H H1 → Ev td σ H1 (.ref a)) (gt : GT H a fs) : Ev (tDNotIn ty (tCB (rDictT K) (tCons td tNil))) σ H (.bl (!(fs.any fun f => decide (f.1 = p)))) := fun H1 e Q q =>
  hy H1 e _ fun H2 e2 => dict_ev (h H2 (e.trans e2)) (gt.mono (e.trans e2)) H2 (Ex.refl _) _ fun d H3 hd e3 h3 => ⟨d, _, rfl, DGet.k (k := Sum.inr p) h3, by rw [has_files]; exact q H3 (e2.trans e3)⟩
end
section
variable {P : Program} {w : World} {K : PySem.W.Frag} {mg : Str → Option Value} {base : Heap}
theorem scTaken : FnScope ["tree", "path", "file"] ["tree", "path"] (defScope sTaken) := ⟨rfl, rfl, rfl, by decide +kernel, rfl, by decide +kernel, by decide +kernel⟩
def without (fs : List Fl) (p : Str) : List Fl := fs.filter fun f => !decide (f.1 = p)
def spTakenF (Ca : Addr) : Sp := fun vs H Q E => ∃ a fs p, vs = [.ref a, .str p] ∧ GT H a fs ∧ pathB p = true ∧ p.length ≤ 1000 ∧
  ((fs.any fun f => decide (f.1 = p)) = true → ∀ t ys H', Ex H H' → H' t = some (.tup ys) → Paired (FileAt H') ys (without fs p) → Q (.ref t) H') ∧
  ((fs.any fun f => decide (f.1 = p)) = false → ∀ H', Ex H H' → E (.ref Ca) none H')
theorem ok_takenF {f Cp Ca : Addr} {fd : FuncData} (F : Fun K "taken" "taken" sTaken f fd) (T : Gv mg) (c : Xc K mg "Absent" Ca) (cT : Cal P w K mg base CX0 4 "check_tree" ["value"] spGood) (cP : Cal P w K mg base (L2.CX P w) 3 "check_path" ["value"] (spCk Cp isPathV)) :
    FnOk P w K mg base (L2.CX P w) 5 f fd ["tree", "path"] (spTakenF Ca) := by
  refine F.okX scTaken (fun vs H Q E h => ?_) (fun cdv A outer s H vs Q E hr h => ?_)
  · obtain ⟨a, fs, p, rfl, _⟩ := h
    rfl
  · obtain ⟨a, fs, p, rfl, gt, hp, hl, k1, k2⟩ := h
    have hr3 : Room 3 _ := hr.mono (by decide)
    have hu : (A.deeper (envOfC "taken" (defScope sTaken) s.heap.objs.size f cdv)).units + 1 < cLine := by have := hr.un; omega
    refine ⟨_, pss_cons (ps_expr (pe_call cT.F hr (by rfl) cT.g cT.kp cT.b .nil pass0 (pa_cons (pv 0) pa_nil)))
      (pss_cons (ps_expr (pe_call cP.F hr3 (by rfl) cP.g cP.kp cP.b .nil (lets (E := E0) takes0) (pa_cons (pv 1) pa_nil)))
      (pss_cons (ps_if (pt_cmp (pc_dnotin hu (pv 1) (pe_callTy (call_dictT rfl) (by rfl) T.dct (by decide +kernel) (pa_cons (pv 0) pa_nil)))) (pss_one (ps_raise rfl (takes_of rfl rfl rfl rfl) (pmk_own0 c (by rfl)))) pss_nil)
      (pss_one (ps_ret (pe_callTy call_tuple_of (by rfl) T.tup (by decide +kernel) (pa_cons (pe_lc (own := [("file", 2)]) (g := gName 2) rfl scTaken.nd (pi_tup (pv 0)) (blkOk_by (N := ["tree", "path", "file"]) (sc := defScope sTaken) (by decide +kernel))
        (fun _ _ _ _ _ => pg_name (i := 2) scTaken.nd rfl (Or.inl rfl)) (fun _ _ _ _ _ => pts_one (pt_cmpR op_ne (pe_ix (r := rIxT K) ix_tup (pv 2) pe_int (fun _ _ => rfl)) (pv 1) (nomark _)))
        (fun _ _ _ _ _ => pv 2)) pa_nil)))))), ?_⟩
    refine q_drop (v := .non) (ev_call (ea_cons (ev_var rfl) ea_nil) fun H1 e1 Q' q' E' => ⟨a, fs, rfl, gt.mono e1, q'⟩) fun H1 e1 => ?_
    refine q_drop (v := .non) (ck_go (ev_var rfl) (.str p hl) hp) fun H2 e2 => ?_
    have e12 := e1.trans e2
    refine q_when (b := !(fs.any fun f => decide (f.1 = p))) (et_test (ev_notin (K := K) (ev_var rfl) (fun _ _ => ev_var rfl) (gt.mono e12))) (fun hb H3 e3 => ?_) (fun hb H3 e3 => ?_)
    · exact k2 (by simpa using hb) H3 (e12.trans e3)
    · have gt3 := gt.mono (e12.trans e3)
      obtain ⟨xs, hx, pf, kd⟩ := gt3.seq (K := K)
      have hlen := paired_len pf
      have few := gt.2.few
      have big := el_fT (K := K) (σ := L2.start ["tree", "path", "file"] [.ref a, .str p]) (H := H3) (j := 2) (tl := tVar 0) (tt := tTest (tOp rNe (tOp (rIxT K) (tVar 2) (tC (.int 0))) (tVar 1))) (te := tVar 2)
        (fun v => match v with | .ref c => (match H3 c with | some (.tup (.str z :: _)) => !decide (z = p) | _ => false) | _ => false) id (ev_var (i := 0) (v := .ref a) rfl) hx (by omega)
        (fun x H4 e4 hm => by
          obtain ⟨f, hf, c, rfl, hc⟩ := paired_mem pf hm
          simp only [hc]
          refine et_is (et_test (ev_op (ev_op (ev_var rfl) ev_c (rv_ixT (st_of (e4 _ _ hc)) rfl)) (ev_var rfl) (rv_ne rfl))) ?_
          congr 1
          exact decide_eq_decide.mpr ⟨fun h => by injection h, fun h => by rw [h]⟩)
        (fun x H4 e4 hm hk => ev_var rfl)
      refine ret_raw (cb_raw (big H3 (Ex.refl _) _ fun l H4 hl4 e4 h4 => ⟨l, _, rfl, .inl ⟨sq_of h4, fun t ht => ?_⟩⟩))
      have e5 := Ex.new (o := .tup (List.map id (List.filter (fun v => match v with | .ref c => (match H3 c with | some (.tup (.str z :: _)) => !decide (z = p) | _ => false) | _ => false) xs))) ht
      refine k1 (by simpa using hb) t _ _ (((e12.trans e3).trans e4).trans e5) upd_same ?_
      have fil : ∀ {ys : List V} {gs : List Fl}, Paired (FileAt H3) ys gs → Paired (FileAt H3) (List.filter (fun v => match v with | .ref c => (match H3 c with | some (.tup (.str z :: _)) => !decide (z = p) | _ => false) | _ => false) ys) (without gs p) := by
        intro ys gs h
        induction h with
        | nil => exact .nil
        | @cons y g ys gs r _ ih =>
          obtain ⟨c, rfl, hc⟩ := id r
          unfold without at ih ⊢
          rw [List.filter_cons, List.filter_cons]
          simp only [hc]
          cases decide (g.1 = p) with
          | true => exact ih
          | false => exact .cons r ih
      have fm := fil pf
      rw [← List.map_id (List.filter _ xs)] at fm
      exact paired_mono fm fun _ _ z => z.mono (e4.trans e5)
end
end Bp
namespace Bp
open PySem PySem.Spec PyProof.Rows L2 Bk Bm Evl Be Kr Ks
abbrev sNamesIn : Stmt := top 15
abbrev sBehind : Stmt := top 20
/-- all paths and folders of the law -/
def allP : List Str := (["a", "b", "c", "d/x", "d/y", "e/f/g", "m", "p/q", "z0", "z1", "z2", "z3", "z4", "z5", "z6", "z7", "z8", "z9", "z10", "z11", "z12", "z13", "z14", "z15", "z16", "z17", "z18", "z19"]).map Str.ofString
def allF : List Str := (["", "d", "e", "e/f", "a", "z", "d/x"]).map Str.ofString
def begOf (g : Str) : Int := if g.length = 0 then 0 else (g.length : Int) + 1
def nmOf (p g : Str) : Str := (partsOf (cutS p (some (begOf g)) none)).getD 0 (Str.ofString "")
theorem nm_ok : ∀ p ∈ allP, ∀ g ∈ allF, (partsOf (cutS p (some (begOf g)) none))[0]? = some (nmOf p g) ∧ (cutS p (some (begOf g)) none).length ≤ 100 := by decide +kernel
theorem fold_ok : ∀ g ∈ allF, isFolderV (.str g) = true ∧ g.length ≤ 10 := by decide +kernel
section
variable {K : PySem.W.Frag} {σ : L2.St} {H : Hp} {te : TE}
/-- over the keys of such a dict, with a test -/
theorem el_fK {j : Nat} {d : Addr} {od : Obj} {fs : List Fl} {tl : TE} {tt : TT} (kp : Fl → Bool) (val : Fl → V) (h : Ev tl σ H (.ref d)) (hd : H d = some (.frz od (.dK (fs.map kvF)))) (few : fs.length ≤ 40)
    (ht : ∀ (f : Fl) H1, Ex H H1 → f ∈ fs → EvT tt (σ.set j (some (.str f.1))) H1 (kp f)) (he : ∀ (f : Fl) H1, Ex H H1 → f ∈ fs → kp f = true → Ev te (σ.set j (some (.str f.1))) H1 (val f)) :
    EvL (tLc (iKeys tl) (gName j) tt te [j]) σ H ((fs.filter kp).map val) := fun H0 e Q q => h H0 e _ fun H1 e1 => by
  have hd1 := (e.trans e1) d _ hd
  refine ⟨d, od, rfl, .inl ⟨fs.map kvF, hd1, fun D hD => ?_⟩⟩
  refine lc_it (walk_keys (kvs := fs.map kvF)) (fun i G => Ex H1 G ∧ G D = some (.lst (((fs.take i).filter kp).map val))) ⟨Ex.new hD, by rw [upd_same]; rfl⟩ (fun i G _ p => ?_) ?_ ?_
  · exact p.1 d _ hd1
  · rintro i v G G' hi ⟨s1, hd2⟩ ⟨rfl, k, v', hl, rfl⟩
    rw [List.getElem?_map] at hl
    obtain ⟨f, hf, ef⟩ : ∃ f, fs[i]? = some f ∧ kvF f = (k, v') := by
      cases c : fs[i]? with
      | none => rw [c] at hl; cases hl
      | some f => rw [c] at hl; exact ⟨f, rfl, Option.some.inj hl⟩
    have ek : kV k = .str f.1 := by
      have : k = Sum.inr f.1 := (congrArg Prod.fst ef).symm
      rw [this]
      rfl
    rw [ek]
    have ee : (wipe σ [j]).set j (some (V.str f.1)) = σ.set j (some (V.str f.1)) := by
      show (σ.set j none).set j (some (V.str f.1)) = _
      rw [List.set_set]
    show wipe ((wipe σ [j]).set j (some (V.str f.1))) [j] = wipe σ [j] ∧ _
    rw [ee]
    refine ⟨by show (σ.set j _).set j none = σ.set j none; rw [List.set_set], ?_⟩
    have hm := List.mem_of_getElem? hf
    have eG : Ex H G' := (e.trans e1).trans s1
    refine ht f G' eG hm G' (Ex.refl _) _ fun G2 e2 => ?_
    have step : (fs.take (i + 1)).filter kp = (fs.take i).filter kp ++ if kp f = true then [f] else [] := by
      rw [List.take_succ, hf, List.filter_append]
      congr 1
      show List.filter kp [f] = _
      rw [List.filter_cons]
      rfl
    cases hk : kp f with
    | false =>
      rw [if_neg (by decide)]
      refine ⟨s1.trans e2, ?_⟩
      rw [step, hk, if_neg (by decide), List.append_nil]
      exact e2 _ _ hd2
    | true =>
      rw [if_pos rfl]
      refine he f G2 (eG.trans e2) hm hk G2 (Ex.refl _) _ fun G3 e3 => ⟨_, e3 D _ (e2 D _ hd2), sz_lt ?_, ((s1.trans e2).trans e3).mut hD, ?_⟩
      · rw [List.length_map]
        have h3 := List.length_take_le' i fs
        have h4 := List.length_filter_le kp (fs.take i)
        omega
      · rw [upd_same, step, hk, if_pos rfl, List.map_append]
        rfl
  · rintro G ⟨s1, hd2⟩
    refine q D G (fresh_back e1 hD) (e1.trans s1) ?_
    rw [hd2, List.length_map, List.take_of_length_le (Nat.le_refl _)]
end
section
variable {P : Program} {w : World} {K : PySem.W.Frag} {mg : Str → Option Value} {base : Heap}
abbrev nBehind : List Str := ["files", "folder", "begin", "names", "path"]
theorem scBehind : FnScope nBehind ["files", "folder"] (defScope sBehind) := ⟨rfl, rfl, rfl, by decide +kernel, rfl, by decide +kernel, by decide +kernel⟩
theorem scNamesIn : FnScope ["tree", "folder"] ["tree", "folder"] (defScope sNamesIn) := ⟨rfl, rfl, rfl, by decide +kernel, rfl, by decide +kernel, by decide +kernel⟩
theorem call_rw {sp : Sp} {E : XK} {ta : TA} {σ : L2.St} {G : Hp} {Q : VK} (h : ta σ G fun vs H1 => sp (vs ++ []) H1 Q E) : tCall sp [] E ta σ G Q := h
theorem cons_rw {te : TE} {ta : TA} {σ : L2.St} {G : Hp} {Q : List V → Hp → Prop} (h : te σ G fun x H1 => ta σ H1 fun xs H2 => Q (x :: xs) H2) : tCons te ta σ G Q := h
/-- what stands directly behind the folder, as often as it does -/
def namesOf (fs : List Fl) (g : Str) : List Str := (fs.filter fun f => within f.1 g).map fun f => nmOf f.1 g
def spBehind : Sp := fun vs H Q _ => ∃ d od fs g, vs = [.ref d, .str g] ∧ H d = some (.frz od (.dK (fs.map kvF))) ∧ fs.length ≤ 40 ∧ (∀ f ∈ fs, f.1 ∈ allP ∧ f.1.length ≤ 1000) ∧ g ∈ allF ∧
  ∀ ys t H', sortedS ys = true → ys.Nodup → (∀ y, y ∈ ys ↔ y ∈ namesOf fs g) → Ex H H' → H' t = some (.tup (ys.map V.str)) → Q (.ref t) H'
theorem ok_behind {f : Addr} {fd : FuncData} (F : Fun K "names_behind" "names_behind" sBehind f fd) (T : Gv mg) (cL : Cal P w K mg base CX0 1 "lies_within" ["path", "folder"] spLies) : FnOk P w K mg base CX0 2 f fd ["files", "folder"] spBehind := by
  refine F.ok scBehind (fun vs H Q E h => ?_) (fun cdv A outer s H vs Q E hr h => ?_)
  · obtain ⟨d, od, fs, g, rfl, _⟩ := h
    rfl
  · obtain ⟨d, od, fs, g, rfl, hd, few, hP, hg, k⟩ := h
    obtain ⟨fo, fl⟩ := fold_ok g hg
    refine ⟨_, pss_cons (ps_set (i := 2) scBehind.nd rfl (Or.inr rfl) (pe_ifExp (pt_truth (pv 1) (by intro _; rfl)) (pe_op op_add (pe_callB call_len_str (by rfl) T.len PySem.boot_len (pa_cons (pv 1) pa_nil)) pe_int) pe_int))
      (pss_cons (ps_setLc (i := 3) (own := [("path", 4)]) (g := gName 4) rfl scBehind.nd rfl rfl rfl (pi_keys (pv 0)) (blkOk_by (N := nBehind) (sc := defScope sBehind) (by decide +kernel))
        (fun _ _ _ _ _ => pg_name (i := 4) scBehind.nd rfl (Or.inl rfl)) (fun _ _ _ _ _ => pts_one (pt_val (pe_call cL.F hr (by rfl) cL.g cL.kp cL.b .nil pass0 (pa_cons (pv 4) (pa_cons (pv 1) pa_nil)))))
        (fun _ _ _ _ _ => pe_ix (r := rIxL K) ix_list (pe_split (pe_slice sl_str (pv 4) (po_some (pv 2)) po_none) pe_str) pe_int (fun _ _ => rfl)))
      (pss_one (ps_ret (pe_callTy call_tuple_of (by rfl) T.tup (by decide +kernel) (pa_cons (pe_callB (cr_sortedX rfl) (by rfl) T.srt (by decide +kernel) (pa_cons (pe_callTy (cr_setX rfl) (by rfl) T.set_ (by decide +kernel) (pa_cons (pv 3) pa_nil)) pa_nil)) pa_nil))))), ?_⟩
    refine q_asg (v := .int (begOf g)) (fun H3 e3 Q' q' => ?_) fun H3 e3 => ?_
    · refine ⟨_, rfl, (g.length : Int) != 0, ⟨sz_of (by omega), rfl⟩, ?_⟩
      by_cases z : g.length = 0
      · have hz : ((g.length : Int) != 0) = false := by simp [z]
        rw [hz]
        dsimp only
        rw [if_neg (by decide)]
        unfold begOf at q'
        rw [if_pos z] at q'
        exact q' H3 (Ex.refl _)
      · have hz : ((g.length : Int) != 0) = true := by
          rw [bne_iff_ne]
          omega
        rw [hz]
        dsimp only
        rw [if_pos rfl]
        unfold begOf at q'
        rw [if_neg z] at q'
        exact ev_op (ev_lenS (ev_var rfl) (by omega)) ev_c rv_I0 H3 (Ex.refl _) Q' q'
    refine q_asgL (xs := (namesOf fs g).map V.str) (ev_isL (el_fK (j := 4) (fun f => within f.1 g) (fun f => .str (nmOf f.1 g)) (ev_var rfl) (e3 d _ hd) few (fun f H4 e4 hf => ?_) (fun f H4 e4 hf hk => ?_)) (by unfold namesOf; rw [List.map_map]; rfl)) fun l H4 hl e4 h4 => ?_
    · exact et_B (ev_call (ea_cons (ev_var rfl) (ea_cons (ev_var rfl) ea_nil)) fun H5 e5 Q' q' E' => ⟨f.1, g, rfl, by omega, q'⟩)
    · obtain ⟨n1, n2⟩ := nm_ok f.1 (hP f hf).1 g hg
      refine ev_opL1 (el_split (w := cutS f.1 (some (begOf g)) none) (fun H5 e5 Q' q' => ?_) ev_c (by decide) (by omega)) (fun _ _ => ev_c) fun p H5 h5 _ => rv_ixL (sq_of h5) (atI_nat (j := 0) (by rw [List.getElem?_map]; show Option.map V.str ((partsOf (cutS f.1 (some (begOf g)) none))[0]?) = _; rw [n1]; rfl))
      exact ⟨_, rfl, _, rfl, _, rfl, _, rfl, sz_of (Nat.le_trans (hP f hf).2 (by decide)), q' H5 (Ex.refl _)⟩
    · refine ret_raw (cb_raw (cb_raw (cb_raw ?_)))
      refine ⟨_, rfl, l, _, rfl, sq_of h4, ?_, fun p hp => ⟨p, _, rfl, upd_same, ?_, fun ys t so nd mem ht => ⟨t, _, rfl, .inl ⟨sq_of upd_same, fun t2 ht2 => ?_⟩⟩⟩⟩
      · have h5 := List.length_filter_le (fun f : Fl => within f.1 g) fs
        unfold namesOf
        rw [List.length_map]
        omega
      · have h5 := List.length_filter_le (fun f : Fl => within f.1 g) fs
        unfold namesOf
        rw [List.length_map]
        omega
      · exact k ys t2 _ so nd mem ((e3.trans e4).trans (Ex.new hp) |>.trans ((Ex.new ht).trans (Ex.new ht2))) upd_same
def spNamesF : Sp := fun vs H Q _ => ∃ a fs g, vs = [.ref a, .str g] ∧ GT H a fs ∧ (∀ f ∈ fs, f.1 ∈ allP) ∧ g ∈ allF ∧
  ∀ ys t H', sortedS ys = true → ys.Nodup → (∀ y, y ∈ ys ↔ y ∈ namesOf fs g) → Ex H H' → H' t = some (.tup (ys.map V.str)) → Q (.ref t) H'
theorem ok_namesF {f Cf : Addr} {fd : FuncData} (F : Fun K "names_in" "names_in" sNamesIn f fd) (T : Gv mg) (cT : Cal P w K mg base CX0 4 "check_tree" ["value"] spGood) (cF : Cal P w K mg base (L2.CX P w) 4 "check_folder" ["value"] (spCk Cf isFolderV))
    (cB : Cal P w K mg base CX0 2 "names_behind" ["files", "folder"] spBehind) : FnOk P w K mg base CX0 5 f fd ["tree", "folder"] (spNamesF) := by
  refine F.ok scNamesIn (fun vs H Q E h => ?_) (fun cdv A outer s H vs Q E hr h => ?_)
  · obtain ⟨a, fs, g, rfl, _⟩ := h
    rfl
  · obtain ⟨a, fs, g, rfl, gt, hP, hg, k⟩ := h
    have hr2 : Room 2 _ := hr.mono (by decide)
    obtain ⟨fo, fl⟩ := fold_ok g hg
    refine ⟨_, pss_cons (ps_expr (pe_call cT.F hr (by rfl) cT.g cT.kp cT.b .nil pass0 (pa_cons (pv 0) pa_nil)))
      (pss_cons (ps_expr (pe_call cF.F hr (by rfl) cF.g cF.kp cF.b .nil (lets (E := E0) takes0) (pa_cons (pv 1) pa_nil)))
      (pss_one (ps_ret (pe_call cB.F hr2 (by rfl) cB.g cB.kp cB.b .nil pass0 (pa_cons (pe_callTy (call_dictZ rfl) (by rfl) T.dct (by decide +kernel) (pa_cons (pv 0) pa_nil)) (pa_cons (pv 1) pa_nil)))))), ?_⟩
    refine q_drop (v := .non) (ev_call (ea_cons (ev_var rfl) ea_nil) fun H1 e1 Q' q' E' => ⟨a, fs, rfl, gt.mono e1, q'⟩) fun H1 e1 => ?_
    refine q_drop (v := .non) (ck_go (ev_var rfl) (.str g (by omega)) fo) fun H2 e2 => ?_
    have gt1 := gt.mono (e1.trans e2)
    obtain ⟨⟨o, xs, h1, h2, h3⟩, gg⟩ := id gt1
    obtain ⟨ps, rfl, hp⟩ := refs_files (K := K) h3
    have few := gg.few
    refine ret_raw (call_rw (cons_rw (cb_raw ?_)))
    refine ⟨_, rfl, a, o, ps, fs.map kvF, rfl, h1, h2, hp, fun d od hd => ⟨_, rfl, d, od, fs, g, rfl, by rw [upd_same, gg.merge], by omega, fun f hf => ⟨hP f hf, Nat.le_trans (gg.ok f hf).1.1 (by decide)⟩, hg, fun ys t H' so nd mem e' ht => ?_⟩⟩
    exact k ys t H' so nd mem ((e1.trans e2).trans ((Ex.new hd).trans e')) ht
end
end Bp
namespace Bp
open PySem PySem.Spec PyProof.Rows L2 Bk Bm Evl Be Kr Ks
/-! rising rows of files and of texts -/
abbrev ltS (a b : Str) : Prop := a.cps.toList < b.cps.toList
def AscF (fs : List Fl) : Prop := fs.Pairwise fun f g => ltS f.1 g.1
def AscS (ns : List Str) : Prop := ns.Pairwise ltS
theorem AscF.nodup {fs : List Fl} (h : AscF fs) : fs.Nodup := h.imp fun {a b} l z => by
  rw [z] at l
  exact List.lt_irrefl _ l
theorem AscS.nodup {ns : List Str} (h : AscS ns) : ns.Nodup := h.imp fun {a b} l z => by
  rw [z] at l
  exact List.lt_irrefl _ l
theorem asc_ext {a b : List Fl} (ha : AscF a) (hb : AscF b) (h : ∀ g, g ∈ a ↔ g ∈ b) : a = b := by
  have p := (List.perm_ext_iff_of_nodup ha.nodup hb.nodup).mpr h
  refine List.Perm.eq_of_pairwise (le := fun (f g : Fl) => ltS f.1 g.1) ?_ ha hb p
  intro x y _ _ h1 h2
  exact absurd (List.lt_trans h1 h2) (List.lt_irrefl _)
theorem ascS_ext {a b : List Str} (ha : AscS a) (hb : AscS b) (h : ∀ g, g ∈ a ↔ g ∈ b) : a = b :=
  ((List.perm_ext_iff_of_nodup ha.nodup hb.nodup).mpr h).eq_of_pairwise (le := ltS) (fun x y _ _ h1 h2 => absurd (List.lt_trans h1 h2) (List.lt_irrefl _)) ha hb
theorem str_ext {a b : Str} (h : a.cps.toList = b.cps.toList) : a = b := by
  obtain ⟨a⟩ := a
  obtain ⟨b⟩ := b
  have : a = b := Array.toList_inj.mp h
  rw [this]
theorem lt_of_nle {a b : Str} (h : ¬ ltS b a) (n : a ≠ b) : ltS a b := by
  rcases Classical.em (ltS a b) with z | z
  · exact z
  · exact absurd (str_ext (List.le_antisymm (List.not_lt.mp h) (List.not_lt.mp z))) n
theorem rising_all : ∀ (r : List Str) (p : Str), risingS p r = true → (∀ x ∈ r, ¬ ltS x p) ∧ r.Pairwise fun a b => ¬ ltS b a
  | [], _, _ => ⟨fun _ h => (nomatch h), .nil⟩
  | x :: r, p, h => by
    have h1 : (!ltCps x.cps.toList p.cps.toList && risingS x r) = true := h
    rw [ltCps_eq] at h1
    simp only [Bool.and_eq_true, Bool.not_eq_true', decide_eq_false_iff_not] at h1
    obtain ⟨i1, i2⟩ := rising_all r x h1.2
    refine ⟨fun y hy => ?_, .cons (fun y hy => i1 y hy) i2⟩
    rcases List.mem_cons.mp hy with rfl | hy
    · exact h1.1
    · exact fun z => h1.1 (List.lt_of_le_of_lt (List.not_lt.mp (i1 y hy)) z)
theorem sorted_pw : ∀ (ns : List Str), sortedS ns = true → ns.Pairwise fun a b => ¬ ltS b a
  | [], _ => .nil
  | x :: r, h => by
    obtain ⟨a, b⟩ := rising_all r x h
    exact .cons a b
theorem asc_names {ns : List Str} (so : sortedS ns = true) (nd : ns.Nodup) : AscS ns := by
  have h := (sorted_pw ns so).and nd
  exact h.imp fun {a b} z => lt_of_nle z.1 z.2
theorem GF.asc {fs : List Fl} (g : GF fs) : AscF fs := by
  have all : ∀ n, AscF (fs.take n) := by
    intro n
    induction n with
    | zero => rw [List.take_zero]; exact .nil
    | succ n ih =>
      cases hn : fs[n]? with
      | none =>
        rw [List.take_succ, hn]
        simpa using ih
      | some f =>
        rw [List.take_succ, hn]
        have up := g.up n f hn
        refine List.pairwise_append.mpr ⟨ih, List.pairwise_singleton _ _, fun h hh y hy => ?_⟩
        have hy' : y = f := by simpa using hy
        subst hy'
        unfold follow at up
        cases hl : (fs.take n).getLast? with
        | none =>
          rw [List.getLast?_eq_none_iff] at hl
          rw [hl] at hh
          cases hh
        | some l =>
          rw [hl] at up
          have lt : ltS l.1 y.1 := by
            have h0 : (decide (l.1.cps.toList < y.1.cps.toList) && !((fs.take n).any fun g => within y.1 g.1)) = true := up
            simp only [Bool.and_eq_true, decide_eq_true_eq] at h0
            exact h0.1
          obtain ⟨ys, hys⟩ := List.getLast?_eq_some_iff.mp hl
          rw [hys] at ih hh
          have ih' := List.pairwise_append.mp ih
          rcases List.mem_append.mp hh with hh | hh
          · exact List.lt_trans (ih'.2.2 h hh l (List.mem_singleton.mpr rfl)) lt
          · rw [List.mem_singleton.mp hh]
            exact lt
  have := all fs.length
  rwa [List.take_length] at this
/-- files whose paths rise and lie apart are a tree -/
theorem GF.of {fs : List Fl} (asc : AscF fs) (ok : ∀ f ∈ fs, okF f ∧ pathB f.1 = true ∧ textB f.2 = true) (apart : ∀ f ∈ fs, ∀ g ∈ fs, within f.1 g.1 = false) (few : fs.length ≤ 20) : GF fs := by
  refine ⟨ok, fun i f hf => ?_, few⟩
  have hm := List.mem_of_getElem? hf
  unfold follow
  cases hl : (fs.take i).getLast? with
  | none => rfl
  | some l =>
    obtain ⟨ys, hys⟩ := List.getLast?_eq_some_iff.mp hl
    have hlm : l ∈ fs.take i := by rw [hys]; simp
    have lt : ltS l.1 f.1 := by
      have h1 : fs.take (i + 1) = fs.take i ++ [f] := by rw [List.take_succ, hf]; rfl
      have h2 : AscF (fs.take (i + 1)) := asc.sublist (List.take_sublist _ _)
      rw [h1] at h2
      exact (List.pairwise_append.mp h2).2.2 l hlm f (List.mem_singleton.mpr rfl)
    show (decide (l.1.cps.toList < f.1.cps.toList) && !((fs.take i).any fun g => within f.1 g.1)) = true
    rw [decide_eq_true lt, Bool.true_and]
    have : ((fs.take i).any fun g => within f.1 g.1) = false := by
      rw [List.any_eq_false]
      intro g hg
      rw [apart f hm g (List.mem_of_mem_take hg)]
      decide
    rw [this]
    rfl
theorem textOf_mem {fs : List Fl} (nd : (fs.map (·.1)).Nodup) {f : Fl} (h : f ∈ fs) : textOf fs f.1 = .str f.2 := by
  unfold textOf
  induction fs with
  | nil => cases h
  | cons g r ih =>
    rw [List.find?_cons]
    have nd' := List.nodup_cons.mp (show (g.1 :: r.map (·.1)).Nodup from nd)
    rcases List.mem_cons.mp h with rfl | h
    · rw [decide_eq_true rfl]
      rfl
    · have : g.1 ≠ f.1 := fun z => nd'.1 (by rw [z]; exact List.mem_map.mpr ⟨f, h, rfl⟩)
      rw [decide_eq_false this]
      exact ih nd'.2 h
theorem textOf_none {fs : List Fl} {p : Str} (h : ∀ f ∈ fs, f.1 ≠ p) : textOf fs p = .non := by
  unfold textOf
  rw [List.find?_eq_none.mpr fun f hf => by simpa using h f hf]
  rfl
theorem GF.nodupP {fs : List Fl} (g : GF fs) : (fs.map (·.1)).Nodup := by
  have h := g.asc
  unfold List.Nodup
  rw [List.pairwise_map]
  exact h.imp fun {a b} l z => by
    rw [z] at l
    exact List.lt_irrefl _ l
end Bp
namespace Kr
open PySem PySem.Spec PyProof.Rows L2 Bk Bm Evl Be Ks
/-! a dict of ours that was walked may be written again -/
section
variable {X : Cx} {pins : List (Addr × Obj)} {σ : L2.St} {H : Hp} {s : Shared} {a : Addr}
theorem inv_thaw {o : Obj} {kvs : List (Key × V)} (I : Inv X pins σ H s) (ha : H a = some (.frz o (.dK kvs))) (h0 : X.H_0 a = none) : Inv X pins σ (upd H a (.dK kvs)) s := by
  have neN : ∀ b, H b = none → b ≠ a := fun b e z => by
    rw [z, ha] at e
    cases e
  obtain ⟨ok, os, bare, base, loc, cell, free, freeC, pin, hok, len⟩ := I
  obtain ⟨b1, b2, b3, b4, b5, b6, b7⟩ := base
  refine ⟨ok, os, bare, ⟨b1, b2, fun b ob q n hx => ?_, b4, fun b xs e => ?_, fun b ob u e => ?_, fun b ps e => ?_⟩, loc, cell, ?_, fun x c e => ?_, fun p hp => ?_, fun b u e => ?_, len⟩
  · have z := b3 b ob q n hx
    rw [upd_ne (neN b z)]
    exact z
  · have n : b ≠ a := fun z => by rw [z, h0] at e; cases e
    rw [upd_ne n]
    exact b5 b xs e
  · have n : b ≠ a := fun z => by rw [z, h0] at e; cases e
    rw [upd_ne n]
    exact b6 b ob u e
  · have n : b ≠ a := fun z => by rw [z, h0] at e; cases e
    rw [upd_ne n]
    exact b7 b ps e
  · rw [upd_ne (neN _ free)]
    exact free
  · have z := freeC x c e
    rw [upd_ne (neN _ z)]
    exact z
  · obtain ⟨p1, p2, p3⟩ := pin p hp
    exact ⟨p1, by rw [upd_ne (neN _ p2)]; exact p2, p3⟩
  · by_cases hb : b = a
    · subst hb
      rw [upd_same] at e
      cases e
      obtain ⟨_, q⟩ := hok b _ ha
      exact q
    · rw [upd_ne hb] at e
      exact (hok b u e).stay (fun _ _ _ q => q) (fun c q => by rw [upd_ne (ne_of q ha (by intro z; cases z))]; exact q) fun c xs q => by rw [upd_ne (ne_of q ha (by intro z; cases z))]; exact q
def tThaw (H0 : Hp) (te : TE) : TE := fun σ H Q => te σ H fun x H1 => ∃ a kvs, x = .ref a ∧ ((∃ o, H1 a = some (.frz o (.dK kvs)) ∧ H0 a = none ∧ Q (.ref a) (upd H1 a (.dK kvs))) ∨ (H1 a = some (.dK kvs) ∧ Q (.ref a) H1))
theorem pe_thaw {e : Expr} {te : TE} (h : PE X e te) : PE X e (tThaw X.H_0 te) := by
  refine ⟨fun pins s σ H Q I q => ?_⟩
  refine wpAny_mono (h.run pins s σ H _ I q) (fun u s1 ⟨v, H1, I1, r, a, kvs, ev, q1⟩ => ?_) fun _ _ x => x
  subst ev
  rcases q1 with ⟨o, e1, e2, q2⟩ | ⟨e1, q2⟩
  · exact ⟨_, _, inv_thaw I1 e1 e2, r, q2⟩
  · exact ⟨_, _, I1, r, q2⟩
end
end Kr
namespace Bp
open PySem PySem.Spec PyProof.Rows L2 Bk Bm Evl Be Kr Ks
section
variable {K : PySem.W.Frag} {σ : L2.St} {H : Hp} {te : TE}
theorem dictZ_go {H : Hp} {a : Addr} {fs : List Fl} {Q : VK} (gt : GT H a fs) (k : ∀ d od H', H d = none → Ex H H' → H' d = some (.frz od (.dK (fs.map kvF))) → Q (.ref d) H') : rDictZ K [.ref a] H Q := by
  obtain ⟨⟨o, xs, h1, h2, h3⟩, g⟩ := gt
  obtain ⟨ps, rfl, hp⟩ := refs_files (K := K) h3
  refine ⟨a, o, ps, fs.map kvF, rfl, h1, h2, hp, fun d od hd => ?_⟩
  rw [g.merge]
  exact k d od _ hd (Ex.new hd) upd_same
theorem dictZ_ev {te : TE} {a : Addr} {fs : List Fl} {Q : VK} (h : Ev te σ H (.ref a)) (gt : GT H a fs) (k : ∀ d od H', H d = none → Ex H H' → H' d = some (.frz od (.dK (fs.map kvF))) → Q (.ref d) H') : tCB (rDictZ K) (tCons te tNil) σ H Q :=
  h H (Ex.refl _) _ fun H2 e2 => dictZ_go (gt.mono e2) fun d od H' hd e3 h3 => k d od H' (fresh_back e2 hd) (e2.trans e3) h3
/-- over the keys of a dict that stands, no test -/
theorem el_keysN {j : Nat} {d : Addr} {od : Obj} {kvs : List (Key × V)} {tl : TE} (val : Key → V) (h : Ev tl σ H (.ref d)) (hd : H d = some (.frz od (.dK kvs))) (hz : kvs.length ≤ 40000)
    (he : ∀ (k : Key) (v : V) H1, Ex H H1 → (k, v) ∈ kvs → Ev te (σ.set j (some (kV k))) H1 (val k)) :
    EvL (tLc (iKeys tl) (gName j) tYes te [j]) σ H (kvs.map fun kv => val kv.1) := fun H0 e Q q => h H0 e _ fun H1 e1 => ⟨d, od, rfl, .inl ⟨kvs, (e.trans e1) _ _ hd, fun D hD =>
  lc_it (walk_keys (kvs := kvs)) (fun i G => Ex H1 G ∧ G D = some (.lst ((kvs.take i).map fun kv => val kv.1))) ⟨Ex.new hD, by rw [upd_same]; rfl⟩ (fun i G _ p => ((e.trans e1).trans p.1) _ _ hd) (by
    rintro i v G G' hi ⟨s1, hd2⟩ ⟨rfl, k, v', hl, rfl⟩
    have ee : (wipe σ [j]).set j (some (kV k)) = σ.set j (some (kV k)) := by
      show (σ.set j none).set j (some (kV k)) = _
      rw [List.set_set]
    show wipe ((wipe σ [j]).set j (some (kV k))) [j] = wipe σ [j] ∧ _
    rw [ee]
    refine ⟨by show (σ.set j _).set j none = σ.set j none; rw [List.set_set], ?_⟩
    unfold tYes
    dsimp only
    rw [if_pos rfl]
    refine he k v' G' ((e.trans e1).trans s1) (List.mem_of_getElem? hl) G' (Ex.refl _) _ fun G2 e2 => ⟨_, e2 D _ hd2, sz_lt ?_, (s1.trans e2).mut hD, ?_⟩
    · rw [List.length_map]
      have h3 := List.length_take_le' i kvs
      omega
    · rw [upd_same, List.take_succ, hl]
      simp) (by
    rintro G ⟨s1, hd2⟩
    refine q D G (fresh_back e1 hD) (e1.trans s1) ?_
    rw [hd2, List.take_of_length_le (Nat.le_refl _)])⟩⟩
theorem paired_snoc {α β : Type} {F : α → β → Prop} {l : List α} {m : List β} {x : α} {y : β} (h : Paired F l m) (r : F x y) : Paired F (l ++ [x]) (m ++ [y]) := paired_append h (.cons r .nil)
/-- over a list, no test, each turn laying a value of its own -/
theorem lc_rel {j : Nat} {β : Type} {tl : TE} {Q : VK} (Cond : List V → List β → Prop) (F : Hp → V → β → Prop) (mono : ∀ H H' v b, Ex H H' → F H v b → F H' v b) (muta : ∀ H D ys zs v b, H D = some (.lst ys) → F H v b → F (upd H D (.lst zs)) v b)
    (hl : ∀ Q' : VK, (∀ a xs bs H1, Ex H H1 → SqL K H1 a xs → Cond xs bs → Q' (.ref a) H1) → tl σ H Q') (hlen : ∀ xs bs, Cond xs bs → xs.length = bs.length ∧ xs.length ≤ 40000)
    (he : ∀ xs bs (i : Nat) (x : V) (b : β) H1, Cond xs bs → xs[i]? = some x → bs[i]? = some b → Ex H H1 → ∀ Q' : VK, (∀ v H2, Ex H1 H2 → F H2 v b → Q' v H2) → te (σ.set j (some x)) H1 Q')
    (k : ∀ xs bs p ys H', Cond xs bs → Ex H H' → H' p = some (.lst ys) → Paired (F H') ys bs → Q (.ref p) H') : tLc (iList K tl) (gName j) tYes te [j] σ H Q :=
  hl _ fun a xs bs H1 e1 hx cond => ⟨a, rfl, ⟨xs, hx⟩, fun D hD => by
  obtain ⟨hlen, hz⟩ := hlen xs bs cond
  exact lc_it (walk_list (K := K) (a := a) (xs := xs)) (fun i G => Ex H1 G ∧ ∃ ys, G D = some (.lst ys) ∧ Paired (F G) ys (bs.take i)) ⟨Ex.new hD, [], upd_same, by rw [List.take_zero]; exact .nil⟩ (fun i G _ p => ex_l p.1 hx) (by
    rintro i v G G' hi ⟨s1, ys, hd2, pr⟩ ⟨rfl, hl2⟩
    have ee : (wipe σ [j]).set j (some v) = σ.set j (some v) := by
      show (σ.set j none).set j (some v) = _
      rw [List.set_set]
    show wipe ((wipe σ [j]).set j (some v)) [j] = wipe σ [j] ∧ _
    rw [ee]
    refine ⟨by show (σ.set j _).set j none = σ.set j none; rw [List.set_set], ?_⟩
    unfold tYes
    dsimp only
    rw [if_pos rfl]
    have hib : i < bs.length := by
      have := (List.getElem?_eq_some_iff.mp hl2).1
      omega
    have hb : bs[i]? = some bs[i] := List.getElem?_eq_getElem hib
    refine he xs bs i v bs[i] G' cond hl2 hb (e1.trans s1) _ fun y G2 e2 f => ⟨ys, e2 D _ hd2, sz_lt ?_, (s1.trans e2).mut hD, ys ++ [y], upd_same, ?_⟩
    · have h3 := paired_len pr
      rw [List.length_take] at h3
      omega
    · rw [List.take_succ, hb]
      exact paired_snoc (paired_mono pr fun v b z => muta _ _ _ _ _ _ (e2 _ _ hd2) (mono _ _ _ _ e2 z)) (muta _ _ _ _ _ _ (e2 _ _ hd2) f)) (by
    rintro G ⟨s1, ys, hd2, pr⟩
    rw [List.take_of_length_le (by rw [hlen]; exact Nat.le_refl _)] at pr
    exact k xs bs D ys G cond (e1.trans s1) hd2 pr)⟩
theorem q_raw {i : Nat} {te : TE} {tz : TS} {De : Ends} {σ : L2.St} {H : Hp} (h : te σ H (fun v H1 => tz De (σ.set i (some v)) H1)) : tSeq (tAsg te (gName i)) tz De σ H := h
theorem s_raw {i : Nat} {te : TE} {De : Ends} {σ : L2.St} {H : Hp} (h : te σ H (fun v H1 => De.nx (σ.set i (some v)) H1)) : tAsg te (gName i) De σ H := h
theorem op_raw {r : R2} {ta tb : TE} {σ : L2.St} {H : Hp} {Q : VK} (h : ta σ H (fun x H1 => tb σ H1 fun y H2 => r x y H2 Q)) : tOp r ta tb σ H Q := h
theorem tup_raw {ta : TA} {σ : L2.St} {H : Hp} {Q : VK} (h : ta σ H fun vs H1 => vs.length ≤ sizeLine ∧ ∀ p, H1 p = none → Q (.ref p) (upd H1 p (.tup vs))) : tTup ta σ H Q := h
theorem if_raw {tt : TT} {tu tw : TS} {De : Ends} {σ : L2.St} {G : Hp} (h : tt σ G fun b H1 => if b = true then tu De σ H1 else tw De σ H1) : tIfS tt tu tw De σ G := h
theorem test_raw {te : TE} {σ : L2.St} {G : Hp} {Q : Bool → Hp → Prop} (h : te σ G fun x H1 => ∃ k, x = .bl k ∧ Q k H1) : tTest te σ G Q := h
theorem call_raw {sp : Sp} {E : XK} {ta : TA} {σ : L2.St} {G : Hp} {Q : VK} (h : ta σ G fun vs H1 => sp vs H1 Q E) : tCall sp [] E ta σ G Q := by
  show ta σ G fun vs H1 => sp (vs ++ []) H1 Q E
  simpa using h
theorem cons_raw {te : TE} {ta : TA} {σ : L2.St} {G : Hp} {Q : List V → Hp → Prop} (h : te σ G fun x H1 => ta σ H1 fun xs H2 => Q (x :: xs) H2) : tCons te ta σ G Q := h
theorem seq_raw {t u : TS} {De : Ends} {σ : L2.St} {G : Hp} (h : t { De with nx := u De } σ G) : tSeq t u De σ G := h
theorem FileAt.muta {H : Hp} {D : Addr} {ys zs : List V} {v : V} {f : Fl} (hD : H D = some (.lst ys)) (h : FileAt H v f) : FileAt (upd H D (.lst zs)) v f := by
  obtain ⟨b, hv, hb⟩ := h
  exact ⟨b, hv, by rw [upd_ne (ne_of hb hD (by intro z; cases z))]; exact hb⟩
end
end Bp
namespace Bp
open PySem PySem.Spec PyProof.Rows L2 Bk Bm Evl Be Kr Ks
abbrev sPut : Stmt := top 16
abbrev sAsc : Stmt := top 19
abbrev nAsc : List Str := ["table", "key"]
theorem scAsc : FnScope nAsc ["table"] (defScope sAsc) := ⟨rfl, rfl, rfl, by decide +kernel, rfl, by decide +kernel, by decide +kernel⟩
abbrev nPut : List Str := ["tree", "path", "text", "files", "other"]
theorem scPut : FnScope nPut ["tree", "path", "text"] (defScope sPut) := ⟨rfl, rfl, rfl, by decide +kernel, rfl, by decide +kernel, by decide +kernel⟩
def hasP (fs : List Fl) (p : Str) : Bool := fs.any fun f => decide (f.1 = p)
def clashP (fs : List Fl) (p : Str) : Bool := fs.any fun f => way p f.1
def spPutF (Cc Cf : Addr) : Sp := fun vs H Q E => ∃ a fs p t, vs = [.ref a, .str p, .str t] ∧ GT H a fs ∧ pathB p = true ∧ p.length ≤ 1000 ∧ textB t = true ∧ t.length ≤ 1000 ∧
  ((hasP fs p = true ∨ (clashP fs p = false ∧ fs.length ≠ 20)) → ∀ q ys gs H', Ex H H' → H' q = some (.tup ys) → Paired (FileAt H') ys gs → AscF gs → (∀ g, g ∈ gs ↔ (g ∈ fs ∧ g.1 ≠ p) ∨ g = (p, t)) → Q (.ref q) H') ∧
  (hasP fs p = false → clashP fs p = true → ∀ H', Ex H H' → E (.ref Cc) none H') ∧
  (hasP fs p = false → clashP fs p = false → fs.length = 20 → ∀ H', Ex H H' → E (.ref Cf) none H')
section
variable {P : Program} {w : World} {K : PySem.W.Frag} {mg : Str → Option Value} {base : Heap}
theorem keys_put (fs : List Fl) (p t : Str) : ∃ ks : List Str, (putK (fs.map kvF) (Sum.inr p) (V.str t)).map (·.1) = ks.map Sum.inr ∧ ks.length ≤ fs.length + 1 ∧ (∀ k, k ∈ ks ↔ k = p ∨ ∃ f ∈ fs, f.1 = k) ∧ ((fs.map (·.1)).Nodup → ks.Nodup) := by
  cases h : hasP fs p with
  | true =>
    refine ⟨fs.map (·.1), ?_, by rw [List.length_map]; omega, fun k => ?_, fun nd => nd⟩
    · unfold putK
      have : ((fs.map kvF).any fun kv => decide (kv.1 = Sum.inr p)) = true := by
        rw [valV_any, has_files]
        exact h
      rw [if_pos this, List.map_map, List.map_map, List.map_map]
      refine List.map_congr_left fun f _ => ?_
      show (if (kvF f).1 = Sum.inr p then ((kvF f).1, V.str t) else kvF f).1 = Sum.inr f.1
      split <;> rfl
    · rw [List.mem_map]
      constructor
      · rintro ⟨f, hf, e⟩
        exact .inr ⟨f, hf, e⟩
      · rintro (rfl | ⟨f, hf, e⟩)
        · obtain ⟨f, hf, e⟩ := List.any_eq_true.mp h
          exact ⟨f, hf, by simpa using e⟩
        · exact ⟨f, hf, e⟩
  | false =>
    refine ⟨fs.map (·.1) ++ [p], ?_, by simp, fun k => ?_, fun nd => ?_⟩
    · unfold putK
      have : ((fs.map kvF).any fun kv => decide (kv.1 = Sum.inr p)) = false := by
        rw [valV_any, has_files]
        exact h
      rw [this, if_neg (by decide), List.map_append, List.map_append, List.map_map, List.map_map]
      rfl
    · rw [List.mem_append, List.mem_map, List.mem_singleton]
      constructor
      · rintro (⟨f, hf, e⟩ | e)
        · exact .inr ⟨f, hf, e⟩
        · exact .inl e
      · rintro (e | ⟨f, hf, e⟩)
        · exact .inr e
        · exact .inl ⟨f, hf, e⟩
    · refine List.nodup_append.mpr ⟨nd, List.nodup_cons.mpr ⟨by simp, List.nodup_nil⟩, fun x hx y hy z => ?_⟩
      obtain ⟨f, hf, e⟩ := List.mem_map.mp hx
      rw [List.mem_singleton.mp hy] at z
      have : hasP fs p = true := List.any_eq_true.mpr ⟨f, hf, by simp [e, z]⟩
      rw [h] at this
      cases this
/-- what files[name] is behind files[path] = text -/
def putTxt (fs : List Fl) (p t k : Str) : Str := if k = p then t else ((fs.find? fun f => decide (f.1 = k)).map (·.2)).getD (Str.ofString "")
theorem val_put (fs : List Fl) (p t k : Str) (h : k = p ∨ ∃ f ∈ fs, f.1 = k) : valV (putK (fs.map kvF) (Sum.inr p) (V.str t)) (Sum.inr k) = some (.str (putTxt fs p t k)) := by
  rw [valV_put]
  unfold putTxt
  by_cases e : k = p
  · rw [if_pos e, if_pos (by rw [e])]
  · rw [if_neg (by intro z; injection z with z; exact e z), if_neg e]
    rcases h with h | ⟨f, hf, ef⟩
    · exact absurd h e
    · clear e
      induction fs with
      | nil => cases hf
      | cons g r ih =>
        by_cases eg : g.1 = k
        · rw [List.map_cons, valV_pos (by show Sum.inr g.1 = _; rw [eg]), List.find?_cons, decide_eq_true eg]
          rfl
        · rw [List.map_cons, valV_neg (by intro z; injection z with z; exact eg z), List.find?_cons, decide_eq_false eg]
          refine ih ?_
          rcases List.mem_cons.mp hf with rfl | hf
          · exact absurd ef eg
          · exact hf
theorem putTxt_mem {fs : List Fl} (nd : (fs.map (·.1)).Nodup) {p t : Str} {f : Fl} (hf : f ∈ fs) (hn : f.1 ≠ p) : putTxt fs p t f.1 = f.2 := by
  unfold putTxt
  rw [if_neg hn]
  have h := textOf_mem nd hf
  unfold textOf at h
  cases e : fs.find? fun g => decide (g.1 = f.1) with
  | none => rw [e] at h; cases h
  | some g =>
    rw [e] at h
    have h' : V.str g.2 = V.str f.2 := h
    injection h'
/-- ascending_pairs of a dict of texts -/
def spAsc (K : PySem.W.Frag) : Sp := fun vs H Q _ => ∃ (d : Addr) (kvs : List (Key × V)) (ks : List Str) (val : Str → Str), vs = [.ref d] ∧ H d = some (.dK kvs) ∧ kvs.map (·.1) = ks.map Sum.inr ∧ ks.length ≤ 40 ∧ (∀ k ∈ ks, valV kvs (Sum.inr k) = some (.str (val k))) ∧
  ∀ q xs ys H', Ex H H' → H' q = some (.tup xs) → ys.Perm ks → sortedS ys = true → Paired (FileAt H') xs (ys.map fun k => (k, val k)) → Q (.ref q) H'
theorem ok_asc {f : Addr} {fd : FuncData} (F : Fun K "ascending_pairs" "ascending_pairs" sAsc f fd) (T : Gv mg) : FnOk P w K mg base CX0 1 f fd ["table"] (spAsc K) := by
  refine F.ok scAsc (fun vs H Q E h => ?_) (fun cdv A outer s H vs Q E hr h => ?_)
  · obtain ⟨d, kvs, ks, val, rfl, _⟩ := h
    rfl
  · obtain ⟨d, kvs, ks, val, rfl, hd, hks, kl, hv, k⟩ := h
    have hu : (A.deeper (envOfC "ascending_pairs" (defScope sAsc) s.heap.objs.size f cdv)).units + 1 < cLine := by have := hr.un; omega
    refine ⟨_, pss_one (ps_ret (pe_callTy call_tuple_of (by rfl) T.tup (by decide +kernel) (pa_cons (pe_lc (own := [("key", 1)]) (g := gName 1) (tt := tYes) rfl scAsc.nd (pi_list (pe_callB (call_sortedD rfl) (by rfl) T.srt (by decide +kernel) (pa_cons (pv 0) pa_nil))) (blkOk_by (N := nAsc) (sc := defScope sAsc) (by decide +kernel))
        (fun _ _ _ _ _ => pg_name (i := 1) scAsc.nd rfl (Or.inl rfl)) (fun _ _ _ _ _ => pts_nil)
        (fun _ _ _ _ _ => pe_tup (pa_cons (pv 1) (pa_cons (pe_dget hu (pv 0) (pv 1) (fun _ _ => rfl)) pa_nil)))) pa_nil))), ?_⟩
    refine ret_raw (cb_raw (lc_rel (β := Fl) (fun xs bs => ∃ ys : List Str, ys.Perm ks ∧ sortedS ys = true ∧ xs = ys.map V.str ∧ bs = ys.map fun k => (k, val k)) FileAt (fun H H' v b e z => z.mono e) (fun H D ys zs v b hD z => z.muta hD) (fun Q' q' => ?_) (fun xs bs cd => ?_)
          (fun xs bs i x b H1 cd hx hb e1 Q' q' => ?_) (fun xs bs l ys H' cd e1 hl2 pr => ?_)))
    · refine cb_raw ⟨_, rfl, d, _, ks, rfl, .inl hd, hks, by omega, fun ys l perm so hl2 => q' l _ _ _ (Ex.new hl2) (sq_of upd_same) ⟨ys, perm, so, rfl, rfl⟩⟩
    · obtain ⟨ys, perm, so, rfl, rfl⟩ := cd
      have := perm.length_eq
      rw [List.length_map, List.length_map]
      exact ⟨rfl, by omega⟩
    · obtain ⟨ys, perm, so, rfl, rfl⟩ := cd
      rw [List.getElem?_map] at hx hb
      cases hy : ys[i]? with
      | none => rw [hy] at hx; cases hx
      | some k =>
        rw [hy] at hx hb
        have hx' : V.str k = x := Option.some.inj hx
        have hb' : (k, val k) = b := Option.some.inj hb
        subst hx'
        subst hb'
        have hk := hv k (perm.mem_iff.mp (List.mem_of_getElem? hy))
        refine tup_raw (cons_raw ⟨_, rfl, cons_raw ⟨_, rfl, _, rfl, d, .str (val k), rfl, .inl ⟨_, Sum.inr k, .inl (e1 _ _ hd), rfl, hk.symm⟩, ?_⟩⟩)
        refine ⟨by show 2 ≤ sizeLine; decide, fun l hl2 => q' _ _ (Ex.new hl2) ⟨l, rfl, upd_same⟩⟩
    · obtain ⟨ys', perm, so, rfl, rfl⟩ := cd
      refine ⟨l, _, rfl, .inl ⟨sq_of hl2, fun q hq => ?_⟩⟩
      exact k q _ _ _ (e1.trans (Ex.new hq)) upd_same perm so (paired_mono pr fun _ _ z => z.mono (Ex.new hq))
theorem ok_put {f Cp Cw Cc Cf : Addr} {fd : FuncData} (F : Fun K "put" "put" sPut f fd) (T : Gv mg) (c1 : Xc K mg "Clash" Cc) (c2 : Xc K mg "Full" Cf) (cT : Cal P w K mg base CX0 4 "check_tree" ["value"] spGood)
    (cP : Cal P w K mg base (L2.CX P w) 3 "check_path" ["value"] (spCk Cp isPathV)) (cW : Cal P w K mg base (L2.CX P w) 3 "check_words" ["value"] (spCk Cw isTextV)) (cY : Cal P w K mg base CX0 2 "in_the_way" ["one", "other"] spWay) (cA : Cal P w K mg base CX0 1 "ascending_pairs" ["table"] (spAsc K)) :
    FnOk P w K mg base (L2.CX P w) 5 f fd ["tree", "path", "text"] (spPutF Cc Cf) := by
  refine F.okX scPut (fun vs H Q E h => ?_) (fun cdv A outer s H vs Q E hr h => ?_)
  · obtain ⟨a, fs, p, t, rfl, _⟩ := h
    rfl
  · obtain ⟨a, fs, p, t, rfl, gt, hp, hl, ht, htl, k1, k2, k3⟩ := h
    have hr3 : Room 3 _ := hr.mono (by decide)
    have hr2 : Room 2 _ := hr.mono (by decide)
    obtain ⟨t1, m1⟩ := T.mf
    have hu : (A.deeper (envOfC "put" (defScope sPut) s.heap.objs.size f cdv)).units + 1 < cLine := by have := hr.un; omega
    refine ⟨_, pss_cons (ps_expr (pe_call cT.F hr (by rfl) cT.g cT.kp cT.b .nil pass0 (pa_cons (pv 0) pa_nil)))
      (pss_cons (ps_expr (pe_call cP.F hr3 (by rfl) cP.g cP.kp cP.b .nil (lets (E := E0) takes0) (pa_cons (pv 1) pa_nil)))
      (pss_cons (ps_expr (pe_call cW.F (hr.mono (by decide)) (by rfl) cW.g cW.kp cW.b .nil (lets (E := E0) takes0) (pa_cons (pv 2) pa_nil)))
      (pss_cons (ps_set (i := 3) scPut.nd rfl (by first | exact Or.inl rfl | exact Or.inr rfl) (pe_callTy (call_dictZ rfl) (by rfl) T.dct (by decide +kernel) (pa_cons (pv 0) pa_nil)))
      (pss_cut (ps_if (pt_cmp (pc_dnotin hu (pv 1) (pv 3)))
        (pss_cons (ps_if (pt_val (pe_callB (cr_any rfl) (by rfl) T.any boot_any (pa_cons (pe_lc (own := [("other", 4)]) (g := gName 4) (tt := tYes) rfl scPut.nd (pi_keys (pv 3)) (blkOk_by (N := nPut) (sc := defScope sPut) (by decide +kernel))
            (fun _ _ _ _ _ => pg_name (i := 4) scPut.nd rfl (Or.inl rfl)) (fun _ _ _ _ _ => pts_nil)
            (fun _ _ _ _ _ => pe_call cY.F hr2 rfl cY.g cY.kp cY.b .nil pass0 (pa_cons (pv 1) (pa_cons (pv 4) pa_nil)))) pa_nil))) (pss_one (ps_raise rfl (takes_of rfl rfl rfl rfl) (pmk_own0 c1 (by rfl)))) pss_nil)
        (pss_one (ps_if (pt_cmpR op_eq (pe_callB call_lenD (by rfl) T.len PySem.boot_len (pa_cons (pe_thaw (pv 3)) pa_nil)) (pe_glob (v := .int 20) (by rfl) m1 ⟨_, rfl⟩) (nomark _)) (pss_one (ps_raise rfl (takes_of rfl rfl rfl rfl) (pmk_own0 c2 (by rfl)))) pss_nil))) pss_nil)
      (pss_cut (ps_dput hu (pe_thaw (pv 3)) (pv 1) (pv 2) rfl)
      (pss_one (ps_ret (pe_call cA.F (hr.mono (by decide)) (by rfl) cA.g cA.kp cA.b .nil pass0 (pa_cons (pv 3) pa_nil))))))))), ?_⟩
    refine q_drop (v := .non) (ev_call (ea_cons (ev_var rfl) ea_nil) fun H1 e1 Q' q' E' => ⟨a, fs, rfl, gt.mono e1, q'⟩) fun H1 e1 => ?_
    refine q_drop (v := .non) (ck_go (ev_var rfl) (.str p hl) hp) fun H2 e2 => ?_
    refine q_drop (v := .non) (ck_go (ev_var rfl) (.str t htl) ht) fun H3 e3 => ?_
    have e13 := (e1.trans e2).trans e3
    refine q_raw (dictZ_ev (ev_var rfl) (gt.mono e13) fun d od H4 hd e4 h4 => ?_)
    have e14 := e13.trans e4
    have hd0 : H d = none := fresh_back e13 hd
    have g := gt.2
    have few := g.few
    have kl : (fs.map kvF).length ≤ 20 := by rw [List.length_map]; exact few
    refine q_cut (M := fun σ' H' => σ' = [some (.ref a), some (.str p), some (.str t), some (.ref d), none] ∧ Ex H H' ∧ ((∃ o, H' d = some (.frz o (.dK (fs.map kvF)))) ∨ H' d = some (.dK (fs.map kvF))) ∧ (hasP fs p = true ∨ (clashP fs p = false ∧ fs.length ≠ 20))) ?_ ?_
    · refine s_when (b := !hasP fs p) (et_test fun H5 e5 Q' q' => ⟨_, rfl, _, rfl, d, _, rfl, .inl ⟨_, Sum.inr p, .inr ⟨_, e5 _ _ h4⟩, rfl, rfl⟩, ?_⟩) (fun hb H5 e5 => ?_) (fun hb H5 e5 => ⟨rfl, e14.trans e5, .inl ⟨_, e5 _ _ h4⟩, .inl (by simpa using hb)⟩)
      · rw [has_files]
        exact q' H5 (Ex.refl _)
      · have hno : hasP fs p = false := by simpa using hb
        have big := el_keysN (te := tCall spWay [] E0 (tCons (tVar 1) (tCons (tVar 4) tNil))) (σ := [some (.ref a), some (.str p), some (.str t), some (.ref d), none]) (H := H5) (j := 4) (tl := tVar 3)
          (fun k => match k with | Sum.inr x => .bl (way p x) | _ => .non) (ev_var (i := 3) rfl) (e5 _ _ h4) (by omega) (fun k v H6 e6 hm => by
            obtain ⟨f, hf, ef⟩ := List.mem_map.mp hm
            have ek : k = Sum.inr f.1 := (congrArg Prod.fst ef).symm
            subst ek
            have okf := (g.ok f hf).1.1
            exact ev_call (ea_cons (ev_var rfl) (ea_cons (ev_var rfl) ea_nil)) fun H7 e7 Q' q' E' => ⟨p, f.1, rfl, by omega, by omega, q'⟩)
        refine q_when (b := clashP fs p) (et_B (ev_is (ev_any (K := K) (bs := fs.map fun f => way p f.1) (ev_isL big ?_)) ?_)) (fun hc H6 e6 => k2 hno hc H6 ((e14.trans e5).trans e6)) (fun hc H6 e6 => ?_)
        · rw [List.map_map, List.map_map]
          rfl
        · simp [clashP, List.any_map]
        · have e16 := (e14.trans e5).trans e6
          refine if_raw (test_raw (op_raw (cb_raw ⟨_, rfl, d, _, rfl, .inl ⟨od, e6 _ _ (e5 _ _ h4), hd0, ?_⟩⟩)))
          refine ⟨d, _, rfl, upd_same, rfl, _, rfl, ?_⟩
          rw [List.length_map]
          by_cases h20 : fs.length = 20
          · rw [if_pos (decide_eq_true (by rw [h20]; rfl))]
            exact k3 hno hc h20 _ (e16.mut hd0)
          · rw [if_neg (by
              rw [decide_eq_true_eq]
              intro z
              injection z with z
              omega)]
            exact ⟨rfl, e16.mut hd0, .inr upd_same, .inr ⟨hc, h20⟩⟩
    · rintro σ' H' ⟨rfl, e', hd', cond⟩
      obtain ⟨ks, hks, kl2, kmem, knd⟩ := keys_put fs p t
      refine q_cut (M := fun σ' G => σ' = [some (.ref a), some (.str p), some (.str t), some (.ref d), none] ∧ Ex H G ∧ G d = some (.dK (putK (fs.map kvF) (Sum.inr p) (.str t)))) ?_ ?_
      · have lt : (fs.map kvF).length < sizeLine := sz_lt (by omega)
        rcases hd' with ⟨o, hd'⟩ | hd'
        · exact ⟨_, rfl, _, rfl, d, fs.map kvF, rfl, .inl ⟨o, hd', hd0, _, rfl, d, _, rfl, DPut.k (k := Sum.inr p) upd_same lt, rfl, (e'.mut hd0).mut hd0, upd_same⟩⟩
        · exact ⟨_, rfl, _, rfl, d, fs.map kvF, rfl, .inr ⟨hd', _, rfl, d, _, rfl, DPut.k (k := Sum.inr p) hd' lt, rfl, e'.mut hd0, upd_same⟩⟩
      · rintro σ' G ⟨rfl, eG, hG⟩
        refine ret_raw (call_raw (cons_raw ⟨_, rfl, ?_⟩))
        refine ⟨d, _, ks, putTxt fs p t, rfl, hG, hks, by omega, fun k hk => val_put fs p t k ((kmem k).mp hk), fun q xs ys H' e1 hq perm so pr => ?_⟩
        refine k1 cond q _ _ _ (eG.trans e1) hq pr ?_ fun z => ?_
        · have as := asc_names so (perm.nodup_iff.mpr (knd g.nodupP))
          unfold AscF
          rw [List.pairwise_map]
          exact as
        · rw [List.mem_map]
          constructor
          · rintro ⟨k, hk, rfl⟩
            rcases (kmem k).mp (perm.mem_iff.mp hk) with rfl | ⟨f, hf, rfl⟩
            · right
              unfold putTxt
              rw [if_pos rfl]
            · by_cases e : f.1 = p
              · right
                unfold putTxt
                rw [if_pos e, e]
              · left
                rw [putTxt_mem g.nodupP hf e]
                exact ⟨hf, e⟩
          · rintro (⟨hz, hn⟩ | rfl)
            · exact ⟨z.1, perm.mem_iff.mpr ((kmem _).mpr (.inr ⟨z, hz, rfl⟩)), by rw [putTxt_mem g.nodupP hz hn]⟩
            · exact ⟨p, perm.mem_iff.mpr ((kmem _).mpr (.inl rfl)), by unfold putTxt; rw [if_pos rfl]⟩
end
end Bp
namespace Bp
open PySem PySem.Spec PyProof.Rows L2 Bk Bm Evl Be Kr Ks
abbrev sDiffering : Stmt := top 18
abbrev nDif : List Str := ["one", "other", "first", "second", "paths", "path"]
theorem scDif : FnScope nDif ["one", "other"] (defScope sDiffering) := ⟨rfl, rfl, rfl, by decide +kernel, rfl, by decide +kernel, by decide +kernel⟩
theorem asg_raw {g : TG} {te : TE} {De : Ends} {σ : L2.St} {H : Hp} (h : te σ H (fun v H1 => g v σ H1 De.nx)) : tAsg te g De σ H := h
section
variable {K : PySem.W.Frag} {σ : L2.St} {H H' : Hp} {te : TE}
/-- over a list, with a test -/
theorem el_fL {j : Nat} {a : Addr} {xs : List V} {tl : TE} {tt : TT} (kp : V → Bool) (val : V → V) (h : Ev tl σ H (.ref a)) (hx : SqL K H a xs) (hz : xs.length ≤ 40000)
    (ht : ∀ (x : V) H1, Ex H H1 → x ∈ xs → EvT tt (σ.set j (some x)) H1 (kp x)) (he : ∀ (x : V) H1, Ex H H1 → x ∈ xs → kp x = true → Ev te (σ.set j (some x)) H1 (val x)) :
    EvL (tLc (iList K tl) (gName j) tt te [j]) σ H ((xs.filter kp).map val) := fun H0 e Q q => h H0 e _ fun H1 e1 => ⟨a, rfl, ⟨xs, ex_l (e.trans e1) hx⟩, fun D hD =>
  lc_it (walk_list (K := K) (a := a) (xs := xs)) (fun i G => Ex H1 G ∧ G D = some (.lst (((xs.take i).filter kp).map val))) ⟨Ex.new hD, by rw [upd_same]; rfl⟩ (fun i G _ p => ex_l ((e.trans e1).trans p.1) hx) (by
    rintro i v G G' hi ⟨s1, hd⟩ ⟨rfl, hl⟩
    have ee : (wipe σ [j]).set j (some v) = σ.set j (some v) := by
      show (σ.set j none).set j (some v) = _
      rw [List.set_set]
    show wipe ((wipe σ [j]).set j (some v)) [j] = wipe σ [j] ∧ _
    rw [ee]
    refine ⟨by show (σ.set j _).set j none = σ.set j none; rw [List.set_set], ?_⟩
    have hm := List.mem_of_getElem? hl
    refine ht v G' ((e.trans e1).trans s1) hm G' (Ex.refl _) _ fun G2 e2 => ?_
    have step : (xs.take (i + 1)).filter kp = (xs.take i).filter kp ++ if kp v = true then [v] else [] := by
      rw [List.take_succ, hl, List.filter_append]
      congr 1
      show List.filter kp [v] = _
      rw [List.filter_cons]
      rfl
    cases hk : kp v with
    | false =>
      rw [if_neg (by decide)]
      refine ⟨s1.trans e2, ?_⟩
      rw [step, hk, if_neg (by decide), List.append_nil]
      exact e2 _ _ hd
    | true =>
      rw [if_pos rfl]
      refine he v G2 (((e.trans e1).trans s1).trans e2) hm hk G2 (Ex.refl _) _ fun G3 e3 => ⟨_, e3 D _ (e2 D _ hd), sz_lt ?_, ((s1.trans e2).trans e3).mut hD, ?_⟩
      · rw [List.length_map]
        have h3 := List.length_take_le' i xs
        have h4 := List.length_filter_le kp (xs.take i)
        omega
      · rw [upd_same, step, hk, if_pos rfl, List.map_append]
        rfl) (by
    rintro G ⟨s1, hd⟩
    refine q D G (fresh_back e1 hD) (e1.trans s1) ?_
    rw [hd, List.take_of_length_le (Nat.le_refl _)])⟩
/-- first.get(path) -/
theorem ev_dg1 {i j : Nat} {d : Addr} {fs : List Fl} {p : Str} (h : σ[i]? = some (some (.ref d))) (hj : σ[j]? = some (some (.str p))) (hd : H d = some (.dK (fs.map kvF))) : Ev (tDGet1 (tVar i) (tVar j)) σ H (textOf fs p) := fun H1 e Q q =>
  ⟨_, h, d, rfl, .inl ⟨_, .inl (e _ _ hd)⟩, _, hj, _, DGet.k (k := Sum.inr p) (e _ _ hd), by rw [val_files]; exact q H1 (Ex.refl _)⟩
theorem textOf_scal (fs gs : List Fl) (p : Str) : scal (textOf fs p) (textOf gs p) = true := by
  unfold textOf
  cases fs.find? _ <;> cases gs.find? _ <;> rfl
end
theorem len_sub : ∀ {ys l : List Str}, ys.Nodup → (∀ y ∈ ys, y ∈ l) → ys.length ≤ l.length
  | [], _, _, _ => Nat.zero_le _
  | y :: r, l, nd, h => by
    have nd' := List.nodup_cons.mp nd
    have hy := h y List.mem_cons_self
    have ih := len_sub (ys := r) (l := l.erase y) nd'.2 fun z hz => (List.mem_erase_of_ne (fun e => nd'.1 (by rw [← e]; exact hz))).mpr (h z (List.mem_cons_of_mem _ hz))
    rw [List.length_erase_of_mem hy] at ih
    have := List.length_pos_of_mem hy
    rw [List.length_cons]
    omega
/-- where both differ -/
def difB (fs gs : List Fl) (y : Str) : Bool := !decide (textOf fs y = textOf gs y)
def spDif : Sp := fun vs H Q _ => ∃ a b fs gs, vs = [.ref a, .ref b] ∧ GT H a fs ∧ GT H b gs ∧
  ∀ ys l H', AscS ys → (∀ y, y ∈ ys ↔ (∃ f ∈ fs, f.1 = y) ∨ ∃ g ∈ gs, g.1 = y) → Ex H H' → H' l = some (.lst ((ys.filter (difB fs gs)).map V.str)) → Q (.ref l) H'
section
variable {P : Program} {w : World} {K : PySem.W.Frag} {mg : Str → Option Value} {base : Heap}
theorem ok_dif {f : Addr} {fd : FuncData} (F : Fun K "differing" "differing" sDiffering f fd) (T : Gv mg) (cT : Cal P w K mg base CX0 4 "check_tree" ["value"] spGood) :
    FnOk P w K mg base CX0 5 f fd ["one", "other"] spDif := by
  refine F.ok scDif (fun vs H Q E h => ?_) (fun cdv A outer s H vs Q E hr h => ?_)
  · obtain ⟨a, b, fs, gs, rfl, _⟩ := h
    rfl
  · obtain ⟨a, b, fs, gs, rfl, gt, gu, k⟩ := h
    have hu : (A.deeper (envOfC "differing" (defScope sDiffering) s.heap.objs.size f cdv)).units + 1 < cLine := by have := hr.un; omega
    refine ⟨_, pss_cons (ps_expr (pe_call cT.F hr (by rfl) cT.g cT.kp cT.b .nil pass0 (pa_cons (pv 0) pa_nil)))
      (pss_cons (ps_expr (pe_call cT.F hr (by rfl) cT.g cT.kp cT.b .nil pass0 (pa_cons (pv 1) pa_nil)))
      (pss_cons (ps_asg (pe_tup (pa_cons (pe_callTy (call_dictT rfl) (by rfl) T.dct (by decide +kernel) (pa_cons (pv 0) pa_nil)) (pa_cons (pe_callTy (call_dictT rfl) (by rfl) T.dct (by decide +kernel) (pa_cons (pv 1) pa_nil)) pa_nil)))
        (pg_tup rfl (pgs_cons (pg_name (i := 2) scDif.nd rfl (Or.inr rfl)) (pgs_cons (pg_name (i := 3) scDif.nd rfl (Or.inr rfl)) pgs_nil))))
      (pss_cons (ps_set (i := 4) scDif.nd rfl (Or.inl rfl) (pe_callB (cr_sortedX rfl) (by rfl) T.srt (by decide +kernel) (pa_cons (pe_callTy (cr_setX rfl) (by rfl) T.set_ (by decide +kernel) (pa_cons (pe_op op_cat (pe_callTy (call_listD rfl) (by rfl) T.lst (by decide +kernel) (pa_cons (pv 2) pa_nil)) (pe_callTy (call_listD rfl) (by rfl) T.lst (by decide +kernel) (pa_cons (pv 3) pa_nil))) pa_nil)) pa_nil)))
      (pss_one (ps_ret (pe_lc (own := [("path", 5)]) (g := gName 5) rfl scDif.nd (pi_list (pv 4)) (blkOk_by (N := nDif) (sc := defScope sDiffering) (by decide +kernel))
        (fun _ _ _ _ _ => pg_name (i := 5) scDif.nd rfl (Or.inl rfl))
        (fun _ _ _ _ _ => pts_one (pt_cmpR op_ne (pe_dget1 hu (pv 2) (pv 5) ⟨rfl, rfl, rfl, rfl⟩) (pe_dget1 hu (pv 3) (pv 5) ⟨rfl, rfl, rfl, rfl⟩) (nomark _)))
        (fun _ _ _ _ _ => pv 5))))))), ?_⟩
    refine q_drop (v := .non) (ev_call (ea_cons (ev_var rfl) ea_nil) fun H1 e1 Q' q' E' => ⟨a, fs, rfl, gt.mono e1, q'⟩) fun H1 e1 => ?_
    refine q_drop (v := .non) (ev_call (ea_cons (ev_var rfl) ea_nil) fun H2 e2 Q' q' E' => ⟨b, gs, rfl, gu.mono (e1.trans e2), q'⟩) fun H2 e2 => ?_
    have e12 := e1.trans e2
    have fewF := gt.2.few
    have fewG := gu.2.few
    refine seq_raw (asg_raw (tup_raw (cons_raw (dict_ev (K := K) (ev_var rfl) (gt.mono e12) H2 (Ex.refl _) _ fun d1 H3 hd1 e3 h3 => cons_raw (dict_ev (K := K) (ev_var rfl) (gu.mono (e12.trans e3)) H3 (Ex.refl _) _ fun d2 H4 hd2 e4 h4 => ?_)))))
    refine ⟨by show 2 ≤ sizeLine; decide, fun p hp => ?_⟩
    refine ⟨p, [.ref d1, .ref d2], rfl, SqT.of upd_same, rfl, ?_⟩
    refine ⟨_, _, rfl, _, _, rfl, rfl, ?_⟩
    have e5 : Ex H4 (upd H4 p (.tup [.ref d1, .ref d2])) := Ex.new hp
    have f1 := e5 _ _ (e4 _ _ h3)
    have f2 := e5 _ _ h4
    generalize upd H4 p (.tup [.ref d1, .ref d2]) = H5 at e5 f1 f2 ⊢
    have e15 := ((e12.trans e3).trans e4).trans e5
    dsimp only
    refine q_raw (cb_raw (cb_raw (op_raw (cb_raw ?_))))
    refine ⟨_, rfl, d1, _, rfl, .inl f1, fun l1 hl1 => cb_raw ?_⟩
    refine ⟨_, rfl, d2, _, rfl, .inl (Ex.new hl1 _ _ f2), fun l2 hl2 => ?_⟩
    refine ⟨l1, l2, _, _, rfl, rfl, Ex.new hl2 _ _ upd_same, upd_same, ?_, fun l3 hl3 => ?_⟩
    · rw [List.length_map, List.length_map, List.length_map, List.length_map]
      exact sz_of (by omega)
    · refine ⟨l3, fs.map (·.1) ++ gs.map (·.1), rfl, ?_, by rw [List.length_append, List.length_map, List.length_map]; omega, fun S hS => ⟨S, _, rfl, upd_same, by rw [List.length_append, List.length_map, List.length_map]; omega, fun ys l4 so nd mem hl4 => ?_⟩⟩
      · refine sq_of ?_
        rw [upd_same, List.map_append, List.map_map, List.map_map, List.map_map, List.map_map]
        rfl
      · have e6 := ((Ex.new (o := .lst ((fs.map kvF).map fun kv => kV kv.1)) hl1).trans (Ex.new (o := .lst ((gs.map kvF).map fun kv => kV kv.1)) hl2)).trans (Ex.new (o := .lst (((fs.map kvF).map fun kv => kV kv.1) ++ ((gs.map kvF).map fun kv => kV kv.1))) hl3)
        have e7 := (Ex.new (o := SetX P w S (fs.map (·.1) ++ gs.map (·.1))) hS).trans (Ex.new (o := .lst (ys.map V.str)) hl4)
        have e67 := e6.trans e7
        have fin : ∀ (G : Hp) (De : Ends), De.rt = Q → Ex H5 G → G l4 = some (.lst (ys.map V.str)) → tRet (tLc (iList K (tVar 4)) (gName 5) (tTest (tOp rNe (tDGet1 (tVar 2) (tVar 5)) (tDGet1 (tVar 3) (tVar 5)))) (tVar 5) [5]) De
            [some (.ref a), some (.ref b), some (.ref d1), some (.ref d2), some (.ref l4), none] G := by
          intro G De eQ eG hG
          have as := asc_names so nd
          have hlen : ys.length ≤ 40 := by
            have := len_sub nd fun y hy => (mem y).mp hy
            rw [List.length_append, List.length_map, List.length_map] at this
            omega
          refine s_retL (el_fL (K := K) (fun v => match v with | .str y => difB fs gs y | _ => false) id (ev_var (i := 4) (v := .ref l4) rfl) (sq_of hG) (by rw [List.length_map]; omega) (fun x H6 e6 hx => ?_) (fun x H6 e6 hx hk => ev_var rfl)) fun p H6 hp6 e6 h6 => ?_
          · obtain ⟨y, hy, rfl⟩ := List.mem_map.mp hx
            exact et_test (ev_op (ev_dg1 rfl rfl ((eG.trans e6) _ _ f1)) (ev_dg1 rfl rfl ((eG.trans e6) _ _ f2)) (rv_ne (textOf_scal _ _ _)))
          · rw [eQ]
            refine k ys p H6 as (fun y => ?_) ((e15.trans eG).trans e6) ?_
            · rw [mem y, List.mem_append, List.mem_map, List.mem_map]
            · rw [h6, List.map_id, List.filter_map]
              rfl
        exact fin _ _ rfl e67 upd_same
end
end Bp
namespace Bp
open PySem PySem.Spec PyProof.Rows L2 Bk Bm Evl Be Kr Ks
/-! sorted files -/
def leF (x y : V × Fl) : Bool := PySem.W.dataLe false (fun z : V × Fl => dF z.2) x y
theorem leF_total : PySem.W.TotalLe leF := PySem.W.sortLe_total _ false _
theorem leF_lt {x y : V × Fl} (h : leF x y = true) (n : x.2.1 ≠ y.2.1) : ltS x.2.1 y.2.1 := by
  have h1 : (!PySem.W.dataLt (dF y.2) (dF x.2)) = true := h
  unfold dF at h1
  rw [PySem.W.dataLt_pair rfl rfl, PySem.W.dataLt_str, PySem.W.dataLt_str] at h1
  have e : PyData.eqv (.str y.2.1) (.str x.2.1) = false := by
    simp only [PyData.eqv, beq_eq_false_iff_ne]
    exact fun z => n z.symm
  rw [e, if_neg (by decide)] at h1
  simp only [Bool.not_eq_true', decide_eq_false_iff_not] at h1
  exact lt_of_nle h1 n
theorem sortF_go {K : PySem.W.Frag} {Sq : Hp → Addr → List V → Prop} {H : Hp} {l : Addr} {ps : List (V × Fl)} {Q : VK} (hl : Sq H l (ps.map Prod.fst)) (hp : ∀ z ∈ ps, FileAt H z.1 z.2) (nd : (ps.map (·.2.1)).Nodup)
    (k : ∀ p ys gs, H p = none → ys.length = ps.length → Paired (FileAt H) ys gs → AscF gs → (∀ g, g ∈ gs ↔ ∃ z ∈ ps, z.2 = g) → Q (.ref p) (upd H p (.lst ys))) : rSortedD Sq K [.ref l] H Q := by
  have e1 : (ps.map fun z => (z.1, dF z.2)).map Prod.fst = ps.map Prod.fst := by
    rw [List.map_map]
    rfl
  have perm := List.mergeSort_perm ps leF
  have mem : ∀ z, z ∈ ps.mergeSort leF ↔ z ∈ ps := fun z => perm.mem_iff
  refine ⟨l, ps.map fun z => (z.1, dF z.2), rfl, by rw [e1]; exact hl, fun b hb => ?_, fun b hb => ?_, fun d hd d' hd' => ?_, .inl fun d hd => ?_, fun p hn => ?_⟩
  · obtain ⟨z, hz, rfl⟩ := List.mem_map.mp hb
    obtain ⟨c, hc, hcc⟩ := hp z hz
    show Dp K H z.1 (dF z.2)
    rw [hc]
    exact .tup (SqT.of hcc) (.cons (.str _) (.cons (.str _) .nil))
  · obtain ⟨z, hz, rfl⟩ := List.mem_map.mp hb
    show PyData.depth (dF z.2) ≤ 64
    simp [dF, PyData.depth, PyData.depthAll]
  · rw [List.map_map] at hd hd'
    obtain ⟨z, hz, rfl⟩ := List.mem_map.mp hd
    obtain ⟨z', hz', rfl⟩ := List.mem_map.mp hd'
    rfl
  · rw [List.map_map] at hd
    obtain ⟨z, hz, rfl⟩ := List.mem_map.mp hd
    exact ⟨_, _, rfl⟩
  · have em : ((ps.map fun z => (z.1, dF z.2)).mergeSort (PySem.W.dataLe false Prod.snd)).map Prod.fst = (ps.mergeSort leF).map Prod.fst := by
      rw [← List.map_mergeSort (r := leF) (s := PySem.W.dataLe false Prod.snd) (f := fun z : V × Fl => (z.1, dF z.2)) (fun _ _ _ _ => rfl), List.map_map]
      rfl
    rw [em]
    refine k p _ ((ps.mergeSort leF).map Prod.snd) hn (by rw [List.length_map, perm.length_eq]) ?_ ?_ fun g => ?_
    · have : ∀ (qs : List (V × Fl)), (∀ z ∈ qs, FileAt H z.1 z.2) → Paired (FileAt H) (qs.map Prod.fst) (qs.map Prod.snd) := by
        intro qs
        induction qs with
        | nil => exact fun _ => .nil
        | cons z r ih => exact fun h => .cons (h z List.mem_cons_self) (ih fun y hy => h y (List.mem_cons_of_mem _ hy))
      exact this _ fun z hz => hp z ((mem z).mp hz)
    · have pw := List.pairwise_mergeSort (le := leF) leF_total.trans (fun a b => by rcases leF_total.total a b with h | h <;> rw [h] <;> simp) ps
      have nd2 : ((ps.mergeSort leF).map (·.2.1)).Nodup := (perm.map _).nodup_iff.mpr nd
      unfold List.Nodup at nd2
      rw [List.pairwise_map] at nd2
      unfold AscF
      rw [List.pairwise_map]
      exact (pw.and nd2).imp fun {a b} h => leF_lt h.1 h.2
    · rw [List.mem_map]
      constructor
      · rintro ⟨z, hz, rfl⟩
        exact ⟨z, (mem z).mp hz, rfl⟩
      · rintro ⟨z, hz, rfl⟩
        exact ⟨z, (mem z).mpr hz, rfl⟩
end Bp
namespace Bl
open PySem PySem.Spec PyProof.Rows L2 Bk Bm Evl Be Bp
abbrev sTaken : Stmt := top 35
abbrev sOne : Stmt := top 36
/-- the script, at a: never written -/
def Sc (K : PySem.W.Frag) (H : Hp) (a : Addr) (ns : List Int) : Prop := (∃ o, H a = some (.frz o (.lst (ns.map V.int)))) ∨
  ∃ (o : Obj) (its : Array Value) (n : Nat), K.lookup a = some o ∧ o.cls = .type "list" ∧ o.dict = none ∧ o.data = .seq its n ∧ its.size ≤ sizeLine ∧ Vals (ns.map V.int) its.toList
theorem Sc.sq {K : PySem.W.Frag} {H : Hp} {a : Addr} {ns : List Int} (h : Sc K H a ns) : SqL K H a (ns.map V.int) := by
  rcases h with h | h
  · exact .inl (.inr h)
  · exact .inr h
/-- all but r stands -/
def Kp (r : Addr) (H G : Hp) : Prop := ∀ b o, b ≠ r → H b = some o → G b = some o
theorem Kp.of_ex {r : Addr} {H G : Hp} (e : Ex H G) : Kp r H G := fun b o _ h => e b o h
theorem Kp.refl (r : Addr) (H : Hp) : Kp r H H := fun _ _ _ h => h
theorem Kp.trans {r : Addr} {H G F : Hp} (a : Kp r H G) (b : Kp r G F) : Kp r H F := fun x o n h => b x o n (a x o n h)
theorem Kp.up {r : Addr} {H G : Hp} {o : HO} (a : Kp r H G) : Kp r H (upd G r o) := fun x u n h => by
  rw [upd_ne n]
  exact a x u n h
theorem Sc.keep {K : PySem.W.Frag} {H G : Hp} {r a : Addr} {ns : List Int} {xs : List V} (h : Sc K H a ns) (hr : H r = some (.lst xs)) (k : Kp r H G) : Sc K G a ns := by
  rcases h with ⟨o, h⟩ | h
  · exact .inl ⟨o, k a _ (ne_of h hr (by intro z; cases z)) h⟩
  · exact .inr h
def rowL (a : Addr) (i s z : Int) : List V := [.ref a, .int i, .int s, .int z]
/-- the row of draws stands at r -/
def Row (K : PySem.W.Frag) (H : Hp) (r : Addr) : Prop := ∃ a i s z ns, H r = some (.lst (rowL a i s z)) ∧ Sc K H a ns ∧ 0 ≤ i
structure Dr (K : PySem.W.Frag) (r : Addr) (H G : Hp) : Prop where
  kp : Kp r H G
  row : Row K G r
theorem Row.ex {K : PySem.W.Frag} {H G : Hp} {r : Addr} (h : Row K H r) (e : Ex H G) : Row K G r := by
  obtain ⟨a, i, s, z, ns, hr, sc, hi⟩ := h
  exact ⟨a, i, s, z, ns, e _ _ hr, sc.keep hr (.of_ex e), hi⟩
theorem Dr.refl {K : PySem.W.Frag} {H : Hp} {r : Addr} (h : Row K H r) : Dr K r H H := ⟨.refl r H, h⟩
theorem Dr.trans {K : PySem.W.Frag} {H G F : Hp} {r : Addr} (a : Dr K r H G) (b : Dr K r G F) : Dr K r H F := ⟨a.kp.trans b.kp, b.row⟩
theorem Dr.ex {K : PySem.W.Frag} {H G F : Hp} {r : Addr} (a : Dr K r H G) (e : Ex G F) : Dr K r H F := ⟨a.kp.trans (.of_ex e), a.row.ex e⟩
theorem Dr.pre {K : PySem.W.Frag} {H G F : Hp} {r : Addr} (e : Ex H G) (a : Dr K r G F) : Dr K r H F := ⟨(Kp.of_ex e).trans a.kp, a.row⟩
section
variable {P : Program} {w : World} {K : PySem.W.Frag} {mg : Str → Option Value} {base : Heap}
abbrev nTaken : List Str := ["_law_row", "_law_many", "_law_found", "_law_cell"]
theorem scTaken : FnScope nTaken ["_law_row", "_law_many"] (defScope sTaken) := ⟨rfl, rfl, rfl, by decide +kernel, rfl, by decide +kernel, by decide +kernel⟩
def spTaken : Sp := fun vs H Q _ => ∃ r m, vs = [.ref r, .int m] ∧ Row K H r ∧ 0 < m ∧ m < 1073741824 ∧ ∀ n G, 0 ≤ n → n < m → Dr K r H G → Q (.int n) G
theorem ev_int {σ : L2.St} {H : Hp} {te : TE} {i : Int} (h : Ev te σ H (.int i)) : Ev (tCB (fun xs H Q => (∃ i, xs = [V.int i] ∧ Q (.int i) H) ∨ ∃ k, xs = [.bl k] ∧ Q (.int (if k then 1 else 0)) H) (tCons te tNil)) σ H (.int i) := fun H1 e Q q =>
  h H1 e _ fun H2 e2 => .inl ⟨i, rfl, q H2 e2⟩
theorem rv_mod {H : Hp} {i j : Int} (h : 0 < j) : RV (rI (fun _ j => 0 < j) fun i j => .int (i % j)) (.int i) (.int j) H (.int (i % j)) := rv_I h
theorem ok_taken {f : Addr} {fd : FuncData} (F : Fun K "_law_taken" "_law_taken" sTaken f fd) (T : Gv mg) : FnOk P w K mg base CX0 1 f fd ["_law_row", "_law_many"] (spTaken (K := K)) := by
  refine F.ok scTaken (fun vs H Q E h => ?_) (fun cdv A outer s H vs Q E hr h => ?_)
  · obtain ⟨r, m, rfl, _⟩ := h
    rfl
  · obtain ⟨r, m, rfl, ⟨a, i, z2, z3, ns, hrow, sc, hi⟩, hm0, hm1, k⟩ := h
    refine ⟨_, pss_cons (ps_if (pt_cmpR op_gt (pe_ix ix_list (pv 0) pe_int (fun _ _ => rfl)) pe_int (nomark _))
        (pss_cons (ps_set (i := 2) scTaken.nd rfl (Or.inl rfl) (pe_op op_mod (pe_callTy call_int1 (by rfl) T.int (by decide +kernel) (pa_cons (pe_ix ix_list (pv 0) pe_int (fun _ _ => rfl)) pa_nil)) (pv 1)))
        (pss_cons (ps_asg (pe_op op_fdiv (pe_ix ix_list (pv 0) pe_int (fun _ _ => rfl)) (pv 1)) (pg_sub (pv 0) pe_int set_list))
        (pss_one (ps_ret (pv 2))))) pss_nil)
      (pss_cons (ps_asg (pe_op op_add (pe_ix ix_list (pv 0) pe_int (fun _ _ => rfl)) pe_int) (pg_sub (pv 0) pe_int set_list))
      (pss_cons (ps_if (pt_cmpR op_gt (pe_ix ix_list (pv 0) pe_int (fun _ _ => rfl)) (pe_callB call_len_seq (by rfl) T.len PySem.boot_len (pa_cons (pe_ix ix_list (pv 0) pe_int (fun _ _ => rfl)) pa_nil)) (nomark _))
        (pss_cons (ps_asg (pe_op op_mod (pe_callTy call_int1 (by rfl) T.int (by decide +kernel) (pa_cons (pe_op op_add (pe_op op_mul (pe_ix ix_list (pv 0) pe_int (fun _ _ => rfl)) pe_int) pe_int) pa_nil)) pe_int) (pg_sub (pv 0) pe_int set_list))
        (pss_one (ps_ret (pe_op op_mod (pe_callTy call_int1 (by rfl) T.int (by decide +kernel) (pa_cons (pe_op op_fdiv (pe_ix ix_list (pv 0) pe_int (fun _ _ => rfl)) pe_int) pa_nil)) (pv 1))))) pss_nil)
      (pss_cons (ps_set (i := 3) scTaken.nd rfl (Or.inl rfl) (pe_ix ix_list (pe_ix ix_list (pv 0) pe_int (fun _ _ => rfl)) (pe_op op_sub (pe_ix ix_list (pv 0) pe_int (fun _ _ => rfl)) pe_int) (fun _ _ => rfl)))
      (pss_cons (ps_asg (pe_op op_mod (pe_callTy call_int1 (by rfl) T.int (by decide +kernel) (pa_cons (pe_op op_add (pe_op op_add (pe_op op_mul (pe_ix ix_list (pv 0) pe_int (fun _ _ => rfl)) pe_int) (pv 3)) pe_int) pa_nil)) pe_int) (pg_sub (pv 0) pe_int set_list))
      (pss_cons (ps_if (pt_cmpR op_ge (pv 3) (pe_op op_pow pe_int pe_int) (nomark _)) (pss_one (ps_asg (pe_op op_fdiv (pv 3) (pv 1)) (pg_sub (pv 0) pe_int set_list))) pss_nil)
      (pss_one (ps_ret (pe_op op_mod (pe_callTy call_int1 (by rfl) T.int (by decide +kernel) (pa_cons (pv 3) pa_nil)) (pv 1))))))))), ?_⟩
    have ixr : ∀ {σ : L2.St} {G : Hp} {j : Int} {a' : Addr} {i' s' t' : Int} {v : V}, σ[0]? = some (some (.ref r)) → G r = some (.lst (rowL a' i' s' t')) → atI (rowL a' i' s' t') j = some v → Ev (tOp (rIxL K) (tVar 0) (tC (.int j))) σ G v :=
      fun h1 h2 h3 => ev_op (ev_var h1) ev_c (rv_ixL (sq_of h2) h3)
    refine q_when (b := decide (0 < z3)) (et_test (ev_op (ixr rfl hrow rfl) ev_c rv_I0)) (fun hb H1 e1 => ?_) (fun hb H1 e1 => ?_)
    · -- the rest of a great cell
      refine q_asg (ev_op (ev_int (ixr rfl (e1 _ _ hrow) rfl)) (ev_var rfl) (rv_mod hm0)) fun H2 e2 => ?_
      refine q_setL (j := 3) ((e1.trans e2) _ _ hrow) (ev_op (ixr rfl ((e1.trans e2) _ _ hrow) rfl) (ev_var rfl) (rv_I ⟨hm0, hm1⟩)) (ev_var rfl) ev_c (by show 3 < 4; decide) fun H3 e3 => ?_
      refine s_ret (v := .int (z3 % m)) (ev_var rfl) fun H4 e4 => ?_
      have kp : Kp r H (upd H3 r (.lst ((rowL a i z2 z3).set 3 (.int (z3 / m))))) := (Kp.of_ex ((e1.trans e2).trans e3)).up
      exact k _ H4 (Int.emod_nonneg _ (by omega)) (Int.emod_lt_of_pos _ hm0) (Dr.ex ⟨kp, a, i, z2, z3 / m, ns, upd_same, sc.keep hrow kp, hi⟩ e4)
    · refine q_setL (j := 1) (e1 _ _ hrow) (ev_op (ixr rfl (e1 _ _ hrow) rfl) ev_c rv_I0) (ev_var rfl) ev_c (by show 1 < 4; decide) fun H2 e2 => ?_
      have kp2 : Kp r H (upd H2 r (.lst (rowL a (i + 1) z2 z3))) := (Kp.of_ex (e1.trans e2)).up
      have row2 : (upd H2 r (.lst (rowL a (i + 1) z2 z3))) r = some (.lst (rowL a (i + 1) z2 z3)) := upd_same
      show tSeq (tIfS _ _ tNext) _ _ _ (upd H2 r (.lst (rowL a (i + 1) z2 z3)))
      generalize upd H2 r (.lst (rowL a (i + 1) z2 z3)) = G2 at kp2 row2
      have sc2 := sc.keep hrow kp2
      refine q_when (b := decide ((ns.length : Int) < i + 1)) (et_test (ev_op (ixr rfl row2 rfl) (ev_is (ev_len (ixr rfl row2 rfl) sc2.sq) (by rw [List.length_map])) rv_I0)) (fun hb H3 e3 => ?_) (fun hb H3 e3 => ?_)
      · -- behind the script
        refine q_setL (j := 2) (e3 _ _ row2) (ev_op (ev_int (ev_op (ev_op (ixr rfl (e3 _ _ row2) rfl) ev_c (rv_I (.inr ⟨by decide, by decide⟩))) ev_c rv_I0)) ev_c (rv_mod (by decide))) (ev_var rfl) ev_c (by show 2 < 4; decide) fun H4 e4 => ?_
        show tRet _ _ _ (upd H4 r (.lst (rowL a (i + 1) ((z2 * 48271 + 11) % 2147483647) z3)))
        refine s_ret (v := .int ((z2 * 48271 + 11) % 2147483647 / 7 % m)) (ev_op (ev_int (ev_op (ixr rfl upd_same rfl) ev_c (rv_I ⟨by decide, by decide⟩))) (ev_var rfl) (rv_mod hm0)) fun H5 e5 => ?_
        have kp : Kp r H (upd H4 r (.lst (rowL a (i + 1) ((z2 * 48271 + 11) % 2147483647) z3))) := (kp2.trans (.of_ex (e3.trans e4))).up
        exact k _ H5 (Int.emod_nonneg _ (by omega)) (Int.emod_lt_of_pos _ hm0) (Dr.ex ⟨kp, a, _, _, _, ns, upd_same, sc.keep hrow kp, by omega⟩ e5)
      · have hlt : i + 1 ≤ (ns.length : Int) := by simpa using hb
        have hin : i.toNat < ns.length := by omega
        have hat : atI (ns.map V.int) (i + 1 - 1) = some (V.int ns[i.toNat]) := by
          have e : i + 1 - 1 = (i.toNat : Int) := by omega
          rw [e]
          exact atI_nat (by rw [List.getElem?_map, List.getElem?_eq_getElem hin]; rfl)
        generalize ns[i.toNat] = c at hat
        refine q_asg (ev_op (ixr rfl (e3 _ _ row2) rfl) (ev_op (ixr rfl (e3 _ _ row2) rfl) ev_c rv_I0) (rv_ixL (sc2.keep row2 (.of_ex e3)).sq hat)) fun H4 e4 => ?_
        refine q_setL (j := 2) ((e3.trans e4) _ _ row2) (ev_op (ev_int (ev_op (ev_op (ev_op (ixr rfl ((e3.trans e4) _ _ row2) rfl) ev_c (rv_I (.inr ⟨by decide, by decide⟩))) (ev_var rfl) rv_I0) ev_c rv_I0)) ev_c (rv_mod (by decide))) (ev_var rfl) ev_c (by show 2 < 4; decide) fun H5 e5 => ?_
        have kp5 : Kp r H (upd H5 r (.lst (rowL a (i + 1) ((z2 * 48271 + c + 11) % 2147483647) z3))) := (kp2.trans (.of_ex ((e3.trans e4).trans e5))).up
        have row5 : (upd H5 r (.lst (rowL a (i + 1) ((z2 * 48271 + c + 11) % 2147483647) z3))) r = some (.lst (rowL a (i + 1) ((z2 * 48271 + c + 11) % 2147483647) z3)) := upd_same
        show tSeq (tIfS _ _ tNext) _ _ _ (upd H5 r (.lst (rowL a (i + 1) ((z2 * 48271 + c + 11) % 2147483647) z3)))
        generalize (z2 * 48271 + c + 11) % 2147483647 = z2' at kp5 row5 ⊢
        generalize upd H5 r (.lst (rowL a (i + 1) z2' z3)) = G5 at kp5 row5 ⊢
        have fin : ∀ G6, Kp r H G6 → (∃ t, G6 r = some (.lst (rowL a (i + 1) z2' t))) → tRet (tOp (rI (fun _ j => 0 < j) fun i j => .int (i % j)) (tCB (fun xs H Q => (∃ i, xs = [V.int i] ∧ Q (.int i) H) ∨ ∃ k, xs = [.bl k] ∧ Q (.int (if k then 1 else 0)) H) (tCons (tVar 3) tNil)) (tVar 1))
            { nx := fun _ H' => Q .non H', rt := Q } [some (.ref r), some (.int m), none, some (.int c)] G6 := fun G6 k6 ⟨t, r6⟩ =>
          s_ret (v := .int (c % m)) (ev_op (ev_int (ev_var rfl)) (ev_var rfl) (rv_mod hm0)) fun H7 e7 => k _ H7 (Int.emod_nonneg _ (by omega)) (Int.emod_lt_of_pos _ hm0) (Dr.ex ⟨k6, a, _, _, t, ns, r6, sc.keep hrow k6, by omega⟩ e7)
        refine q_when (b := decide ((10 : Int) ^ 18 ≤ c)) (et_test (ev_op (ev_var rfl) (ev_op ev_c ev_c (rv_I ⟨by decide, by decide, by decide⟩)) rv_I0)) (fun hb6 H6 e6 => ?_) (fun hb6 H6 e6 => fin H6 (kp5.trans (.of_ex e6)) ⟨_, e6 _ _ row5⟩)
        refine s_setL (j := 3) (e6 _ _ row5) (ev_op (ev_var rfl) (ev_var rfl) (rv_I ⟨hm0, hm1⟩)) (ev_var rfl) ev_c (by show 3 < 4; decide) fun H7 e7 => ?_
        exact fin _ ((kp5.trans (.of_ex (e6.trans e7))).up) ⟨c / m, upd_same⟩
end
end Bl
namespace Bl
open PySem PySem.Spec PyProof.Rows L2 Bk Bm Evl Be Bp TL
abbrev sWords : Stmt := top 37
abbrev sTree : Stmt := top 38
section
variable {K : PySem.W.Frag} {H G : Hp} {r D : Addr}
theorem Row.updL {ys zs : List V} (h : Row K G r) (hD : G D = some (.lst ys)) (hne : D ≠ r) : Row K (upd G D (.lst zs)) r := by
  obtain ⟨a, i, s, z, ns, hr, sc, hi⟩ := h
  refine ⟨a, i, s, z, ns, by rw [upd_ne hne.symm]; exact hr, ?_, hi⟩
  rcases sc with ⟨o, h⟩ | h
  · exact .inl ⟨o, by rw [upd_ne (ne_of h hD (by intro z; cases z))]; exact h⟩
  · exact .inr h
theorem Kp.updL {o : HO} (h : Kp r H G) (hD : H D = none) : Kp r H (upd G D o) := fun b u n e => by
  rw [upd_ne (ne_of_none e hD)]
  exact h b u n e
theorem Dr.updL {ys zs : List V} (d : Dr K r H G) (hD : H D = none) (hg : G D = some (.lst ys)) (hne : D ≠ r) : Dr K r H (upd G D (.lst zs)) := ⟨d.kp.updL hD, d.row.updL hg hne⟩
theorem Row.at (h : Row K H r) : ∃ xs, H r = some (.lst xs) := by
  obtain ⟨a, i, s, z, ns, hr, _⟩ := h
  exact ⟨_, hr⟩
theorem Row.ne_new (h : Row K H r) {p : Addr} (hp : H p = none) : p ≠ r := by
  obtain ⟨xs, e⟩ := h.at
  exact (ne_of_none e hp).symm
theorem Dr.free {p : Addr} (d : Dr K r H G) (h : Row K H r) (hp : G p = none) : H p = none := by
  cases e : H p with
  | none => rfl
  | some o =>
    have n : p ≠ r := d.row.ne_new hp
    rw [d.kp p o n e] at hp
    cases hp
end
section
variable {P : Program} {w : World} {K : PySem.W.Frag} {mg : Str → Option Value} {base : Heap}
theorem scOne : FnScope ["_law_row", "_law_things"] ["_law_row", "_law_things"] (defScope sOne) := ⟨rfl, rfl, rfl, by decide +kernel, rfl, by decide +kernel, by decide +kernel⟩
def spOne : Sp := fun vs H Q _ => ∃ r t xs, vs = [.ref r, .ref t] ∧ Row K H r ∧ t ≠ r ∧ H t = some (.lst xs) ∧ 0 < xs.length ∧ xs.length < 1000000 ∧ ∀ v G, v ∈ xs → Dr K r H G → Q v G
/-- a draw below m -/
theorem draw {σ : L2.St} {H : Hp} {ta tm : TE} {r : Addr} {m : Int} {Q : VK} (hr : Ev ta σ H (.ref r)) (hm : Ev tm σ H (.int m)) (row : Row K H r) (h0 : 0 < m) (h1 : m < 1000000) (k : ∀ n G, 0 ≤ n → n < m → Dr K r H G → Q (.int n) G) :
    tCall (spTaken (K := K)) [] E0 (tCons ta (tCons tm tNil)) σ H Q :=
  hr H (Ex.refl _) _ fun H1 e1 => hm H1 e1 _ fun H2 e2 => ⟨r, m, rfl, row.ex (e1.trans e2), h0, by omega, fun n G hn hm d => k n G hn hm (Dr.pre (e1.trans e2) d)⟩
theorem ok_one {f : Addr} {fd : FuncData} (F : Fun K "_law_one" "_law_one" sOne f fd) (T : Gv mg) (cT : Cal P w K mg base CX0 1 "_law_taken" ["_law_row", "_law_many"] (spTaken (K := K))) : FnOk P w K mg base CX0 2 f fd ["_law_row", "_law_things"] (spOne (K := K)) := by
  refine F.ok scOne (fun vs H Q E h => ?_) (fun cdv A outer s H vs Q E hr h => ?_)
  · obtain ⟨r, t, xs, rfl, _⟩ := h
    rfl
  · obtain ⟨r, t, xs, rfl, row, hne, ht, h0, h1, k⟩ := h
    refine ⟨_, pss_one (ps_ret (pe_ix ix_list (pv 1) (pe_call cT.F hr (by rfl) cT.g cT.kp cT.b .nil pass0 (pa_cons (pv 0) (pa_cons (pe_callB call_len_seq (by rfl) T.len PySem.boot_len (pa_cons (pv 1) pa_nil)) pa_nil))) (fun _ _ => rfl))), ?_⟩
    refine ⟨_, rfl, draw (m := (xs.length : Int)) (ev_var rfl) (ev_len (ev_var rfl) (sq_of ht)) row (by omega) (by omega) fun n G hn hm d => ?_⟩
    have hin : n.toNat < xs.length := by omega
    refine ⟨t, xs, n, xs[n.toNat], rfl, rfl, sq_of (d.kp _ _ hne ht), ?_, k _ G (List.getElem_mem hin) d⟩
    exact at_of (j := n.toNat) (by omega) (List.getElem?_eq_getElem hin)
/-! ### the words -/
def someW : List Str := ["", "x", "yes", "yes", "b", "a b", "use a", "use b", "use d/x", "use m", "use n", "use", "use A", "y y", "use o"].map Str.ofString
def okW (x : Str) : Prop := x.length ≤ 200 ∧ textB x = true ∧ PyData.strOk x = true
theorem join_all (p : Nat → Bool) (S : List Nat) (hS : S.all p = true) : ∀ l : List (List Nat), (∀ x ∈ l, x.all p = true) → (joinL S l).all p = true
  | [], _ => rfl
  | [x], h => h x List.mem_cons_self
  | x :: y :: r, h => by
    have ih := join_all p S hS (y :: r) fun z hz => h z (List.mem_cons_of_mem _ hz)
    have hx := h x List.mem_cons_self
    show (x ++ (S ++ joinL S (y :: r))).all p = true
    rw [List.all_append, List.all_append, hx, hS, ih]
    rfl
theorem some_ok : ∀ y ∈ someW, y.length ≤ 7 ∧ (tl y).all sgnT = true := by decide +kernel
theorem str_ok {x : Str} (h : (tl x).all sgnT = true) : PyData.strOk x = true := by
  unfold PyData.strOk
  rw [Array.all_eq_true']
  intro c hc
  rw [List.all_eq_true] at h
  have h1 := h c (by simpa [tl] using hc)
  simp only [sgnT, Bool.or_eq_true, Bool.and_eq_true, decide_eq_true_eq] at h1
  simp
  omega
theorem joined_ok {ys : List Str} (h : ∀ y ∈ ys, y ∈ someW) (hl : ys.length ≤ 8) : okW (Txt.join (Str.ofString "\n") ys) ∧ (ys.map (·.length)).sum + ys.length * (Str.ofString "\n").length ≤ 16777216 := by
  have l1 : (Str.ofString "\n").length = 1 := rfl
  have sum : (ys.map (·.length)).sum ≤ 7 * ys.length := by
    clear hl
    induction ys with
    | nil => simp
    | cons y r ih =>
      have h1 := (some_ok y (h y List.mem_cons_self)).1
      have h2 := ih fun z hz => h z (List.mem_cons_of_mem _ hz)
      simp only [List.map_cons, List.sum_cons, List.length_cons]
      omega
  have len := StrLaws.join_length_le (Str.ofString "\n") ys
  rw [l1, Nat.mul_one] at len
  have sg : (tl (Txt.join (Str.ofString "\n") ys)).all sgnT = true := by
    rw [join_eq, tl_join]
    refine join_all sgnT _ (by decide +kernel) _ fun x hx => ?_
    obtain ⟨y, hy, rfl⟩ := List.mem_map.mp hx
    exact (some_ok y (h y hy)).2
  have le : (Txt.join (Str.ofString "\n") ys).length ≤ 64 := by
    rw [join_eq]
    omega
  refine ⟨⟨by omega, ?_, str_ok sg⟩, by rw [l1]; omega⟩
  unfold textB
  rw [decide_eq_true (by omega : (Txt.join (Str.ofString "\n") ys).length ≤ 200)]
  exact sg
abbrev nWords : List Str := ["_law_row", "_law_some", "_law_k"]
theorem scWords : FnScope nWords ["_law_row"] (defScope sWords) := ⟨rfl, rfl, rfl, by decide +kernel, rfl, by decide +kernel, by decide +kernel⟩
def spWords : Sp := fun vs H Q _ => ∃ r, vs = [.ref r] ∧ Row K H r ∧ ∀ x G, okW x → Dr K r H G → Q (.str x) G
/-- written values -/
def tCs : List V → TA
  | [] => tNil
  | v :: r => tCons (tC v) (tCs r)
theorem ea_cs {σ : L2.St} {H : Hp} : ∀ vs : List V, EvA (tCs vs) σ H vs
  | [] => ea_nil
  | _ :: r => ea_cons ev_c (ea_cs r)
theorem el_cat {σ : L2.St} {H : Hp} {ta tb : TE} {l : Addr} {xs zs : List V} (ha : Ev ta σ H (.ref l)) (hl : H l = some (.lst xs)) (hb : EvL tb σ H zs) (hz : xs.length + zs.length ≤ 100000) : EvL (tOp rCat ta tb) σ H (xs ++ zs) := fun H1 e Q q =>
  ha H1 e _ fun H2 e2 => hb H2 (e.trans e2) _ fun b H3 hb3 e3 h3 => ⟨l, b, xs, zs, rfl, rfl, ((e.trans e2).trans e3) _ _ hl, h3, sz_of hz, fun p hp => q p _ (fresh_back (e2.trans e3) hp) ((e2.trans e3).trans (Ex.new hp)) upd_same⟩
theorem ok_words {f : Addr} {fd : FuncData} (F : Fun K "_law_words" "_law_words" sWords f fd) (T : Gv mg) (cT : Cal P w K mg base CX0 1 "_law_taken" ["_law_row", "_law_many"] (spTaken (K := K)))
    (cO : Cal P w K mg base CX0 2 "_law_one" ["_law_row", "_law_things"] (spOne (K := K))) : FnOk P w K mg base CX0 3 f fd ["_law_row"] (spWords (K := K)) := by
  refine F.ok scWords (fun vs H Q E h => ?_) (fun cdv A outer s H vs Q E hr h => ?_)
  · obtain ⟨r, rfl, _⟩ := h
    rfl
  · obtain ⟨r, rfl, row, k⟩ := h
    have hr1 : Room 1 _ := hr.mono (by decide)
    refine ⟨_, pss_cons (ps_set (i := 1) scWords.nd rfl (Or.inr rfl) (pe_lst (pa_cons pe_str (pa_cons pe_str (pa_cons pe_str (pa_cons pe_str (pa_cons pe_str (pa_cons pe_str (pa_cons pe_str (pa_cons pe_str (pa_cons pe_str (pa_cons pe_str (pa_cons pe_str (pa_cons pe_str (pa_cons pe_str pa_nil)))))))))))))))
      (pss_cons (ps_set (i := 1) scWords.nd rfl (Or.inr rfl) (pe_op op_cat (pv 1) (pe_lst (pa_cons pe_str (pa_cons pe_str pa_nil)))))
      (pss_one (ps_ret (pe_join pe_str (pe_lc (own := [("_law_k", 2)]) (g := gName 2) (tt := tYes) rfl scWords.nd
        (pi_range1 (by rfl) T.rng (pa_cons (pe_op op_add pe_int (pe_call cT.F hr1 (by rfl) cT.g cT.kp cT.b .nil pass0 (pa_cons (pv 0) (pa_cons (pe_ix ix_list (pe_lst (pa_cons pe_int (pa_cons pe_int (pa_cons pe_int (pa_cons pe_int pa_nil)))))
          (pe_call cT.F hr1 (by rfl) cT.g cT.kp cT.b .nil pass0 (pa_cons (pv 0) (pa_cons pe_int pa_nil))) (fun _ _ => rfl)) pa_nil)))) pa_nil))
        (blkOk_by (N := nWords) (sc := defScope sWords) (by decide +kernel)) (fun _ _ _ _ _ => pg_name (i := 2) scWords.nd rfl (Or.inl rfl)) (fun _ _ _ _ _ => pts_nil)
        (fun _ _ _ _ _ => pe_call cO.F hr rfl cO.g cO.kp cO.b .nil pass0 (pa_cons (pv 0) (pa_cons (pv 1) pa_nil)))))))), ?_⟩
    refine q_asgL (xs := (someW.take 13).map V.str) (el_lst (ea_cs _) (by decide)) fun p1 H1 hp1 e1 h1 => ?_
    refine q_asgL (xs := (someW.take 13).map V.str ++ (someW.drop 13).map V.str) (el_cat (ev_var rfl) h1 (el_lst (ea_cs ((someW.drop 13).map V.str)) (by decide)) (by decide)) fun p2 H2 hp2 e2 h2 => ?_
    have h2' : H2 p2 = some (.lst (someW.map V.str)) := h2
    clear h2
    have row2 : Row K H2 r := row.ex (e1.trans e2)
    have nep : p2 ≠ r := (row.ex e1).ne_new hp2
    refine ⟨⟨_, rfl⟩, ?_⟩
    refine ⟨_, rfl, by show 4 ≤ sizeLine; decide, fun q hq => ?_⟩
    have row3 : Row K (upd H2 q (.lst [.int 1, .int 2, .int 4, .int 8])) r := row2.ex (Ex.new hq)
    have neq : q ≠ r := row2.ne_new hq
    refine draw (m := 4) (ev_var rfl) ev_c row3 (by decide) (by decide) fun n1 G1 hn1 hm1 d1 => ?_
    obtain ⟨m2, ha2, l2, u2⟩ : ∃ m2 : Int, atI [V.int 1, V.int 2, V.int 4, V.int 8] n1 = some (.int m2) ∧ 1 ≤ m2 ∧ m2 ≤ 8 := by
      have : n1 = 0 ∨ n1 = 1 ∨ n1 = 2 ∨ n1 = 3 := by omega
      rcases this with rfl | rfl | rfl | rfl
      · exact ⟨1, rfl, by decide, by decide⟩
      · exact ⟨2, rfl, by decide, by decide⟩
      · exact ⟨4, rfl, by decide, by decide⟩
      · exact ⟨8, rfl, by decide, by decide⟩
    refine ⟨q, _, n1, _, rfl, rfl, sq_of (d1.kp _ _ neq upd_same), ha2, r, m2, rfl, d1.row, by omega, by omega, fun n2 G2 hn2 hm2 d2 => ?_⟩
    have d02 : Dr K r H2 G2 := Dr.trans (Dr.pre (Ex.new hq) d1) d2
    refine ⟨1, n2, rfl, rfl, 1 + n2, rfl, by omega, by omega, fun D hD => ?_⟩
    have hD2 : H2 D = none := d02.free row2 hD
    have neD : D ≠ r := row2.ne_new hD2
    have neDp : D ≠ p2 := (ne_of_none h2' hD2).symm
    refine lc_range (lo := 0) (n := (1 + n2).toNat) (fun i G => ∃ ys : List Str, ys.length = i ∧ (∀ y ∈ ys, y ∈ someW) ∧ G D = some (.lst (ys.map V.str)) ∧ Dr K r H2 G) ⟨[], rfl, fun _ z => (by cases z), upd_same, ?_⟩ ?_ ?_
    · exact ⟨d02.kp.updL hD2, d02.row.ex (Ex.new hD)⟩
    · rintro i G hi ⟨ys, hlen, hys, hGD, d⟩
      refine ⟨rfl, ?_⟩
      unfold tYes
      dsimp only
      rw [if_pos rfl]
      refine ⟨_, rfl, _, rfl, r, p2, someW.map V.str, rfl, d.row, nep, d.kp _ _ nep h2', by decide, by decide, fun v G' hv d' => ?_⟩
      obtain ⟨y, hy, rfl⟩ := List.mem_map.mp hv
      refine ⟨ys.map V.str, d'.kp _ _ neD hGD, sz_lt (by rw [List.length_map]; omega), ys ++ [y], by simp [hlen], fun z hz => ?_, by rw [upd_same]; simp, (Dr.trans d d').updL hD2 (d'.kp _ _ neD hGD) neD⟩
      rcases List.mem_append.mp hz with hz | hz
      · exact hys z hz
      · rw [List.mem_singleton.mp hz]
        exact hy
    · rintro G ⟨ys, hlen, hys, hGD, d⟩
      obtain ⟨w1, w2⟩ := joined_ok hys (by omega)
      exact ⟨_, D, ys, rfl, rfl, .inl (sq_of hGD), w2, k _ G w1 (Dr.pre (e1.trans e2) d)⟩
end
end Bl
namespace Bl
open PySem PySem.Spec PyProof.Rows L2 Bk Bm Evl Be Kr Ks Bp TL
def ps1 : List Str := ["a", "b", "c", "d/x", "d/y", "e/f/g"].map Str.ofString
def ps2 : List Str := ["m", "p/q"].map Str.ofString
theorem FileAt.kp {r : Addr} {H G : Hp} {v : V} {f : Fl} {xs : List V} (h : FileAt H v f) (hr : H r = some (.lst xs)) (k : Kp r H G) : FileAt G v f := by
  obtain ⟨b, rfl, hb⟩ := h
  exact ⟨b, rfl, k b _ (ne_of hb hr (by intro z; cases z)) hb⟩
theorem FileAt.updL {H : Hp} {D : Addr} {v : V} {f : Fl} {xs zs : List V} (h : FileAt H v f) (hr : H D = some (.lst xs)) : FileAt (upd H D (.lst zs)) v f := by
  obtain ⟨b, rfl, hb⟩ := h
  exact ⟨b, rfl, by rw [upd_ne (ne_of hb hr (by intro z; cases z))]; exact hb⟩
section
variable {P : Program} {w : World} {K : PySem.W.Frag} {mg : Str → Option Value} {base : Heap}
abbrev nTree : List Str := ["_law_row", "_law_found", "_law_path"]
theorem scTree : FnScope nTree ["_law_row"] (defScope sTree) := ⟨rfl, rfl, rfl, by decide +kernel, rfl, by decide +kernel, by decide +kernel⟩
/-- between the turns: the list at D holds files whose paths stand in done, in order -/
def TInv (K : PySem.W.Frag) (r : Addr) (H0 : Hp) (D : Addr) (done : List Str) (σ : L2.St) (G : Hp) : Prop :=
  ∃ (vs : List V) (fs : List Fl) (u : Option V), σ = [some (.ref r), some (.ref D), u] ∧ G D = some (.lst vs) ∧ Paired (FileAt G) vs fs ∧ (fs.map (·.1)).Sublist done ∧ (∀ f ∈ fs, okW f.2) ∧ Dr K r H0 G
theorem tree_turns {r D : Addr} {H0 G : Hp} {ps done : List Str} {tt : TT} {De : Ends} {σ : L2.St} (inv : TInv K r H0 D done σ G) (hD0 : H0 D = none) (hDr : D ≠ r) (hz : done.length + ps.length ≤ 100)
    (test : ∀ (q : Str) G (Q : Bool → Hp → Prop), Row K G r → (∀ b G', Dr K r G G' → Q b G') → tt [some (.ref r), some (.ref D), some (.str q)] G Q)
    (k : ∀ σ' G', TInv K r H0 D (done ++ ps) σ' G' → De.nx σ' G') :
    tFor (iList K (tLst (tCs (ps.map V.str)))) (gName 2) (tIfS tt (tDrop (tBM K "list" rAppend (tVar 1) (tCons (tTup (tCons (tVar 2) (tCons (tCall (spWords (K := K)) [] E0 (tCons (tVar 0) tNil)) tNil))) tNil))) tNext) De σ G := by
  obtain ⟨vs0, fs0, u0, es0, hD, _, _, _, d0⟩ := id inv
  refine s_forNL (xs := ps.map V.str) (el_lst (ea_cs _) (by rw [List.length_map]; omega)) (fun p i σ' G' => TInv K r H0 D (done ++ ps.take i) σ' G' ∧ G' p = some (.lst (ps.map V.str)) ∧ p ≠ D ∧ p ≠ r) (fun p H1 hp e h1 => ?_) (fun p i σ' G' _ q => sq_of q.2.1) (fun p i x σ' G' hi q => ?_) (fun p σ' G' q => ?_)
  · obtain ⟨vs, fs, u, es, hD, pf, sl, ok, d⟩ := inv
    refine ⟨⟨vs, fs, u, es, e _ _ hD, paired_mono pf fun _ _ z => z.mono e, by simpa using sl, ok, d.ex e⟩, h1, (ne_of_none hD hp).symm, d.row.ne_new hp⟩
  · obtain ⟨⟨vs, fs, u, rfl, hD, pf, sl, ok, d⟩, hp, npD, npr⟩ := q
    obtain ⟨q, hq, rfl⟩ : ∃ q, ps[i]? = some q ∧ x = V.str q := by
      rw [List.getElem?_map] at hi
      cases e : ps[i]? with
      | none => rw [e] at hi; cases hi
      | some q => rw [e] at hi; exact ⟨q, rfl, (Option.some.inj hi).symm⟩
    have htk : ps.take (i + 1) = ps.take i ++ [q] := by rw [List.take_succ, hq]; rfl
    have hlen : fs.length ≤ 100 := by
      have h1 := sl.length_le
      rw [List.length_map, List.length_append, List.length_take] at h1
      omega
    obtain ⟨rl, hrl⟩ := d.row.at
    refine test q G' _ d.row fun b G1 d1 => ?_
    have hD1 : G1 D = some (.lst vs) := d1.kp _ _ hDr hD
    have pf1 : Paired (FileAt G1) vs fs := paired_mono pf fun _ _ z => FileAt.kp z hrl d1.kp
    cases b with
    | false =>
      rw [if_neg (by decide)]
      exact ⟨⟨vs, fs, _, rfl, hD1, pf1, by rw [htk, ← List.append_assoc]; exact sl.trans (List.sublist_append_left _ _), ok, d.trans d1⟩, d1.kp _ _ npr hp, npD, npr⟩
    | true =>
      rw [if_pos rfl]
      refine ⟨_, rfl, Or.inl ⟨rfl, vs, sq_of hD1⟩, _, rfl, _, rfl, r, rfl, d1.row, fun y G2 hy d2 => ⟨by show 2 ≤ sizeLine; decide, fun T hT => ?_⟩⟩
      obtain ⟨rl1, hrl1⟩ := d1.row.at
      have hD2 : G2 D = some (.lst vs) := d2.kp _ _ hDr hD1
      have pf2 : Paired (FileAt G2) vs fs := paired_mono pf1 fun _ _ z => FileAt.kp z hrl1 d2.kp
      have hD3 : (upd G2 T (.tup [.str q, .str y])) D = some (.lst vs) := (Ex.new hT) _ _ hD2
      have pl := paired_len pf2
      refine ⟨D, vs, .ref T, rfl, rfl, hD3, sz_lt (by omega), ?_⟩
      have d02 : Dr K r H0 (upd G2 T (.tup [.str q, .str y])) := ((d.trans d1).trans d2).ex (Ex.new hT)
      refine ⟨⟨vs ++ [.ref T], fs ++ [(q, y)], _, rfl, upd_same, ?_, ?_, ?_, d02.updL hD0 hD3 hDr⟩, ?_, npD, npr⟩
      · refine paired_append (paired_mono pf2 fun _ _ z => FileAt.updL (z.mono (Ex.new hT)) hD3) (.cons ⟨T, rfl, ?_⟩ .nil)
        rw [upd_ne (ne_of_none hD2 hT).symm, upd_same]
      · rw [htk, ← List.append_assoc, List.map_append]
        exact sl.append (List.Sublist.refl _)
      · intro f hf
        rcases List.mem_append.mp hf with hf | hf
        · exact ok f hf
        · rw [List.mem_singleton.mp hf]
          exact hy
      · rw [upd_ne npD]
        exact (Ex.new hT) _ _ (d2.kp _ _ npr (d1.kp _ _ npr hp))
  · have e : ps.take (ps.map V.str).length = ps := by rw [List.length_map, List.take_length]
    rw [e] at q
    exact k σ' G' q.1
theorem ps_asc : AscS (ps1 ++ ps2) := by
  unfold AscS
  decide +kernel
theorem ps_sub : ∀ p ∈ ps1 ++ ps2, p ∈ allP := by decide +kernel
theorem all_ok : ∀ p ∈ allP, p.length ≤ 1000 ∧ PyData.strOk p = true ∧ pathB p = true := by decide +kernel
theorem all_apart : ∀ p ∈ allP, ∀ q ∈ allP, within p q = false := by decide +kernel
/-- files on the law's paths, rising -/
theorem gf_of {fs : List Fl} (asc : AscF fs) (hP : ∀ f ∈ fs, f.1 ∈ allP) (ok : ∀ f ∈ fs, okW f.2) (few : fs.length ≤ 20) : GF fs :=
  .of asc (fun f hf => by
    obtain ⟨a, b, c⟩ := all_ok f.1 (hP f hf)
    obtain ⟨d, e, g⟩ := ok f hf
    exact ⟨⟨a, by omega, b, g⟩, c, e⟩) (fun f hf g hg => all_apart f.1 (hP f hf) g.1 (hP g hg)) few
def spTree : Sp := fun vs H Q _ => ∃ r, vs = [.ref r] ∧ Row K H r ∧ ∀ p fs G, Dr K r H G → H p = none → GT G p fs → (∀ f ∈ fs, f.1 ∈ ps1 ++ ps2) → (∀ f ∈ fs, okW f.2) → fs.length ≤ 8 → Q (.ref p) G
theorem ok_tree {f : Addr} {fd : FuncData} (F : Fun K "_law_tree" "_law_tree" sTree f fd) (T : Gv mg) (cT : Cal P w K mg base CX0 1 "_law_taken" ["_law_row", "_law_many"] (spTaken (K := K)))
    (cW : Cal P w K mg base CX0 3 "_law_words" ["_law_row"] (spWords (K := K))) : FnOk P w K mg base CX0 4 f fd ["_law_row"] (spTree (K := K)) := by
  refine F.ok scTree (fun vs H Q E h => ?_) (fun cdv A outer s H vs Q E hr h => ?_)
  · obtain ⟨r, rfl, _⟩ := h
    rfl
  · obtain ⟨r, rfl, row, k⟩ := h
    have hr1 : Room 1 _ := hr.mono (by decide)
    refine ⟨_, pss_cons (ps_set (i := 1) scTree.nd rfl (Or.inl rfl) (pe_lst pa_nil))
      (pss_cons (ps_for PassesOwn.never rfl (pi_list (pe_lst (pa_cons pe_str (pa_cons pe_str (pa_cons pe_str (pa_cons pe_str (pa_cons pe_str (pa_cons pe_str pa_nil)))))))) (pg_name (i := 2) scTree.nd rfl (Or.inl rfl))
        (pss_one (ps_if (pt_cmpR op_gt (pe_call cT.F hr1 (by rfl) cT.g cT.kp cT.b .nil pass0 (pa_cons (pv 0) (pa_cons pe_int pa_nil))) pe_int (nomark _))
          (pss_one (ps_expr (pe_bm PySem.F.plainAttrs_list PySem.F.slot_list_append PySem.F.type_list_append mt_append (pv 1) (pa_cons (pe_tup (pa_cons (pv 2) (pa_cons (pe_call cW.F hr (by rfl) cW.g cW.kp cW.b .nil pass0 (pa_cons (pv 0) pa_nil)) pa_nil))) pa_nil)))) pss_nil)))
      (pss_cons (ps_for PassesOwn.never rfl (pi_list (pe_lst (pa_cons pe_str (pa_cons pe_str pa_nil)))) (pg_name (i := 2) scTree.nd rfl (Or.inl rfl))
        (pss_one (ps_if (pt_cmpR op_eq (pe_call cT.F hr1 (by rfl) cT.g cT.kp cT.b .nil pass0 (pa_cons (pv 0) (pa_cons pe_int pa_nil))) pe_int (nomark _))
          (pss_one (ps_expr (pe_bm PySem.F.plainAttrs_list PySem.F.slot_list_append PySem.F.type_list_append mt_append (pv 1) (pa_cons (pe_tup (pa_cons (pv 2) (pa_cons (pe_call cW.F hr (by rfl) cW.g cW.kp cW.b .nil pass0 (pa_cons (pv 0) pa_nil)) pa_nil))) pa_nil)))) pss_nil)))
      (pss_one (ps_ret (pe_callTy call_tuple_ofZ (by rfl) T.tup (by decide +kernel) (pa_cons (pv 1) pa_nil)))))), ?_⟩
    refine q_asgL (xs := []) (el_lst ea_nil (by decide)) fun D H1 hD e1 h1 => ?_
    have row1 := row.ex e1
    have hDr : D ≠ r := row.ne_new hD
    refine tree_turns (K := K) (r := r) (D := D) (H0 := H) (ps := ps1) (done := []) (De := ⟨_, _, _, _⟩) ⟨[], [], none, rfl, h1, .nil, List.Sublist.refl _, fun _ z => (by cases z), Dr.pre e1 (Dr.refl row1)⟩ hD hDr (by decide) (fun q G Q' rw q' => ?_) fun σ' G' inv => ?_
    · exact draw (m := 4) (ev_var rfl) ev_c rw (by decide) (by decide) fun n G1 hn hm d => ⟨n, 0, rfl, rfl, _, rfl, q' _ G1 d⟩
    refine tree_turns (K := K) (r := r) (D := D) (H0 := H) (ps := ps2) (done := [] ++ ps1) (De := ⟨_, _, _, _⟩) inv hD hDr (by decide) (fun q G Q' rw q' => ?_) fun σ2 G2 inv2 => ?_
    · exact draw (m := 4) (ev_var rfl) ev_c rw (by decide) (by decide) fun n G1 hn hm d => ⟨rfl, _, rfl, q' _ G1 d⟩
    obtain ⟨vs, fs, u, rfl, hD2, pf, sl, ok, d⟩ := inv2
    refine ⟨_, rfl, D, vs, rfl, sq_of hD2, fun l o hl hpl => ?_⟩
    have e0 := Ex.new (o := .frz o (.tup vs)) hl
    have asc : AscF fs := by
      have h := ps_asc.sublist sl
      unfold AscS at h
      rw [List.pairwise_map] at h
      exact h
    have mem : ∀ f ∈ fs, f.1 ∈ ps1 ++ ps2 := fun f hf => sl.subset (List.mem_map.mpr ⟨f, hf, rfl⟩)
    have few : fs.length ≤ 8 := by
      have h := sl.length_le
      rw [List.length_map] at h
      exact h
    exact k l fs _ (d.ex e0) (d.free row hl) ⟨⟨o, vs, upd_same, hpl, paired_mono pf fun _ _ z => z.mono e0⟩, gf_of asc (fun f hf => ps_sub _ (mem f hf)) ok (by omega)⟩ mem ok few
end
end Bl
namespace Bl
open PySem PySem.Spec PyProof.Rows L2 Bk Bm Evl Be Kr Ks Bp TL
abbrev sSeen : Stmt := top 39
abbrev sNamesL : Stmt := top 40
section
variable {P : Program} {w : World} {K : PySem.W.Frag} {mg : Str → Option Value} {base : Heap}
theorem scSeen : FnScope ["_law_tree_here", "_law_path"] ["_law_tree_here", "_law_path"] (defScope sSeen) := ⟨rfl, rfl, rfl, by decide +kernel, rfl, by decide +kernel, by decide +kernel⟩
def spSeen : Sp := fun vs H Q _ => ∃ a fs p, vs = [.ref a, .str p] ∧ GT H a fs ∧ RetV (textOf fs p) H Q
theorem ok_seen {f : Addr} {fd : FuncData} (F : Fun K "_law_seen" "_law_seen" sSeen f fd) (T : Gv mg) : FnOk P w K mg base CX0 1 f fd ["_law_tree_here", "_law_path"] spSeen := by
  refine F.ok scSeen (fun vs H Q E h => ?_) (fun cdv A outer s H vs Q E hr h => ?_)
  · obtain ⟨a, fs, p, rfl, _⟩ := h
    rfl
  · obtain ⟨a, fs, p, rfl, gt, k⟩ := h
    have hu : (A.deeper (envOfC "_law_seen" (defScope sSeen) s.heap.objs.size f cdv)).units + 1 < cLine := by have := hr.un; omega
    refine ⟨_, pss_one (ps_ret (pe_dget2 hu (pe_callTy (call_dictT rfl) (by rfl) T.dct (by decide +kernel) (pa_cons (pv 0) pa_nil)) (pv 1) pe_non ⟨rfl, rfl, rfl, rfl⟩)), ?_⟩
    exact s_ret (ev_get2 (K := K) (ev_var rfl) gt fun H3 e3 => ev_var rfl) k
def manyN (g : Str) : Nat := if g = Str.ofString "" then 0 else (partsOf g).length
theorem nm_law : ∀ p ∈ allP, ∀ g ∈ allF, (partsOf p).length ≤ 10 ∧ manyN g ≤ 10 ∧ ((((partsOf p).take (manyN g)).map (·.length)).sum + ((partsOf p).take (manyN g)).length * 1 ≤ 1000) ∧
    (decide (manyN g < (partsOf p).length) && decide (Txt.join (Str.ofString "/") ((partsOf p).take (manyN g)) = g)) = within p g ∧ (within p g = true → (partsOf p)[manyN g]? = some (nmOf p g)) := by decide +kernel
theorem cut_take {xs : List V} {n : Nat} : cutV xs none (some (n : Int)) = xs.take n := by
  have c1 : HT.sIx xs.length 0 none = 0 := HT.sIx_none _ _
  have c2 : HT.sIx xs.length xs.length (some (n : Int)) = min n xs.length := by rw [HT.sIx_nat]
  unfold cutV
  rw [c1, c2]
  simp
theorem par_raw {i j : Nat} {ta : TA} {De : Ends} {σ : L2.St} {H : Hp} (h : ta σ H fun vs H1 => ∃ v w, vs = [v, w] ∧ De.nx ((σ.set i (some v)).set j (some w)) H1) : tPar i j ta De σ H := h
theorem lst_raw {ta : TA} {σ : L2.St} {H : Hp} {Q : VK} (h : ta σ H fun vs H1 => vs.length ≤ sizeLine ∧ ∀ p, H1 p = none → Q (.ref p) (upd H1 p (.lst vs))) : tLst ta σ H Q := h
theorem ev_joinSl {σ : L2.St} {H : Hp} {i j : Nat} {l : Addr} {ys : List Str} {n : Nat} {s : Str} (hi : σ[i]? = some (some (.ref l))) (hl : H l = some (.lst (ys.map V.str))) (hj : σ[j]? = some (some (.int (n : Int))))
    (hz : ((ys.take n).map (·.length)).sum + (ys.take n).length * s.length ≤ 16777216) :
    Ev (tM1 (fun x xs H Q => ∃ a p, ∃ ys : List Str, x = .str a ∧ xs = [.ref p] ∧ (SqL K H p (ys.map V.str) ∨ SqT K H p (ys.map V.str)) ∧ (ys.map (·.length)).sum + ys.length * a.length ≤ 16777216 ∧ Q (.str (Txt.join a ys)) H) (tC (.str s))
      (tSl (rSlL K) (tVar i) tNoPart (tPart (tVar j)))) σ H (.str (Txt.join s (ys.take n))) := fun H1 e Q q => ⟨⟨s, rfl⟩, by
  refine el_sl (K := K) (ev_var hi) eo_none (eo_some (ev_var hj)) (sq_of (e _ _ hl)) H1 (Ex.refl _) _ fun p H2 hp e2 h2 => ?_
  rw [cut_take, ← List.map_take] at h2
  exact ⟨s, p, ys.take n, rfl, rfl, .inl (sq_of h2), hz, q H2 e2⟩⟩
abbrev nNm : List Str := ["_law_tree_here", "_law_folder", "_law_found", "_law_many", "_law_path", "_law_text", "_law_parts_told"]
theorem scNamesL : FnScope nNm ["_law_tree_here", "_law_folder"] (defScope sNamesL) := ⟨rfl, rfl, rfl, by decide +kernel, rfl, by decide +kernel, by decide +kernel⟩
def spNamesL : Sp := fun vs H Q _ => ∃ a fs g, vs = [.ref a, .str g] ∧ GT H a fs ∧ (∀ f ∈ fs, f.1 ∈ allP) ∧ g ∈ allF ∧
  ∀ ys t H', sortedS ys = true → ys.Nodup → (∀ y, y ∈ ys ↔ y ∈ Bp.namesOf fs g) → Ex H H' → H' t = some (.tup (ys.map V.str)) → Q (.ref t) H'
theorem ok_namesL {f : Addr} {fd : FuncData} (F : Fun K "_law_names" "_law_names" sNamesL f fd) (T : Gv mg) : FnOk P w K mg base CX0 1 f fd ["_law_tree_here", "_law_folder"] (spNamesL) := by
  refine F.ok scNamesL (fun vs H Q E h => ?_) (fun cdv A outer s H vs Q E hr h => ?_)
  · obtain ⟨a, fs, g, rfl, _⟩ := h
    rfl
  · obtain ⟨a, fs, g, rfl, gt, hP, hg, k⟩ := h
    refine ⟨_, pss_cons (ps_par (i := 2) (j := 3) rfl scNamesL.nd rfl rfl (by decide) rfl rfl (pa_cons (pe_lst pa_nil) (pa_cons (pe_ifExp (pt_cmpR op_eq (pv 1) pe_str (nomark _)) pe_int (pe_callB call_len_seq (by rfl) T.len PySem.boot_len (pa_cons (pe_split (pv 1) pe_str) pa_nil))) pa_nil)) (by rfl))
      (pss_cut (ps_for PassesOwn.never rfl (pi_tup (pv 0)) (pg_tup rfl (pgs_cons (pg_name (i := 4) scNamesL.nd rfl (Or.inl rfl)) (pgs_cons (pg_name (i := 5) scNamesL.nd rfl (Or.inl rfl)) pgs_nil)))
        (pss_cons (ps_set (i := 6) scNamesL.nd rfl (Or.inl rfl) (pe_split (pv 4) pe_str))
        (pss_one (ps_if (pw_and (pt_cmpR op_gt (pe_callB call_len_seq (by rfl) T.len PySem.boot_len (pa_cons (pv 6) pa_nil)) (pv 3) (nomark _))
            (pw_and1 (pt_cmpR op_eq (pe_join pe_str (pe_slice sl_list (pv 6) po_none (po_some (pv 3)))) (pv 1) (nomark _)))).pt
          (pss_one (ps_expr (pe_bm PySem.F.plainAttrs_list PySem.F.slot_list_append PySem.F.type_list_append mt_append (pv 2) (pa_cons (pe_ix ix_list (pv 6) (pv 3) (fun _ _ => rfl)) pa_nil)))) pss_nil))))
      (pss_one (ps_ret (pe_callTy call_tuple_of (by rfl) T.tup (by decide +kernel) (pa_cons (pe_callB (cr_sortedX rfl) (by rfl) T.srt (by decide +kernel) (pa_cons (pe_callTy (cr_setX rfl) (by rfl) T.set_ (by decide +kernel) (pa_cons (pv 2) pa_nil)) pa_nil)) pa_nil))))), ?_⟩
    obtain ⟨xs, hx, pf, kd⟩ := gt.seq (K := K)
    have hlen := paired_len pf
    have few := gt.2.few
    obtain ⟨fo, fl⟩ := fold_ok g hg
    refine seq_raw (par_raw (cons_raw (lst_raw ?_)))
    refine ⟨by show 0 ≤ sizeLine; decide, fun D hD => cons_raw ?_⟩
    refine ev_if (v := .int ((manyN g : Nat) : Int)) (b := decide (V.str g = V.str (Str.ofString ""))) (et_test (ev_op (ev_var rfl) ev_c (rv_eq rfl))) (fun h => ev_is ev_c ?_) (fun h => ev_is (ev_lenN (K := K) (el_split (ev_var rfl) ev_c (by decide) (by omega))) ?_) _ (Ex.refl _) _ fun H1 e1 => ?_
    · have hz : g = Str.ofString "" := by
        have := of_decide_eq_true h
        injection this
      unfold manyN
      rw [if_pos hz]
      rfl
    · have hz : ¬ g = Str.ofString "" := fun z => (of_decide_eq_false h) (by rw [z])
      unfold manyN
      rw [if_neg hz, List.length_map]
      rfl
    have e01 : Ex H H1 := (Ex.new hD).trans e1
    have hD1 : H1 D = some (.lst []) := e1 _ _ upd_same
    refine ⟨_, _, rfl, ?_⟩
    dsimp only
    refine q_cut (M := fun σ' G => ∃ u v x, σ' = [some (.ref a), some (.str g), some (.ref D), some (.int ((manyN g : Nat) : Int)), u, v, x] ∧ Ex H G ∧ G D = some (.lst ((Bp.namesOf fs g).map V.str))) ?_ ?_
    · refine s_forT (K := K) (ev_var rfl) (ex_t e01 hx) (fun i σ' G => ∃ u v x, σ' = [some (.ref a), some (.str g), some (.ref D), some (.int ((manyN g : Nat) : Int)), u, v, x] ∧ Ex H G ∧ G D = some (.lst ((Bp.namesOf (fs.take i) g).map V.str)))
        (fun H2 e2 => ⟨none, none, none, rfl, e01.trans e2, e2 _ _ hD1⟩) (fun i σ' G _ q => by obtain ⟨_, _, _, _, q, _⟩ := q; exact ex_t q hx) (fun i x σ' G hi q => ?_) (fun σ' G q => ?_)
      · obtain ⟨u, v, x', rfl, eG, hG⟩ := q
        obtain ⟨f, hf, b, rfl, hb⟩ := Bp.paired_get pf hi
        have hfm := List.mem_of_getElem? hf
        obtain ⟨n1, n2, n3, n4, n5⟩ := nm_law f.1 (hP f hfm) g hg
        have okf := (gt.2.ok f hfm).1.1
        refine ⟨b, [.str f.1, .str f.2], rfl, st_of (eG _ _ hb), rfl, ?_⟩
        refine ⟨_, _, rfl, _, _, rfl, rfl, ?_⟩
        dsimp only
        refine q_asgL (xs := (partsOf f.1).map V.str) (el_split (ev_var rfl) ev_c (by decide) (by omega)) fun l H2 hl e2 h2 => ?_
        have step : Bp.namesOf (fs.take (i + 1)) g = Bp.namesOf (fs.take i) g ++ if within f.1 g = true then [nmOf f.1 g] else [] := by
          unfold Bp.namesOf
          rw [List.take_succ, hf, List.filter_append, List.map_append]
          congr 1
          show (List.filter _ [f]).map _ = _
          rw [List.filter_cons]
          cases within f.1 g <;> rfl
        refine s_when (b := within f.1 g) (et_is (et_and (a := decide (manyN g < (partsOf f.1).length)) (b := decide (Txt.join (Str.ofString "/") ((partsOf f.1).take (manyN g)) = g))
          (et_is (et_test (ev_op (ev_len (ev_var (i := 6) rfl) (sq_of h2)) (ev_var (i := 3) rfl) rv_I0)) ?_)
          (fun hh => et_is (et_test (ev_op (ev_joinSl (i := 6) (j := 3) rfl h2 rfl (by show _ + _ * 1 ≤ _; omega)) (ev_var (i := 1) rfl) (rv_eq rfl))) ?_)) n4) (fun hb2 H3 e3 => ?_) (fun hb2 H3 e3 => ?_)
        · rw [List.length_map]
          exact decide_eq_decide.mpr (by omega)
        · exact decide_eq_decide.mpr ⟨fun h => by injection h, fun h => by rw [h]⟩
        · have hG3 := (e2.trans e3) _ _ hG
          have h23 := e3 _ _ h2
          have hat : atI ((partsOf f.1).map V.str) ((manyN g : Nat) : Int) = some (.str (nmOf f.1 g)) := atI_nat (by rw [List.getElem?_map, n5 hb2]; rfl)
          refine ⟨_, rfl, Or.inl ⟨rfl, _, sq_of hG3⟩, _, rfl, _, rfl, l, _, _, _, rfl, rfl, sq_of h23, hat, D, _, _, rfl, rfl, hG3, sz_lt ?_, ?_⟩
          · unfold Bp.namesOf
            rw [List.length_map, List.length_map]
            have h5 := List.length_filter_le (fun f : Fl => within f.1 g) (fs.take i)
            rw [List.length_take] at h5
            omega
          · refine ⟨_, _, _, rfl, ((eG.trans e2).trans e3).mut hD, ?_⟩
            rw [upd_same, step, if_pos hb2, List.map_append]
            rfl
        · refine ⟨_, _, _, rfl, (eG.trans e2).trans e3, ?_⟩
          rw [step, hb2, if_neg (by decide), List.append_nil]
          exact (e2.trans e3) _ _ hG
      · obtain ⟨u, v, x', rfl, eG, hG⟩ := q
        refine ⟨u, v, x', rfl, eG, ?_⟩
        rw [hG, hlen, List.take_length]
    · rintro σ' G ⟨u, v, x, rfl, eG, hG⟩
      refine ret_raw (cb_raw (cb_raw (cb_raw ?_)))
      refine ⟨_, rfl, D, _, rfl, sq_of hG, ?_, fun p hp => ⟨p, _, rfl, upd_same, ?_, fun ys t so nd mem ht => ⟨t, _, rfl, .inl ⟨sq_of upd_same, fun t2 ht2 => ?_⟩⟩⟩⟩
      · have h5 := List.length_filter_le (fun f : Fl => within f.1 g) fs
        unfold Bp.namesOf
        rw [List.length_map]
        omega
      · have h5 := List.length_filter_le (fun f : Fl => within f.1 g) fs
        unfold Bp.namesOf
        rw [List.length_map]
        omega
      · exact k ys t2 _ so nd mem ((eG.trans (Ex.new hp)).trans ((Ex.new ht).trans (Ex.new ht2))) upd_same
end
end Bl
namespace Bl
open PySem PySem.Spec PyProof.Rows L2 Bk Bm Evl Be Kr Ks Bp TL
abbrev sTried : Stmt := top 41
abbrev nTried : List Str := ["_law_kind", "_law_tree_here", "_law_path", "_law_text", "_law_found"]
/-- the error classes -/
structure Exs (K : PySem.W.Frag) (mg : Str → Option Value) (Cc Cf Ca : Addr) : Prop where
  clash : Xc K mg "Clash" Cc
  full : Xc K mg "Full" Cf
  absent : Xc K mg "Absent" Ca
  cc : PySem.W.exmOne K (.ref Cc) (.ref Cc) = some true
  fc : PySem.W.exmOne K (.ref Cf) (.ref Cc) = some false
  ff : PySem.W.exmOne K (.ref Cf) (.ref Cf) = some true
  ac : PySem.W.exmOne K (.ref Ca) (.ref Cc) = some false
  af : PySem.W.exmOne K (.ref Ca) (.ref Cf) = some false
  aa : PySem.W.exmOne K (.ref Ca) (.ref Ca) = some true
def tSay (x : String) : Addr → Value → Option Addr → TS := fun _ _ _ => tAsg (tC (.str (Str.ofString x))) (gName 4)
def cls3 (Cc Cf Ca : Addr) : List Cl := [(.ref Cc, none, tSay "clash"), (.ref Cf, none, tSay "full"), (.ref Ca, none, tSay "absent")]
def PutQ (fs : List Fl) (p t : Str) (H : Hp) (Q : VK) : Prop :=
  ((hasP fs p = true ∨ (clashP fs p = false ∧ fs.length ≠ 20)) → ∀ q ys gs H', Ex H H' → H' q = some (.tup ys) → Paired (FileAt H') ys gs → AscF gs → (∀ g, g ∈ gs ↔ (g ∈ fs ∧ g.1 ≠ p) ∨ g = (p, t)) → Q (.ref q) H') ∧
  (hasP fs p = false → clashP fs p = true → RetV (.str (Str.ofString "clash")) H Q) ∧
  (hasP fs p = false → clashP fs p = false → fs.length = 20 → RetV (.str (Str.ofString "full")) H Q)
def TakQ (fs : List Fl) (p : Str) (H : Hp) (Q : VK) : Prop :=
  (hasP fs p = true → ∀ t ys H', Ex H H' → H' t = some (.tup ys) → Paired (FileAt H') ys (without fs p) → Q (.ref t) H') ∧
  (hasP fs p = false → RetV (.str (Str.ofString "absent")) H Q)
def spTried : Sp := fun vs H Q _ => ∃ k a fs p t, vs = [.int k, .ref a, .str p, .str t] ∧ GT H a fs ∧ pathB p = true ∧ p.length ≤ 1000 ∧ textB t = true ∧ t.length ≤ 1000 ∧
  ((k = 0 ∧ PutQ fs p t H Q) ∨ (k = 1 ∧ TakQ fs p H Q))
section
variable {P : Program} {w : World} {K : PySem.W.Frag} {mg : Str → Option Value} {base : Heap}
theorem scTried : FnScope nTried ["_law_kind", "_law_tree_here", "_law_path", "_law_text"] (defScope sTried) := ⟨rfl, rfl, rfl, by decide +kernel, rfl, by decide +kernel, by decide +kernel⟩
variable {Cc Cf Ca : Addr}
theorem ok_tried {f : Addr} {fd : FuncData} (F : Fun K "_law_tried" "_law_tried" sTried f fd) (X : Exs K mg Cc Cf Ca)
    (cP : Cal P w K mg base (L2.CX P w) 5 "put" ["tree", "path", "text"] (spPutF Cc Cf)) (cK : Cal P w K mg base (L2.CX P w) 5 "taken" ["tree", "path"] (spTakenF Ca)) :
    FnOk P w K mg base CX0 6 f fd ["_law_kind", "_law_tree_here", "_law_path", "_law_text"] spTried := by
  refine F.ok scTried (fun vs H Q E h => ?_) (fun cdv A outer s H vs Q E hr h => ?_)
  · obtain ⟨k, a, fs, p, t, rfl, _⟩ := h
    rfl
  · obtain ⟨k, a, fs, p, t, rfl, gt, hp, hl, ht, htl, h⟩ := h
    refine ⟨_, pss_cons (ps_set (i := 4) scTried.nd rfl (Or.inl rfl) pe_non)
      (pss_cons (ps_try_mix (l := cls3 Cc Cf Ca) (Wo := fun _ _ _ _ => False)
          (tb := fun W => tAsg (tIf (tTest (tOp rEq (tVar 0) (tC (.int 0)))) (tCallS (spPutF Cc Cf) (WE W) (tCons (tVar 1) (tCons (tVar 2) (tCons (tVar 3) tNil)))) (tCallS (spTakenF Ca) (WE W) (tCons (tVar 1) (tCons (tVar 2) tNil)))) (gName 4)) rfl rfl scTried.nd takes0
        (fun W pn xe tk _ => pss_one (ps_set (i := 4) scTried.nd rfl (Or.inl rfl) (pe_ifExp (pt_cmpR op_eq (pv 0) pe_int (nomark _))
          (pe_callS cP.F hr (by rfl) cP.g cP.kp cP.b (fun σ => passAt tk σ) (by exact (pa_cons (pv 1) (pa_cons (pv 2) (pa_cons (pv 3) pa_nil)))))
          (pe_callS cK.F hr (by rfl) cK.g cK.kp cK.b (fun σ => passAt tk σ) (by exact (pa_cons (pv 1) (pa_cons (pv 2) pa_nil)))))))
        (.bare ⟨rfl, by decide, .inl X.clash.g⟩ (fun a oe cls d pn hz hf => pss_one (ps_set (i := 4) scTried.nd rfl (Or.inl rfl) pe_str))
        (.bare ⟨rfl, by decide, .inl X.full.g⟩ (fun a oe cls d pn hz hf => pss_one (ps_set (i := 4) scTried.nd rfl (Or.inl rfl) pe_str))
        (.bare ⟨rfl, by decide, .inl X.absent.g⟩ (fun a oe cls d pn hz hf => pss_one (ps_set (i := 4) scTried.nd rfl (Or.inl rfl) pe_str)) .nil))))
      (pss_one (ps_ret (pv 4)))), ?_⟩
    refine q_asg ev_c fun H1 e1 => ?_
    show tAsg _ _ { nx := tRet (tVar 4) { nx := fun _ H' => Q .non H', rt := Q }, rt := Q } ([some (.int k), some (.ref a), some (.str p), some (.str t), some .non] : L2.St) H1
    generalize hD : ({ nx := tRet (tVar 4) { nx := fun _ H' => Q .non H', rt := Q }, rt := Q } : Ends) = De
    have sayC : ∀ G, Ex H G → RetV (.str (Str.ofString "clash")) H Q → WE (wMix K (fun _ _ _ _ => False) De (cls3 Cc Cf Ca)) ([some (.int k), some (.ref a), some (.str p), some (.str t), some .non] : L2.St) (.ref Cc) none G := by
      intro G eG out
      refine ⟨true, X.cc, fun _ a ha => ?_, fun z => by cases z⟩
      subst hD
      exact ⟨_, rfl, out _ eG⟩
    have sayF : ∀ G, Ex H G → RetV (.str (Str.ofString "full")) H Q → WE (wMix K (fun _ _ _ _ => False) De (cls3 Cc Cf Ca)) ([some (.int k), some (.ref a), some (.str p), some (.str t), some .non] : L2.St) (.ref Cf) none G := by
      intro G eG out
      refine ⟨false, X.fc, fun z => (by cases z), fun _ => ⟨true, X.ff, fun _ a ha => ?_, fun z => by cases z⟩⟩
      subst hD
      exact ⟨_, rfl, out _ eG⟩
    have sayA : ∀ G, Ex H G → RetV (.str (Str.ofString "absent")) H Q → WE (wMix K (fun _ _ _ _ => False) De (cls3 Cc Cf Ca)) ([some (.int k), some (.ref a), some (.str p), some (.str t), some .non] : L2.St) (.ref Ca) none G := by
      intro G eG out
      refine ⟨false, X.ac, fun z => (by cases z), fun _ => ⟨false, X.af, fun z => (by cases z), fun _ => ⟨true, X.aa, fun _ a ha => ?_, fun z => by cases z⟩⟩⟩
      subst hD
      exact ⟨_, rfl, out _ eG⟩
    refine s_raw (et_test (b := decide (V.int k = V.int 0)) (ev_op (ev_var rfl) ev_c (rv_eq rfl)) H1 (Ex.refl _) _ fun H2 e2 => ?_)
    have eG := e1.trans e2
    rcases h with ⟨rfl, q1, q2, q3⟩ | ⟨rfl, q1, q2⟩
    · rw [if_pos (by rfl)]
      refine ⟨_, rfl, _, rfl, _, rfl, a, fs, p, t, rfl, gt.mono eG, hp, hl, ht, htl, fun c q ys gs H' e' h1 h2 h3 h4 => ?_, fun c1 c2 H' e' => sayC H' (eG.trans e') (q2 c1 c2), fun c1 c2 c3 H' e' => sayF H' (eG.trans e') (q3 c1 c2 c3)⟩
      subst hD
      exact ⟨_, rfl, q1 c q ys gs H' (eG.trans e') h1 h2 h3 h4⟩
    · rw [if_neg (by decide)]
      refine ⟨_, rfl, _, rfl, a, fs, p, rfl, gt.mono eG, hp, hl, fun c q ys H' e' h1 h2 => ?_, fun c1 H' e' => sayA H' (eG.trans e') (q2 c1)⟩
      subst hD
      exact ⟨_, rfl, q1 c q ys H' (eG.trans e') h1 h2⟩
end
end Bl
namespace Bl
open PySem PySem.Spec PyProof.Rows L2 Bk Bm Evl Be Kr Ks Bp TL
abbrev sDue : Stmt := top 42
abbrev nDue : List Str := ["_law_tree_here", "_law_path", "_law_text", "_law_others", "_law_other", "_law_told", "_law_file"]
theorem scDue : FnScope nDue ["_law_tree_here", "_law_path", "_law_text"] (defScope sDue) := ⟨rfl, rfl, rfl, by decide +kernel, rfl, by decide +kernel, by decide +kernel⟩
section
variable {σ : L2.St} {H : Hp} {K : PySem.W.Frag}
theorem ev_slS {te : TE} {tl th : TO} {z : Str} {lo hi : Option Int} (h : Ev te σ H (.str z)) (h1 : EvO tl σ H lo) (h2 : EvO th σ H hi) (hz : z.length ≤ 100000) : Ev (tSl rSlS te tl th) σ H (.str (cutS z lo hi)) := fun H1 e Q q =>
  h H1 e _ fun H2 e2 => h1 H2 (e.trans e2) _ fun H3 e3 => h2 H3 ((e.trans e2).trans e3) _ fun H4 e4 => ⟨z, rfl, sz_of hz, q H4 ((e2.trans e3).trans e4)⟩
theorem ev_addS {ta tb : TE} {a b : Str} (ha : Ev ta σ H (.str a)) (hb : Ev tb σ H (.str b)) (hz : a.length + b.length ≤ 100000) : Ev (tOp (fun x y H Q => ∃ i j, x = .str i ∧ y = .str j ∧ i.length + j.length ≤ sizeLine ∧ Q (.str (i ++ j)) H) ta tb) σ H (.str (a ++ b)) := fun H1 e Q q =>
  ha H1 e _ fun H2 e2 => hb H2 (e.trans e2) _ fun H3 e3 => ⟨a, b, rfl, rfl, sz_of hz, q H3 (e2.trans e3)⟩
/-- (a + "/")[:len(b) + 1] == b + "/" -/
def cl1 (a b : Str) : Bool := decide (cutS (a ++ Str.ofString "/") none (some ((b.length : Int) + 1)) = b ++ Str.ofString "/")
theorem len_sl (a : Str) : (a ++ Str.ofString "/").length = a.length + 1 := by
  show (a.cps ++ (Str.ofString "/").cps).size = _
  rw [Array.size_append]
  rfl
theorem ev_cl1 {i j : Nat} {a b : Str} (hi : σ[i]? = some (some (.str a))) (hj : σ[j]? = some (some (.str b))) (la : a.length ≤ 1000) (lb : b.length ≤ 1000) :
    Ev (tOp rEq (tSl rSlS (tOp (fun x y H Q => ∃ i j, x = .str i ∧ y = .str j ∧ i.length + j.length ≤ sizeLine ∧ Q (.str (i ++ j)) H) (tVar i) (tC (.str (Str.ofString "/")))) tNoPart
        (tPart (tOp (rI0 fun i j => .int (i + j)) (tCB (fun xs H Q => ∃ z, xs = [V.str z] ∧ z.length ≤ sizeLine ∧ Q (.int z.length) H) (tCons (tVar j) tNil)) (tC (.int 1)))))
      (tOp (fun x y H Q => ∃ i j, x = .str i ∧ y = .str j ∧ i.length + j.length ≤ sizeLine ∧ Q (.str (i ++ j)) H) (tVar j) (tC (.str (Str.ofString "/"))))) σ H (.bl (cl1 a b)) := by
  have l1 : (Str.ofString "/").length = 1 := rfl
  refine ev_is (ev_op (ev_slS (ev_addS (ev_var hi) ev_c (by omega)) eo_none (eo_some (ev_op (ev_lenS (ev_var hj) (by omega)) ev_c rv_I0)) (by rw [len_sl]; omega)) (ev_addS (ev_var hj) ev_c (by omega)) (rv_eq rfl)) ?_
  unfold cl1
  congr 1
  exact decide_eq_decide.mpr ⟨fun h => by injection h, fun h => by rw [h]⟩
def allQ : List Str := ["a", "a/b", "d", "d/x", "d/z", "e/f", "z", "z1", "b1", "e/f/g"].map Str.ofString
theorem due_ok : ∀ p ∈ allQ, pathB p = true ∧ p.length ≤ 10 ∧ ∀ o ∈ allP, o.length ≤ 10 ∧ (o ≠ p → (cl1 p o || cl1 o p) = way p o) := by decide +kernel
theorem clash_eq {fs : List Fl} {p : Str} (hp : p ∈ allQ) (hP : ∀ f ∈ fs, f.1 ∈ allP) (hn : hasP fs p = false) : (fs.any (fun f => cl1 p f.1) || fs.any fun f => cl1 f.1 p) = clashP fs p := by
  obtain ⟨_, _, h⟩ := due_ok p hp
  unfold hasP at hn
  unfold clashP
  induction fs with
  | nil => rfl
  | cons f r ih =>
    simp only [List.any_cons, Bool.or_eq_false_iff] at hn ⊢
    have h1 := (h f.1 (hP f List.mem_cons_self)).2 (by simpa using hn.1)
    have h2 := ih (fun g hg => hP g (List.mem_cons_of_mem _ hg)) hn.2
    rw [← h1, ← h2]
    cases cl1 p f.1 <;> cases cl1 f.1 p <;> cases r.any (fun f => cl1 p f.1) <;> cases r.any (fun f => cl1 f.1 p) <;> rfl
/-- over files, (path, text) at a time -/
theorem el_lcF {i j : Nat} {a : Addr} {xs : List V} {fs : List Fl} {tl te : TE} {tt : TT} (kp : Fl → Bool) (val : Fl → V) (hij : i ≠ j) (h : Ev tl σ H (.ref a)) (hx : SqT K H a xs) (pf : Paired (FileAt H) xs fs) (hz : xs.length ≤ 40000)
    (ht : ∀ (f : Fl) H1, Ex H H1 → f ∈ fs → EvT tt ((σ.set i (some (.str f.1))).set j (some (.str f.2))) H1 (kp f)) (he : ∀ (f : Fl) H1, Ex H H1 → f ∈ fs → kp f = true → Ev te ((σ.set i (some (.str f.1))).set j (some (.str f.2))) H1 (val f)) :
    EvL (tLc (iTup K tl) (gTup K 2 (gCons (gName i) (gCons (gName j) gNil))) tt te [i, j]) σ H ((fs.filter kp).map val) := fun H0 e Q q => h H0 e _ fun H1 e1 => ⟨a, rfl, ⟨xs, ex_t (e.trans e1) hx⟩, fun D hD =>
  lc_it (walk_tup (K := K) (a := a) (xs := xs)) (fun i G => Ex H1 G ∧ G D = some (.lst (((fs.take i).filter kp).map val))) ⟨Ex.new hD, by rw [upd_same]; rfl⟩ (fun i G _ p => ex_t ((e.trans e1).trans p.1) hx) (by
    rintro n v G G' hi ⟨s1, hd⟩ ⟨rfl, hl⟩
    obtain ⟨f, hf, b, rfl, hb⟩ := Bp.paired_get pf hl
    have eG := (e.trans e1).trans s1
    have hm := List.mem_of_getElem? hf
    have ee : ((wipe σ [i, j]).set i (some (V.str f.1))).set j (some (V.str f.2)) = (σ.set i (some (.str f.1))).set j (some (.str f.2)) := by
      show ((((σ.set j none).set i none).set i (some (V.str f.1))).set j (some (V.str f.2))) = _
      rw [List.set_set, List.set_comm _ _ hij.symm, List.set_set]
    have e2w : wipe ((σ.set i (some (V.str f.1))).set j (some (V.str f.2))) [i, j] = wipe σ [i, j] := by
      show (((σ.set i (some (V.str f.1))).set j (some (V.str f.2))).set j none).set i none = (σ.set j none).set i none
      rw [List.set_set, List.set_comm _ _ hij, List.set_set]
    refine ⟨b, [.str f.1, .str f.2], rfl, st_of (eG _ _ hb), rfl, ?_⟩
    refine ⟨_, _, rfl, _, _, rfl, rfl, ?_⟩
    show wipe (((wipe σ [i, j]).set i (some (V.str f.1))).set j (some (V.str f.2))) [i, j] = wipe σ [i, j] ∧ _
    rw [ee]
    refine ⟨e2w, ?_⟩
    have step : (fs.take (n + 1)).filter kp = (fs.take n).filter kp ++ if kp f = true then [f] else [] := by
      rw [List.take_succ, hf, List.filter_append]
      congr 1
      show List.filter kp [f] = _
      rw [List.filter_cons]
      rfl
    refine ht f G' eG hm G' (Ex.refl _) _ fun G2 e2 => ?_
    cases hk : kp f with
    | false =>
      rw [if_neg (by decide)]
      refine ⟨s1.trans e2, ?_⟩
      rw [step, hk, if_neg (by decide), List.append_nil]
      exact e2 _ _ hd
    | true =>
      rw [if_pos rfl]
      refine he f G2 (eG.trans e2) hm hk G2 (Ex.refl _) _ fun G3 e3 => ⟨_, e3 D _ (e2 D _ hd), sz_lt ?_, ((s1.trans e2).trans e3).mut hD, ?_⟩
      · rw [List.length_map]
        have h3 := List.length_take_le' n fs
        have h4 := List.length_filter_le kp (fs.take n)
        have h5 := Bp.paired_len pf
        omega
      · rw [upd_same, step, hk, if_pos rfl, List.map_append]
        rfl) (by
    rintro G ⟨s1, hd⟩
    refine q D G (fresh_back e1 hD) (e1.trans s1) ?_
    rw [hd, Bp.paired_len pf, List.take_of_length_le (Nat.le_refl _)])⟩
end
end Bl
namespace Bl
open PySem PySem.Spec PyProof.Rows L2 Bk Bm Evl Be Kr Ks Bp TL
theorem et_yes {σ : L2.St} {H : Hp} : EvT tYes σ H true := fun H1 _ Q q => q H1 (Ex.refl _)
theorem zip_of {α β : Type} {F : α → β → Prop} {l : List α} {m : List β} (h : Paired F l m) : ∃ ps : List (α × β), ps.map Prod.fst = l ∧ ps.map Prod.snd = m ∧ ∀ z ∈ ps, F z.1 z.2 := by
  induction h with
  | nil => exact ⟨[], rfl, rfl, fun _ h => nomatch h⟩
  | @cons a b l m r _ ih =>
    obtain ⟨ps, e1, e2, h⟩ := ih
    refine ⟨(a, b) :: ps, by simp [e1], by simp [e2], fun z hz => ?_⟩
    rcases List.mem_cons.mp hz with rfl | hz
    · exact r
    · exact h z hz
def spDue : Sp := fun vs H Q _ => ∃ a fs p t, vs = [.ref a, .str p, .str t] ∧ GT H a fs ∧ (∀ f ∈ fs, f.1 ∈ allP) ∧ p ∈ allQ ∧ PutQ fs p t H Q
section
variable {P : Program} {w : World} {K : PySem.W.Frag} {mg : Str → Option Value} {base : Heap}
theorem ok_due {f : Addr} {fd : FuncData} (F : Fun K "_law_due" "_law_due" sDue f fd) (T : Gv mg) : FnOk P w K mg base CX0 1 f fd ["_law_tree_here", "_law_path", "_law_text"] spDue := by
  refine F.ok scDue (fun vs H Q E h => ?_) (fun cdv A outer s H vs Q E hr h => ?_)
  · obtain ⟨a, fs, p, t, rfl, _⟩ := h
    rfl
  · obtain ⟨a, fs, p, t, rfl, gt, hP, hp, k1, k2, k3⟩ := h
    have hu : (A.deeper (envOfC "_law_due" (defScope sDue) s.heap.objs.size f cdv)).units + 70 < cLine := by have := hr.un; omega
    refine ⟨_, pss_cons (ps_setLc (i := 3) (own := [("_law_other", 4), ("_law_told", 5)]) (g := gTup K 2 (gCons (gName 4) (gCons (gName 5) gNil))) (tt := tYes) rfl scDue.nd rfl rfl rfl (pi_tup (pv 0)) (blkOk_by (N := nDue) (sc := defScope sDue) (by decide +kernel))
        (fun _ _ _ _ _ => pg_tup rfl (pgs_cons (pg_name (i := 4) scDue.nd rfl (Or.inl rfl)) (pgs_cons (pg_name (i := 5) scDue.nd rfl (Or.inl rfl)) pgs_nil))) (fun _ _ _ _ _ => pts_nil) (fun _ _ _ _ _ => pv 4))
      (pss_cut (ps_if (pt_cmpR op_notIn_seq (pv 1) (pv 3) rfl)
        (pss_cons (ps_if (pt_val (pe_callB (cr_any rfl) (by rfl) T.any boot_any (pa_cons (pe_lc (own := [("_law_other", 4)]) (g := gName 4) (tt := tYes) rfl scDue.nd (pi_list (pv 3)) (blkOk_by (N := nDue) (sc := defScope sDue) (by decide +kernel))
            (fun _ _ _ _ _ => pg_name (i := 4) scDue.nd rfl (Or.inl rfl)) (fun _ _ _ _ _ => pts_nil)
            (fun _ _ _ _ _ => pe_cmpR op_eq (pe_slice sl_str (pe_op op_add_str (pv 1) pe_str) po_none (po_some (pe_op op_add (pe_callB call_len_str (by rfl) T.len PySem.boot_len (pa_cons (pv 4) pa_nil)) pe_int))) (pe_op op_add_str (pv 4) pe_str) (nomark _))) pa_nil))) (pss_one (ps_ret pe_str)) pss_nil)
        (pss_cons (ps_if (pt_val (pe_callB (cr_any rfl) (by rfl) T.any boot_any (pa_cons (pe_lc (own := [("_law_other", 4)]) (g := gName 4) (tt := tYes) rfl scDue.nd (pi_list (pv 3)) (blkOk_by (N := nDue) (sc := defScope sDue) (by decide +kernel))
            (fun _ _ _ _ _ => pg_name (i := 4) scDue.nd rfl (Or.inl rfl)) (fun _ _ _ _ _ => pts_nil)
            (fun _ _ _ _ _ => pe_cmpR op_eq (pe_slice sl_str (pe_op op_add_str (pv 4) pe_str) po_none (po_some (pe_op op_add (pe_callB call_len_str (by rfl) T.len PySem.boot_len (pa_cons (pv 1) pa_nil)) pe_int))) (pe_op op_add_str (pv 1) pe_str) (nomark _))) pa_nil))) (pss_one (ps_ret pe_str)) pss_nil)
        (pss_one (ps_if (pt_cmpR op_eq (pe_callB call_len_seq (by rfl) T.len PySem.boot_len (pa_cons (pv 0) pa_nil)) pe_int (nomark _)) (pss_one (ps_ret pe_str)) pss_nil)))) pss_nil)
      (pss_one (ps_ret (pe_callTy call_tuple_of (by rfl) T.tup (by decide +kernel) (pa_cons (pe_callB (cr_sortedDL hu) (by rfl) T.srt (by decide +kernel) (pa_cons (pe_op op_cat
        (pe_lc (own := [("_law_file", 6)]) (g := gName 6) rfl scDue.nd (pi_tup (pv 0)) (blkOk_by (N := nDue) (sc := defScope sDue) (by decide +kernel))
          (fun _ _ _ _ _ => pg_name (i := 6) scDue.nd rfl (Or.inl rfl)) (fun _ _ _ _ _ => pts_one (pt_cmpR op_ne (pe_ix (r := rIxT K) ix_tup (pv 6) pe_int (fun _ _ => rfl)) (pv 1) (nomark _)))
          (fun _ _ _ _ _ => pv 6))
        (pe_lst (pa_cons (pe_tup (pa_cons (pv 1) (pa_cons (pv 2) pa_nil))) pa_nil))) pa_nil)) pa_nil))))), ?_⟩
    obtain ⟨xs, hx, pf, kd⟩ := gt.seq (K := K)
    have hlen := Bp.paired_len pf
    have few := gt.2.few
    obtain ⟨pp, pl, du⟩ := due_ok p hp
    refine q_asgL (xs := fs.map fun f => V.str f.1) (ev_isL (el_lcF (K := K) (i := 4) (j := 5) (fun _ => true) (fun f => .str f.1) (by decide) (ev_var rfl) hx pf (by omega) (fun f H1 e1 hf => et_yes) (fun f H1 e1 hf _ => ev_var rfl)) (by rw [List.filter_eq_self.mpr (fun _ _ => rfl)])) fun l H1 hl e1 h1 => ?_
    have h1' : H1 l = some (.lst ((fs.map (·.1)).map V.str)) := by rw [h1, List.map_map]; rfl
    have flat : ((fs.map (·.1)).map V.str).all flatV = true := by
      rw [List.all_eq_true]
      intro v hv
      obtain ⟨y, hy, rfl⟩ := List.mem_map.mp hv
      rfl
    have hin : inV (.str p) ((fs.map (·.1)).map V.str) = hasP fs p := by
      unfold inV hasP
      rw [List.any_map, List.any_map]
      congr 1
    refine q_cut (M := fun σ' H' => σ' = [some (.ref a), some (.str p), some (.str t), some (.ref l), none, none, none] ∧ Ex H H' ∧ (hasP fs p = true ∨ (clashP fs p = false ∧ fs.length ≠ 20))) ?_ ?_
    · refine s_when (b := !inV (.str p) ((fs.map (·.1)).map V.str)) (et_test (ev_op (ev_var rfl) (ev_var rfl) (rv_niL (sq_of h1') rfl flat))) (fun hb H2 e2 => ?_) (fun hb H2 e2 => ⟨rfl, e1.trans e2, .inl (by rw [← hin]; simpa using hb)⟩)
      have hno : hasP fs p = false := by rw [← hin]; simpa using hb
      have ce := clash_eq hp hP hno
      have e12 := e1.trans e2
      have c1 : ∀ f ∈ fs, f.1.length ≤ 10 := fun f hf => (du f.1 (hP f hf)).1
      refine q_when (b := fs.any fun f => cl1 p f.1) (et_B (ev_is (ev_any (K := K) (bs := fs.map fun f => cl1 p f.1) (ev_isL (el_lcA (K := K) (j := 4) (fun v => match v with | .str o => .bl (cl1 p o) | _ => .non) (ev_var (i := 3) (v := .ref l) rfl) (sq_of (e2 _ _ h1')) (by rw [List.length_map, List.length_map]; omega) (fun x H3 e3 hx3 => ?_)) ?_)) ?_))
        (fun hc H3 e3 => ?_) (fun hc H3 e3 => ?_)
      · obtain ⟨y, hy, rfl⟩ := List.mem_map.mp hx3
        obtain ⟨f, hf, rfl⟩ := List.mem_map.mp hy
        have := c1 f hf
        exact ev_cl1 rfl rfl (by omega) (by omega)
      · rw [List.map_map, List.map_map, List.map_map]
        rfl
      · simp [List.any_map]
      · rw [hc, Bool.true_or] at ce
        exact s_ret (v := .str (Str.ofString "clash")) ev_c fun H4 e4 => k2 hno ce.symm H4 ((e12.trans e3).trans e4)
      · refine q_when (b := fs.any fun f => cl1 f.1 p) (et_B (ev_is (ev_any (K := K) (bs := fs.map fun f => cl1 f.1 p) (ev_isL (el_lcA (K := K) (j := 4) (fun v => match v with | .str o => .bl (cl1 o p) | _ => .non) (ev_var (i := 3) (v := .ref l) rfl) (sq_of ((e2.trans e3) _ _ h1')) (by rw [List.length_map, List.length_map]; omega) (fun x H4 e4 hx3 => ?_)) ?_)) ?_))
          (fun hc2 H4 e4 => ?_) (fun hc2 H4 e4 => ?_)
        · obtain ⟨y, hy, rfl⟩ := List.mem_map.mp hx3
          obtain ⟨f, hf, rfl⟩ := List.mem_map.mp hy
          have := c1 f hf
          exact ev_cl1 rfl rfl (by omega) (by omega)
        · rw [List.map_map, List.map_map, List.map_map]
          rfl
        · simp [List.any_map]
        · rw [hc2, Bool.or_true] at ce
          exact s_ret (v := .str (Str.ofString "clash")) ev_c fun H5 e5 => k2 hno ce.symm H5 (((e12.trans e3).trans e4).trans e5)
        · rw [hc, hc2] at ce
          have e14 := (e12.trans e3).trans e4
          refine s_when (b := decide (fs.length = 20)) (et_is (et_test (ev_op (ev_lenT (ev_var rfl) (ex_t e14 hx)) ev_c (rv_eq rfl))) ?_) (fun h20 H5 e5 => ?_) (fun h20 H5 e5 => ⟨rfl, e14.trans e5, .inr ⟨ce.symm, by simpa using h20⟩⟩)
          · rw [hlen]
            exact decide_eq_decide.mpr ⟨fun h => by injection h with h; omega, fun h => by rw [h]; rfl⟩
          · exact s_ret (v := .str (Str.ofString "full")) ev_c fun H6 e6 => k3 hno ce.symm (by simpa using h20) H6 ((e14.trans e5).trans e6)
    · rintro σ' G ⟨rfl, eG, cond⟩
      have gtG := gt.mono eG
      obtain ⟨xs2, hx2, pf2, _⟩ := gtG.seq (K := K)
      have hlen2 := Bp.paired_len pf2
      have big := el_fT (K := K) (σ := [some (.ref a), some (.str p), some (.str t), some (.ref l), none, none, none]) (H := G) (j := 6) (tl := tVar 0) (tt := tTest (tOp rNe (tOp (rIxT K) (tVar 6) (tC (.int 0))) (tVar 1))) (te := tVar 6)
        (fun v => match v with | .ref c => (match G c with | some (.tup (.str z :: _)) => !decide (z = p) | _ => false) | _ => false) id (ev_var (i := 0) (v := .ref a) rfl) hx2 (by omega)
        (fun x H4 e4 hm => by
          obtain ⟨f, hf, c, rfl, hc⟩ := Bp.paired_mem pf2 hm
          simp only [hc]
          refine et_is (et_test (ev_op (ev_op (ev_var rfl) ev_c (rv_ixT (st_of (e4 _ _ hc)) rfl)) (ev_var rfl) (rv_ne rfl))) ?_
          congr 1
          exact decide_eq_decide.mpr ⟨fun h => by injection h, fun h => by rw [h]⟩)
        (fun x H4 e4 hm hk => ev_var rfl)
      have fil : ∀ {ys : List V} {gs : List Fl}, Paired (FileAt G) ys gs → Paired (FileAt G) (List.filter (fun v => match v with | .ref c => (match G c with | some (.tup (.str z :: _)) => !decide (z = p) | _ => false) | _ => false) ys) (Bp.without gs p) := by
        intro ys gs h
        induction h with
        | nil => exact .nil
        | @cons y g ys gs r _ ih =>
          obtain ⟨c, rfl, hc⟩ := id r
          unfold Bp.without at ih ⊢
          rw [List.filter_cons, List.filter_cons]
          simp only [hc]
          cases decide (g.1 = p) with
          | true => exact ih
          | false => exact .cons r ih
      have fm := fil pf2
      rw [← List.map_id (List.filter _ xs2)] at fm
      obtain ⟨ps, eps1, eps2, eps3⟩ := zip_of fm
      rw [← eps1] at big
      refine ret_raw (cb_raw (cb_raw (op_raw (big G (Ex.refl _) _ fun l1 G1 hl1 e2 h2 => lst_raw (cons_raw (tup_raw (cons_raw ⟨_, rfl, cons_raw ⟨_, rfl, ?_⟩⟩)))))))
      refine ⟨by show 2 ≤ sizeLine; decide, fun T hT => ?_⟩
      refine ⟨by show 1 ≤ sizeLine; decide, fun l2 hl2 => ?_⟩
      have eT := Ex.new (o := .tup [.str p, .str t]) hT
      have eL := Ex.new (o := .lst [.ref T]) hl2
      have lps : ps.length ≤ 20 := by
        have := congrArg List.length eps2
        rw [List.length_map] at this
        have h5 := List.length_filter_le (fun f : Fl => !decide (f.1 = p)) fs
        unfold Bp.without at this
        omega
      refine ⟨l1, l2, ps.map Prod.fst, [.ref T], rfl, rfl, eL _ _ (eT _ _ h2), upd_same, by rw [List.length_map]; exact sz_of (by show ps.length + 1 ≤ _; omega), fun l3 hl3 => ?_⟩
      have e3 := Ex.new (o := .lst (ps.map Prod.fst ++ [.ref T])) hl3
      have eAll := e2.trans (eT.trans (eL.trans e3))
      refine sortF_go (ps := ps ++ [(.ref T, (p, t))]) (sq_of (by rw [List.map_append]; exact upd_same)) (fun z hz => ?_) ?_ (fun q ys gs hq hly pr as mem => ?_)
      · rcases List.mem_append.mp hz with hz | hz
        · exact (eps3 z hz).mono eAll
        · rw [List.mem_singleton.mp hz]
          exact ⟨T, rfl, e3 _ _ (eL _ _ upd_same)⟩
      · have nd := gt.2.nodupP
        have e4 : ps.map (·.2.1) = (Bp.without fs p).map (·.1) := by rw [← eps2, List.map_map]; rfl
        rw [List.map_append, e4]
        refine List.nodup_append.mpr ⟨?_, by simp, fun x hx y hy => ?_⟩
        · exact nd.sublist ((List.filter_sublist (l := fs)).map _)
        · obtain ⟨f, hf, rfl⟩ := List.mem_map.mp hx
          have hy' : y = p := by simpa using hy
          have := (List.mem_filter.mp hf).2
          rw [hy']
          simpa using this
      · refine ⟨q, ys, rfl, .inl ⟨sq_of upd_same, fun q2 hq2 => ?_⟩⟩
        refine k1 cond q2 ys gs _ (((eG.trans eAll).trans (Ex.new hq)).trans (Ex.new hq2)) upd_same (paired_mono pr fun _ _ z => z.mono ((Ex.new hq).trans (Ex.new hq2))) as fun g => ?_
        rw [mem]
        have e5 : ∀ z, z ∈ ps.map Prod.snd ↔ z ∈ fs ∧ z.1 ≠ p := fun z => by
          rw [eps2]
          unfold Bp.without
          rw [List.mem_filter]
          simp
        constructor
        · rintro ⟨z, hz, rfl⟩
          rcases List.mem_append.mp hz with hz | hz
          · exact .inl ((e5 z.2).mp (List.mem_map.mpr ⟨z, hz, rfl⟩))
          · rw [List.mem_singleton.mp hz]
            exact .inr rfl
        · rintro (h | rfl)
          · obtain ⟨z, hz, e⟩ := List.mem_map.mp ((e5 g).mpr h)
            exact ⟨z, List.mem_append_left _ hz, e⟩
          · exact ⟨_, List.mem_append_right _ (List.mem_singleton.mpr rfl), rfl⟩
end
end Bl
namespace Bl
open PySem PySem.Spec PyProof.Rows L2 Bk Bm Evl Be Kr Ks Bp TL
section
variable {P : Program} {w : World} {K : PySem.W.Frag} {H G : Hp} {r : Addr}
theorem iteF {A B : Prop} (h : B) : if (false = true) then A else B := by
  rw [if_neg (by decide)]
  exact h
theorem iteT {A B : Prop} (h : A) : if (true = true) then A else B := by
  rw [if_pos rfl]
  exact h
theorem if_raw {tt : TT} {tu tw : TS} {De : Ends} {σ : L2.St} (h : tt σ G fun b H1 => if b = true then tu De σ H1 else tw De σ H1) : tIfS tt tu tw De σ G := h
theorem test_raw {te : TE} {σ : L2.St} {Q : Bool → Hp → Prop} (h : te σ G fun x H1 => ∃ k, x = .bl k ∧ Q k H1) : tTest te σ G Q := h
theorem call_raw {sp : Sp} {E : XK} {ta : TA} {σ : L2.St} {Q : VK} (h : ta σ G fun vs H1 => sp (vs ++ []) H1 Q E) : tCall sp [] E ta σ G Q := h
/-- one of a list of texts -/
theorem one_str {xs : List Str} {v : V} (h : v ∈ xs.map V.str) : ∃ y ∈ xs, v = .str y := by
  obtain ⟨y, hy, rfl⟩ := List.mem_map.mp h
  exact ⟨y, hy, rfl⟩
/-- a draw from a written list of texts -/
theorem drawS {σ : L2.St} {ta : TE} {xs : List Str} {Q : VK} (hr : Ev ta σ H (.ref r)) (row : Row K H r) (h0 : 0 < xs.length) (h1 : xs.length < 100000)
    (k : ∀ y G, y ∈ xs → Dr K r H G → Q (.str y) G) : tCall (spOne (K := K)) [] E0 (tCons ta (tCons (tLst (tCs (xs.map V.str))) tNil)) σ H Q :=
  hr H (Ex.refl _) _ fun H1 e1 => el_lst (ea_cs _) (by rw [List.length_map]; omega) H1 e1 _ fun p H2 hp e2 h2 => ⟨r, p, xs.map V.str, rfl, row.ex (e1.trans e2), (row.ex e1).ne_new hp, h2, by rw [List.length_map]; exact h0, by rw [List.length_map]; omega, fun v G hv d => by
    obtain ⟨y, hy, rfl⟩ := one_str hv
    exact k y G hy (Dr.pre (e1.trans e2) d)⟩
theorem eq_self {d : PyData} (h : SeqAt.shaped d = true) : PyData.eqv d d = true := by
  have h0 : (PyData.canLay0 d && decide (PyData.depth d ≤ 64)) = true := h
  simp only [Bool.and_eq_true] at h0
  exact SeqAt.eqv_refl_plain d (PyData.plain_of_canLay0 d h0.1)
theorem dp_strs (G : Hp) : ∀ zs : List Str, DpAll K G (zs.map V.str) (zs.map PyData.str)
  | [] => .nil
  | z :: r => .cons (.str z) (dp_strs G r)
theorem lay_strs : ∀ {ys : List Str}, (∀ y ∈ ys, PyData.strOk y = true) → PyData.canLayAll0 (ys.map PyData.str) = true ∧ PyData.depthAll (ys.map PyData.str) ≤ 1
  | [], _ => ⟨rfl, by simp [PyData.depthAll]⟩
  | y :: r, h => by
    obtain ⟨i1, i2⟩ := lay_strs (ys := r) fun z hz => h z (List.mem_cons_of_mem _ hz)
    refine ⟨?_, ?_⟩
    · show (PyData.strOk y && PyData.canLayAll0 (r.map PyData.str)) = true
      rw [h y List.mem_cons_self, i1]
      rfl
    · simp only [List.map_cons, PyData.depthAll, PyData.depth] at i2 ⊢
      omega
theorem sh_strsL {zs : List Str} (h : ∀ z ∈ zs, PyData.strOk z = true) : SeqAt.shaped (.list (zs.map PyData.str)) = true := by
  obtain ⟨l1, l2⟩ := lay_strs h
  show (PyData.canLayAll0 (zs.map PyData.str) && decide (PyData.depth (.list (zs.map PyData.str)) ≤ 64)) = true
  rw [l1, decide_eq_true (by simp only [PyData.depth]; omega)]
  rfl
theorem sh_strsT {zs : List Str} (h : ∀ z ∈ zs, PyData.strOk z = true) : SeqAt.shaped (.tuple (zs.map PyData.str)) = true := by
  obtain ⟨l1, l2⟩ := lay_strs h
  show (PyData.canLayAll0 (zs.map PyData.str) && decide (PyData.depth (.tuple (zs.map PyData.str)) ≤ 64)) = true
  rw [l1, decide_eq_true (by simp only [PyData.depth]; omega)]
  rfl
/-- files as data -/
theorem dp_files {xs : List V} {fs : List Fl} (h : Paired (FileAt G) xs fs) : DpAll K G xs (fs.map dF) := by
  induction h with
  | nil => exact .nil
  | cons r _ ih =>
    obtain ⟨b, rfl, hb⟩ := r
    exact .cons (.tup (SqT.of hb) (.cons (.str _) (.cons (.str _) .nil))) ih
theorem lay_files : ∀ {fs : List Fl}, (∀ f ∈ fs, PyData.strOk f.1 = true ∧ PyData.strOk f.2 = true) → PyData.canLayAll0 (fs.map dF) = true ∧ PyData.depthAll (fs.map dF) ≤ 3
  | [], _ => ⟨rfl, by simp [PyData.depthAll]⟩
  | f :: r, h => by
    obtain ⟨i1, i2⟩ := lay_files (fs := r) fun z hz => h z (List.mem_cons_of_mem _ hz)
    obtain ⟨h1, h2⟩ := h f List.mem_cons_self
    refine ⟨?_, ?_⟩
    · show ((PyData.strOk f.1 && (PyData.strOk f.2 && true)) && PyData.canLayAll0 (r.map dF)) = true
      rw [h1, h2, i1]
      rfl
    · simp only [List.map_cons, PyData.depthAll, PyData.depth, dF] at i2 ⊢
      omega
theorem sh_files {fs : List Fl} (h : ∀ f ∈ fs, PyData.strOk f.1 = true ∧ PyData.strOk f.2 = true) : SeqAt.shaped (.tuple (fs.map dF)) = true := by
  obtain ⟨l1, l2⟩ := lay_files h
  show (PyData.canLayAll0 (fs.map dF) && decide (PyData.depth (.tuple (fs.map dF)) ≤ 64)) = true
  rw [l1, decide_eq_true (by simp only [PyData.depth]; omega)]
  rfl
theorem GT.dr {a : Addr} {fs : List Fl} (h : GT H a fs) (row : Row K H r) (d : Dr K r H G) : GT G a fs := by
  obtain ⟨⟨o, xs, h1, h2, h3⟩, g⟩ := h
  obtain ⟨rl, hr⟩ := row.at
  exact ⟨⟨o, xs, d.kp _ _ (ne_of h1 hr (by intro z; cases z)) h1, h2, paired_mono h3 fun _ _ z => FileAt.kp z hr d.kp⟩, g⟩
theorem sh_str {x : Str} (h : PyData.strOk x = true) : SeqAt.shaped (.str x) = true := by
  show (PyData.strOk x && decide (PyData.depth (.str x) ≤ 64)) = true
  rw [h, decide_eq_true (by simp only [PyData.depth]; omega)]
  rfl
theorem Sc.ex {a : Addr} {ns : List Int} (h : Sc K H a ns) (e : Ex H G) : Sc K G a ns := by
  rcases h with ⟨o, h⟩ | h
  · exact .inl ⟨o, e _ _ h⟩
  · exact .inr h
theorem nm_str : ∀ p ∈ allP, ∀ g ∈ allF, PyData.strOk (nmOf p g) = true := by decide +kernel
theorem without_len (fs : List Fl) (p : Str) : hasP fs p = decide ((Bp.without fs p).length < fs.length) := by
  unfold hasP Bp.without
  induction fs with
  | nil => rfl
  | cons f r ih =>
    have le := List.length_filter_le (fun f : Fl => !decide (f.1 = p)) r
    rw [List.any_cons, List.filter_cons]
    by_cases c : f.1 = p
    · rw [decide_eq_true c]
      simp
      omega
    · rw [decide_eq_false c, Bool.false_or, ih]
      simp
theorem difB_self (fs : List Fl) (y : Str) : difB fs fs y = false := by
  unfold difB
  simp
/-- the files that fill a tree -/
def zF (n : Nat) : Fl := (Str.ofString "z" ++ toString ((0 : Int) + (n : Nat)), Str.ofString "")
theorem z_ok : ∀ n ∈ List.range 20, (zF n).1 ∈ allP ∧ (zF n).1 ∉ ps1 ++ ps2 ∧ (Str.ofString "z").length + Str.length (toString ((0 : Int) + (n : Nat))) ≤ 100 ∧ ((0 : Int) + (n : Nat)).natAbs.log2 < 1920 := by decide +kernel
theorem z_nodup : ((List.range 20).map fun n => (zF n).1).Nodup := by decide +kernel
theorem okW_nil : okW (Str.ofString "") := ⟨by decide +kernel, by decide +kernel, by decide +kernel⟩
end
end Bl
namespace Bl
open PySem PySem.Spec PyProof.Rows L2 Bk Bm Evl Be Kr Ks Bp TL
/-! what put and taken answer, as data -/
section
variable {K : PySem.W.Frag} {H G : Hp} {v u : V} {fs : List Fl} {p t : Str}
def PutV (fs : List Fl) (p t : Str) (v : V) (G : Hp) : Prop :=
  ((hasP fs p = true ∨ (clashP fs p = false ∧ fs.length ≠ 20)) ∧ ∃ q ys gs, v = .ref q ∧ G q = some (.tup ys) ∧ Paired (FileAt G) ys gs ∧ AscF gs ∧ ∀ g, g ∈ gs ↔ (g ∈ fs ∧ g.1 ≠ p) ∨ g = (p, t)) ∨
  (hasP fs p = false ∧ clashP fs p = true ∧ v = .str (Str.ofString "clash")) ∨
  (hasP fs p = false ∧ clashP fs p = false ∧ fs.length = 20 ∧ v = .str (Str.ofString "full"))
theorem PutV.mono (e : Ex H G) (h : PutV fs p t v H) : PutV fs p t v G := by
  rcases h with ⟨c, q, ys, gs, e1, h1, h2, h3, h4⟩ | h | h
  · exact .inl ⟨c, q, ys, gs, e1, e _ _ h1, paired_mono h2 fun _ _ z => z.mono e, h3, h4⟩
  · exact .inr (.inl h)
  · exact .inr (.inr h)
theorem putQ_of {Q : VK} (k : ∀ v G, Ex H G → PutV fs p t v G → Q v G) : PutQ fs p t H Q :=
  ⟨fun c q ys gs H' e h1 h2 h3 h4 => k _ _ e (.inl ⟨c, q, ys, gs, rfl, h1, h2, h3, h4⟩), fun a b G e => k _ G e (.inr (.inl ⟨a, b, rfl⟩)), fun a b c G e => k _ G e (.inr (.inr ⟨a, b, c, rfl⟩))⟩
theorem put_same (h1 : PutV fs p t v G) (h2 : PutV fs p t u G) (okp : PyData.strOk p = true) (okt : PyData.strOk t = true) (okf : ∀ f ∈ fs, PyData.strOk f.1 = true ∧ PyData.strOk f.2 = true) :
    ∃ d, Dp K G v d ∧ Dp K G u d ∧ SeqAt.shaped d = true := by
  rcases h1 with ⟨c1, q1, ys1, gs1, rfl, a1, b1, as1, m1⟩ | ⟨c1, d1, rfl⟩ | ⟨c1, d1, e1, rfl⟩ <;> rcases h2 with ⟨c2, q2, ys2, gs2, rfl, a2, b2, as2, m2⟩ | ⟨c2, d2, rfl⟩ | ⟨c2, d2, e2, rfl⟩
  · have e : gs2 = gs1 := asc_ext as2 as1 fun g => (m2 g).trans (m1 g).symm
    subst e
    refine ⟨.tuple (gs2.map dF), .tup (st_of a1) (dp_files b1), .tup (st_of a2) (dp_files b2), sh_files fun f hf => ?_⟩
    rcases (m1 f).mp hf with ⟨h, _⟩ | rfl
    · exact okf f h
    · exact ⟨okp, okt⟩
  · rcases c1 with c | ⟨c, _⟩
    · rw [c2] at c; cases c
    · rw [d2] at c; cases c
  · rcases c1 with c | ⟨_, c⟩
    · rw [c2] at c; cases c
    · exact absurd e2 c
  · rcases c2 with c | ⟨c, _⟩
    · rw [c1] at c; cases c
    · rw [d1] at c; cases c
  · exact ⟨_, .str _, .str _, sh_str (by decide +kernel)⟩
  · rw [d1] at d2; cases d2
  · rcases c2 with c | ⟨_, c⟩
    · rw [c1] at c; cases c
    · exact absurd e1 c
  · rw [d1] at d2; cases d2
  · exact ⟨_, .str _, .str _, sh_str (by decide +kernel)⟩
def TakV (fs : List Fl) (p : Str) (v : V) (G : Hp) : Prop :=
  (hasP fs p = true ∧ ∃ t ys, v = .ref t ∧ G t = some (.tup ys) ∧ Paired (FileAt G) ys (Bp.without fs p)) ∨ (hasP fs p = false ∧ v = .str (Str.ofString "absent"))
theorem takQ_of {Q : VK} (k : ∀ v G, Ex H G → TakV fs p v G → Q v G) : TakQ fs p H Q :=
  ⟨fun c t ys H' e h1 h2 => k _ _ e (.inl ⟨c, t, ys, rfl, h1, h2⟩), fun a G e => k _ G e (.inr ⟨a, rfl⟩)⟩
theorem q_str : ∀ p ∈ allQ, PyData.strOk p = true := by decide +kernel
theorem cat_go {a b : Addr} {xs ys : List V} {Q : VK} (ha : SqT K H a xs) (hb : SqT K H b ys) (hz : xs.length + ys.length ≤ 100000) (k : ∀ c G, Ex H G → SqT K G c (xs ++ ys) → Q (.ref c) G) : rCatA K (.ref a) (.ref b) H Q :=
  ⟨a, b, xs, ys, rfl, rfl, ha, hb, sz_of hz, fun z => k b H (Ex.refl _) (by rw [z]; exact hb), fun _ z => k a H (Ex.refl _) (by rw [z, List.append_nil]; exact ha), fun _ _ p hp => k p _ (Ex.new hp) (st_of upd_same)⟩
theorem lc_tup_raw {tl te : TE} {g : TG} {tt : TT} {vs : List Nat} {σ : L2.St} {Q : VK} (h : tl σ H fun x H1 => tLc (iTup K (tC x)) g tt te vs σ H1 Q) : tLc (iTup K tl) g tt te vs σ H Q := h
/-- files whose paths are not those of p -/
def kpF (G : Hp) (p : Str) : V → Bool := fun v => match v with | .ref c => (match G c with | some (.tup (.str z :: _)) => !decide (z = p) | _ => false) | _ => false
theorem fil_files {ys : List V} {gs : List Fl} (h : Paired (FileAt G) ys gs) : Paired (FileAt G) (List.filter (kpF G p) ys) (Bp.without gs p) := by
  induction h with
  | nil => exact .nil
  | @cons y g ys gs r _ ih =>
    obtain ⟨c, rfl, hc⟩ := id r
    unfold Bp.without at ih ⊢
    unfold kpF at ih ⊢
    rw [List.filter_cons, List.filter_cons]
    simp only [hc]
    cases decide (g.1 = p) with
    | true => exact ih
    | false => exact .cons r ih
end
end Bl
namespace Bl
open PySem PySem.Spec PyProof.Rows L2 Bk Bm Evl Be Kr Ks Bp TL
abbrev sLaw : Stmt := top 43
abbrev nLaw : List Str := ["_law_script", "_law_row", "_law_turn", "_law_tree_here", "_law_k", "_law_path", "_law_text", "_law_folder", "_law_later", "_law_less", "_law_file", "_law_other", "_law_paths_told", "_law_one_here", "_law_told", "_law_due_here"]
theorem iteP {b : Bool} {A B : Prop} (e : b = true) (h : A) : if b = true then A else B := by
  rw [if_pos e]
  exact h
theorem iteN {b : Bool} {A B : Prop} (e : b = false) (h : B) : if b = true then A else B := by
  rw [e, if_neg (by decide)]
  exact h
section
variable {P : Program} {w : World} {K : PySem.W.Frag} {mg : Str → Option Value} {base : Heap}
theorem scLaw : FnScope nLaw ["_law_script"] (defScope sLaw) := ⟨rfl, rfl, rfl, by decide +kernel, rfl, by decide +kernel, by decide +kernel⟩
def spLaw (K : PySem.W.Frag) : Sp := fun vs H Q _ => ∃ (a : Addr) (ns : List Int), vs = [.ref a] ∧ Sc K H a ns ∧ ∀ H', Q (.bl true) H'
/-- the names of the law at a turn -/
abbrev At (a r : Addr) (i : Nat) (u3 u5 u6 u7 u8 u9 u11 u12 u15 : Option V) : L2.St := [some (.ref a), some (.ref r), some (.int (0 + (i : Nat))), u3, none, u5, u6, u7, u8, u9, none, u11, u12, none, none, u15]
theorem ok_law {f : Addr} {fd : FuncData} (F : Fun K "law" "law" sLaw f fd) (T : Gv mg) (cT : Cal P w K mg base CX0 1 "_law_taken" ["_law_row", "_law_many"] (spTaken (K := K)))
    (cO : Cal P w K mg base CX0 2 "_law_one" ["_law_row", "_law_things"] (spOne (K := K))) (cW : Cal P w K mg base CX0 3 "_law_words" ["_law_row"] (spWords (K := K)))
    (cTr : Cal P w K mg base CX0 4 "_law_tree" ["_law_row"] (spTree (K := K))) (cX : Cal P w K mg base CX0 5 "text_at" ["tree", "path"] spTextAt)
    (cS : Cal P w K mg base CX0 1 "_law_seen" ["_law_tree_here", "_law_path"] spSeen) (cN : Cal P w K mg base CX0 5 "names_in" ["tree", "folder"] spNamesF)
    (cL : Cal P w K mg base CX0 1 "_law_names" ["_law_tree_here", "_law_folder"] spNamesL) (cD : Cal P w K mg base CX0 6 "_law_tried" ["_law_kind", "_law_tree_here", "_law_path", "_law_text"] spTried)
    (cU : Cal P w K mg base CX0 1 "_law_due" ["_law_tree_here", "_law_path", "_law_text"] spDue) (cF : Cal P w K mg base CX0 5 "differing" ["one", "other"] spDif) :
    FnOk P w K mg base CX0 7 f fd ["_law_script"] (spLaw K) := by
  refine F.ok scLaw (fun vs H Q E h => ?_) (fun cdv A outer s H vs Q E hr h => ?_)
  · obtain ⟨a, ns, rfl, _⟩ := h
    rfl
  · obtain ⟨a, ns, rfl, sc, k⟩ := h
    have hr1 : Room 1 _ := hr.mono (by decide)
    have hr2 : Room 2 _ := hr.mono (by decide)
    have hr3 : Room 3 _ := hr.mono (by decide)
    have hr4 : Room 4 _ := hr.mono (by decide)
    have hr5 : Room 5 _ := hr.mono (by decide)
    have hu : (A.deeper (envOfC "law" (defScope sLaw) s.heap.objs.size f cdv)).units + 70 < cLine := by have := hr.un; omega
    have hn : (A.deeper (envOfC "law" (defScope sLaw) s.heap.objs.size f cdv)).units + 64 < cLine := by omega
    refine ⟨_, pss_cons (ps_set (i := 1) scLaw.nd rfl (Or.inl rfl) (pe_lst (pa_cons (pv 0) (pa_cons pe_int (pa_cons pe_int (pa_cons pe_int pa_nil))))))
      (pss_cons (ps_for PassesOwn.never rfl (pi_range1 (by rfl) T.rng (pa_cons pe_int pa_nil)) (pg_name (i := 2) scLaw.nd rfl (Or.inl rfl))
        (pss_cons (ps_set (i := 3) scLaw.nd rfl (Or.inr rfl) (pe_call cTr.F hr4 (by rfl) cTr.g cTr.kp cTr.b .nil pass0 (pa_cons (pv 1) pa_nil)))
        (pss_cut (ps_if (pt_cmpR op_eq (pe_call cT.F hr1 (by rfl) cT.g cT.kp cT.b .nil pass0 (pa_cons (pv 1) (pa_cons pe_int pa_nil))) pe_int (nomark _))
          (pss_one (ps_set (i := 3) scLaw.nd rfl (Or.inr rfl) (pe_callTy call_tuple_ofZ (by rfl) T.tup (by decide +kernel) (pa_cons (pe_callB (cr_sortedDT hu) (by rfl) T.srt (by decide +kernel) (pa_cons (pe_op op_catA (pv 3)
            (pe_callTy call_tuple_of (by rfl) T.tup (by decide +kernel) (pa_cons (pe_lc (own := [("_law_k", 4)]) (g := gName 4) (tt := tYes) rfl scLaw.nd
              (pi_range1 (by rfl) T.rng (pa_cons (pe_op op_sub pe_int (pe_callB call_len_seq (by rfl) T.len PySem.boot_len (pa_cons (pv 3) pa_nil))) pa_nil)) (blkOk_by (N := nLaw) (sc := defScope sLaw) (by decide +kernel))
              (fun _ _ _ _ _ => pg_name (i := 4) scLaw.nd rfl (Or.inl rfl)) (fun _ _ _ _ _ => pts_nil)
              (fun _ _ _ _ _ => pe_tup (pa_cons (pe_op op_add_str pe_str (pe_callTy call_str_int (by rfl) T.str (by decide +kernel) (pa_cons (pv 4) pa_nil))) (pa_cons pe_str pa_nil)))) pa_nil))) pa_nil)) pa_nil)))) pss_nil)
        (pss_cons (ps_asg (pe_tup (pa_cons (pe_call cO.F hr2 (by rfl) cO.g cO.kp cO.b .nil pass0 (pa_cons (pv 1) (pa_cons (pe_lst (pa_cons pe_str (pa_cons pe_str (pa_cons pe_str (pa_cons pe_str (pa_cons pe_str (pa_cons pe_str (pa_cons pe_str (pa_cons pe_str (pa_cons pe_str (pa_cons pe_str pa_nil))))))))))) pa_nil)))
            (pa_cons (pe_call cW.F hr3 (by rfl) cW.g cW.kp cW.b .nil pass0 (pa_cons (pv 1) pa_nil)) pa_nil)))
          (pg_tup rfl (pgs_cons (pg_name (i := 5) scLaw.nd rfl (Or.inr rfl)) (pgs_cons (pg_name (i := 6) scLaw.nd rfl (Or.inl rfl)) pgs_nil))))
        (pss_cons (ps_if (pt_cmpR op_ne (pe_call cX.F hr5 (by rfl) cX.g cX.kp cX.b .nil pass0 (pa_cons (pv 3) (pa_cons (pv 5) pa_nil))) (pe_call cS.F hr1 (by rfl) cS.g cS.kp cS.b .nil pass0 (pa_cons (pv 3) (pa_cons (pv 5) pa_nil))) (nomark _)) (pss_one (ps_ret pe_bl)) pss_nil)
        (pss_cons (ps_set (i := 7) scLaw.nd rfl (Or.inl rfl) (pe_call cO.F hr2 (by rfl) cO.g cO.kp cO.b .nil pass0 (pa_cons (pv 1) (pa_cons (pe_lst (pa_cons pe_str (pa_cons pe_str (pa_cons pe_str (pa_cons pe_str (pa_cons pe_str (pa_cons pe_str (pa_cons pe_str pa_nil)))))))) pa_nil))))
        (pss_cut (ps_if (pt_cmpR (op_neD hn) (pe_call cN.F hr5 (by rfl) cN.g cN.kp cN.b .nil pass0 (pa_cons (pv 3) (pa_cons (pv 7) pa_nil))) (pe_call cL.F hr1 (by rfl) cL.g cL.kp cL.b .nil pass0 (pa_cons (pv 3) (pa_cons (pv 7) pa_nil))) (nomark _)) (pss_one (ps_ret pe_bl)) pss_nil)
        (pss_cut (ps_set (i := 8) scLaw.nd rfl (Or.inl rfl) (pe_call cD.F hr (by rfl) cD.g cD.kp cD.b .nil pass0 (pa_cons pe_int (pa_cons (pv 3) (pa_cons (pv 5) (pa_cons (pv 6) pa_nil))))))
        (pss_cut (ps_if (pt_cmpR (op_neD hn) (pv 8) (pe_call cU.F hr1 (by rfl) cU.g cU.kp cU.b .nil pass0 (pa_cons (pv 3) (pa_cons (pv 5) (pa_cons (pv 6) pa_nil)))) (nomark _)) (pss_one (ps_ret pe_bl)) pss_nil)
        (pss_cons (ps_set (i := 9) scLaw.nd rfl (Or.inl rfl) (pe_callTy call_tuple_of (by rfl) T.tup (by decide +kernel) (pa_cons (pe_lc (own := [("_law_file", 10)]) (g := gName 10) rfl scLaw.nd (pi_tup (pv 3)) (blkOk_by (N := nLaw) (sc := defScope sLaw) (by decide +kernel))
            (fun _ _ _ _ _ => pg_name (i := 10) scLaw.nd rfl (Or.inl rfl)) (fun _ _ _ _ _ => pts_one (pt_cmpR op_ne (pe_ix (r := rIxT K) ix_tup (pv 10) pe_int (fun _ _ => rfl)) (pv 5) (nomark _)))
            (fun _ _ _ _ _ => pv 10)) pa_nil)))
        (pss_cut (ps_if (pt_cmpR (op_neD hn) (pe_call cD.F hr (by rfl) cD.g cD.kp cD.b .nil pass0 (pa_cons pe_int (pa_cons (pv 3) (pa_cons (pv 5) (pa_cons (pv 6) pa_nil)))))
            (pe_ifExp (pt_cmpR op_lt (pe_callB call_len_seq (by rfl) T.len PySem.boot_len (pa_cons (pv 9) pa_nil)) (pe_callB call_len_seq (by rfl) T.len PySem.boot_len (pa_cons (pv 3) pa_nil)) (nomark _)) (pv 9) pe_str) (nomark _)) (pss_one (ps_ret pe_bl)) pss_nil)
        (pss_cons (ps_set (i := 11) scLaw.nd rfl (Or.inr rfl) (pe_call cTr.F hr4 (by rfl) cTr.g cTr.kp cTr.b .nil pass0 (pa_cons (pv 1) pa_nil)))
        (pss_cut (ps_set (i := 12) scLaw.nd rfl (Or.inl rfl) (pe_callB (cr_sortedX rfl) (by rfl) T.srt (by decide +kernel) (pa_cons (pe_callTy (cr_setX rfl) (by rfl) T.set_ (by decide +kernel) (pa_cons
            (pe_lc (own := [("_law_one_here", 13), ("_law_told", 14)]) (g := gTup K 2 (gCons (gName 13) (gCons (gName 14) gNil))) (tt := tYes) rfl scLaw.nd (pi_tup (pe_op op_catA (pv 3) (pv 11))) (blkOk_by (N := nLaw) (sc := defScope sLaw) (by decide +kernel))
              (fun _ _ _ _ _ => pg_tup rfl (pgs_cons (pg_name (i := 13) scLaw.nd rfl (Or.inl rfl)) (pgs_cons (pg_name (i := 14) scLaw.nd rfl (Or.inl rfl)) pgs_nil))) (fun _ _ _ _ _ => pts_nil) (fun _ _ _ _ _ => pv 13)) pa_nil)) pa_nil)))
        (pss_cons (ps_setLc (i := 15) (own := [("_law_one_here", 13)]) (g := gName 13) rfl scLaw.nd rfl rfl rfl (pi_list (pv 12)) (blkOk_by (N := nLaw) (sc := defScope sLaw) (by decide +kernel))
            (fun _ _ _ _ _ => pg_name (i := 13) scLaw.nd rfl (Or.inl rfl))
            (fun _ _ _ _ _ => pts_one (pt_cmpR op_ne (pe_call cS.F hr1 (by rfl) cS.g cS.kp cS.b .nil pass0 (pa_cons (pv 3) (pa_cons (pv 13) pa_nil))) (pe_call cS.F hr1 (by rfl) cS.g cS.kp cS.b .nil pass0 (pa_cons (pv 11) (pa_cons (pv 13) pa_nil))) (nomark _)))
            (fun _ _ _ _ _ => pv 13))
        (pss_one (ps_if (pw_or (pt_cmpR (op_neD hn) (pe_call cF.F hr5 (by rfl) cF.g cF.kp cF.b .nil pass0 (pa_cons (pv 3) (pa_cons (pv 11) pa_nil))) (pv 15) (nomark _))
            (pw_or1 (pt_cmpR (op_neD hn) (pe_call cF.F hr5 (by rfl) cF.g cF.kp cF.b .nil pass0 (pa_cons (pv 3) (pa_cons (pv 3) pa_nil))) (pe_lst pa_nil) (nomark _)))).pt (pss_one (ps_ret pe_bl)) pss_nil))))))))))))))))
      (pss_one (ps_ret pe_bl))), ?_⟩
    refine q_asgL (xs := rowL a 0 1001 0) (el_lst (ea_cons (ev_var rfl) (ea_cons ev_c (ea_cons ev_c (ea_cons ev_c ea_nil)))) (by show 4 ≤ 100000; decide)) fun r H1 hr0 e1 h1 => ?_
    have row1 : Row K H1 r := ⟨a, 0, 1001, 0, ns, h1, sc.ex e1, Int.le_refl _⟩
    refine ⟨5, rfl, by decide, by decide, for_range (lo := 0) (n := (5 : Int).toNat) (fun i τ G => ∃ (u2 u3 u5 u6 u7 u8 u9 u11 u12 u15 : Option V), τ = [some (.ref a), some (.ref r), u2, u3, none, u5, u6, u7, u8, u9, none, u11, u12, none, none, u15] ∧ Row K G r)
      ⟨none, none, none, none, none, none, none, none, none, none, rfl, row1⟩ ?_ (fun τ G _ => k G)⟩
    rintro i τ G0 hi ⟨u2, u3, u5, u6, u7, u8, u9, u11, u12, u15, rfl, row⟩
    -- a tree
    refine ⟨_, rfl, r, rfl, row, fun p fs G1 d1 hfree gt1 mem1 okw1 few1 => ?_⟩
    show tCut _ _ _ (At a r i (some (.ref p)) u5 u6 u7 u8 u9 u11 u12 u15) G1
    -- filled to twenty
    refine q_cut (M := fun σ' G => ∃ q gs, σ' = At a r i (some (.ref q)) u5 u6 u7 u8 u9 u11 u12 u15 ∧ GT G q gs ∧ (∀ f ∈ gs, f.1 ∈ allP) ∧ Row K G r) ?_ ?_
    · refine draw (m := 3) (ev_var rfl) ev_c d1.row (by decide) (by decide) fun n G2 hn0 hm d2 => ⟨rfl, _, rfl, ?_⟩
      have gt2 := GT.dr gt1 d1.row d2
      by_cases c : n = 0
      · subst c
        refine iteP (by rfl) ?_
        obtain ⟨xs, hx, pf, _⟩ := gt2.seq (K := K)
        have hlen := Bp.paired_len pf
        refine s_raw (cb_raw (cb_raw (op_raw ⟨_, rfl, cb_raw ?_⟩)))
        refine ⟨_, rfl, p, xs, rfl, .inr hx, 20, (xs.length : Int), rfl, rfl, 20 - (xs.length : Int), rfl, by omega, by omega, fun D hD => ?_⟩
        have hm20 : (20 - (xs.length : Int)).toNat ≤ 20 := by omega
        refine lc_range (lo := 0) (n := (20 - (xs.length : Int)).toNat) (fun n G => Ex G2 G ∧ ∃ bs : List V, G D = some (.lst bs) ∧ Paired (FileAt G) bs ((List.range n).map zF)) ⟨Ex.new hD, [], upd_same, .nil⟩ ?_ ?_
        · rintro n G hn1 ⟨eG, bs, hGD, pb⟩
          refine ⟨rfl, ?_⟩
          unfold tYes
          dsimp only
          rw [if_pos rfl]
          obtain ⟨z1, z2, z3, z4⟩ := z_ok n (List.mem_range.mpr (by omega))
          have lb := Bp.paired_len pb
          rw [List.length_map, List.length_range] at lb
          refine ⟨_, rfl, _, rfl, z4, _, _, rfl, rfl, sz_of (by omega), ?_⟩
          refine ⟨by show 2 ≤ sizeLine; decide, fun Tz hT => ?_⟩
          have eT := Ex.new (o := .tup [V.str (Str.ofString "z" ++ toString ((0 : Int) + (n : Nat))), V.str (Str.ofString "")]) hT
          refine ⟨bs, eT _ _ hGD, sz_lt (by omega), (eG.trans eT).mut hD, bs ++ [.ref Tz], upd_same, ?_⟩
          rw [List.range_succ, List.map_append]
          refine paired_append (paired_mono pb fun _ _ z => FileAt.updL (z.mono eT) (eT _ _ hGD)) (.cons ⟨Tz, rfl, ?_⟩ .nil)
          rw [upd_ne (ne_of_none hGD hT).symm, upd_same]
          rfl
        · rintro G3 ⟨e3, bs, hGD, pb⟩
          have lb := Bp.paired_len pb
          rw [List.length_map, List.length_range] at lb
          refine ⟨D, bs, rfl, .inl ⟨sq_of hGD, fun t1 ht1 => ?_⟩⟩
          have e4 := Ex.new (o := .tup bs) ht1
          have pfs : Paired (FileAt (upd G3 t1 (.tup bs))) (xs ++ bs) (fs ++ (List.range (20 - (xs.length : Int)).toNat).map zF) := paired_append (paired_mono pf fun _ _ z => z.mono (e3.trans e4)) (paired_mono pb fun _ _ z => z.mono e4)
          refine cat_go (ex_t (e3.trans e4) hx) (st_of upd_same) (by omega) fun c G5 e5 hc => ?_
          obtain ⟨ps, eps1, eps2, eps3⟩ := zip_of (paired_mono pfs fun _ _ z => z.mono e5)
          have okz : ∀ g ∈ fs ++ (List.range (20 - (xs.length : Int)).toNat).map zF, g.1 ∈ allP ∧ okW g.2 := by
            intro g hg
            rcases List.mem_append.mp hg with hg | hg
            · exact ⟨ps_sub _ (mem1 g hg), okw1 g hg⟩
            · obtain ⟨n, hn1, rfl⟩ := List.mem_map.mp hg
              exact ⟨(z_ok n (List.mem_range.mpr (by have := List.mem_range.mp hn1; omega))).1, okW_nil⟩
          refine sortF_go (Sq := SqT K) (ps := ps) (by rw [eps1]; exact hc) (fun z hz => eps3 z hz) ?_ (fun q ys gs hq hly pr as mem => ?_)
          · have e6 : ps.map (·.2.1) = (fs ++ (List.range (20 - (xs.length : Int)).toNat).map zF).map (·.1) := by rw [← eps2, List.map_map]; rfl
            rw [e6, List.map_append]
            refine List.nodup_append.mpr ⟨gt2.2.nodupP, ?_, fun x hx1 y hy1 => ?_⟩
            · rw [List.map_map]
              exact z_nodup.sublist ((List.range_sublist.mpr hm20).map _)
            · obtain ⟨f, hf, rfl⟩ := List.mem_map.mp hx1
              obtain ⟨g, hg, rfl⟩ := List.mem_map.mp hy1
              obtain ⟨n, hn1, rfl⟩ := List.mem_map.mp hg
              intro z
              exact (z_ok n (List.mem_range.mpr (by have := List.mem_range.mp hn1; omega))).2.1 (by rw [← z]; exact mem1 f hf)
          · refine ⟨q, ys, rfl, sq_of upd_same, fun l o hl hpl => ?_⟩
            have eq7 := (Ex.new (o := .lst ys) hq).trans (Ex.new (o := .frz o (.tup ys)) hl)
            have memg : ∀ g ∈ gs, g.1 ∈ allP ∧ okW g.2 := fun g hg => by
              obtain ⟨z, hz, rfl⟩ := (mem g).mp hg
              exact okz z.2 (by rw [← eps2]; exact List.mem_map.mpr ⟨z, hz, rfl⟩)
            have lps : gs.length ≤ 20 := by
              have l1 := Bp.paired_len pr
              have l2 := congrArg List.length eps2
              rw [List.length_map, List.length_append, List.length_map, List.length_range] at l2
              omega
            exact ⟨l, gs, rfl, ⟨⟨o, ys, upd_same, hpl, paired_mono pr fun _ _ z => z.mono eq7⟩, gf_of as (fun g hg => (memg g hg).1) (fun g hg => (memg g hg).2) lps⟩, fun g hg => (memg g hg).1, d2.row.ex ((e3.trans e4).trans (e5.trans eq7))⟩
      · refine iteN (by simpa using c) ?_
        exact ⟨p, fs, rfl, gt2, fun f hf => ps_sub _ (mem1 f hf), d2.row⟩
    rintro σ' G2 ⟨p2, gs, rfl, gt2, hP2, row2⟩
    have few2 := gt2.2.few
    clear d1 hfree gt1 mem1 okw1 few1 row
    -- a path, words
    refine seq_raw (asg_raw (tup_raw (cons_raw (drawS (xs := allQ) (ev_var rfl) row2 (by decide) (by decide) fun pa G3 hpa d3 => cons_raw ?_))))
    refine ⟨_, rfl, r, rfl, d3.row, fun tx G4 htx d4 => ?_⟩
    refine ⟨by show 2 ≤ sizeLine; decide, fun T0 hT0 => ?_⟩
    refine ⟨T0, [.str pa, .str tx], rfl, SqT.of upd_same, rfl, ?_⟩
    refine ⟨_, _, rfl, _, _, rfl, rfl, ?_⟩
    have gt5 : GT (upd G4 T0 (.tup [.str pa, .str tx])) p2 gs := (GT.dr (GT.dr gt2 row2 d3) d3.row d4).mono (Ex.new hT0)
    have row5 : Row K (upd G4 T0 (.tup [.str pa, .str tx])) r := d4.row.ex (Ex.new hT0)
    generalize upd G4 T0 (.tup [.str pa, .str tx]) = G5 at gt5 row5 ⊢
    clear d3 d4 gt2 row2 hT0
    obtain ⟨pp, pl, _⟩ := due_ok pa hpa
    obtain ⟨tl1, tl2, tl3⟩ := htx
    show tSeq _ _ _ (At a r i (some (.ref p2)) (some (.str pa)) (some (.str tx)) u7 u8 u9 u11 u12 u15) G5
    -- its text
    refine q_when (b := false) (et_is (et_test (ev_op (ev_call (z := textOf gs pa) (ea_cons (ev_var rfl) (ea_cons (ev_var rfl) ea_nil)) fun H1 e1 Q' q' E' => ⟨p2, gs, pa, rfl, gt5.mono e1, pp, by omega, q'⟩)
      (ev_call (z := textOf gs pa) (ea_cons (ev_var rfl) (ea_cons (ev_var rfl) ea_nil)) fun H1 e1 Q' q' E' => ⟨p2, gs, pa, rfl, gt5.mono e1, q'⟩) (rv_ne (textOf_scal gs gs pa)))) (by simp)) (fun z => by cases z) (fun _ G6 e6 => ?_)
    have gt6 := gt5.mono e6
    have row6 := row5.ex e6
    clear gt5 row5
    refine q_raw (drawS (xs := allF) (ev_var rfl) row6 (by decide) (by decide) fun fo G7 hfo d7 => ?_)
    have gt7 := GT.dr gt6 row6 d7
    have row7 := d7.row
    clear gt6 row6
    show tCut _ _ _ (At a r i (some (.ref p2)) (some (.str pa)) (some (.str tx)) (some (.str fo)) u8 u9 u11 u12 u15) G7
    -- names
    refine q_cut (M := fun σ' G => σ' = At a r i (some (.ref p2)) (some (.str pa)) (some (.str tx)) (some (.str fo)) u8 u9 u11 u12 u15 ∧ Ex G7 G) ?_ ?_
    · refine ⟨_, rfl, _, rfl, p2, gs, fo, rfl, gt7, hP2, hfo, fun ys t G8 so nd mem e8 h8 => ⟨_, rfl, _, rfl, p2, gs, fo, rfl, gt7.mono e8, hP2, hfo, fun zs t2 G9 so2 nd2 mem2 e9 h9 => ?_⟩⟩
      have ez : zs = ys := ascS_ext (asc_names so2 nd2) (asc_names so nd) fun g => (mem2 g).trans (mem g).symm
      subst ez
      have sh := sh_strsT (zs := zs) fun z hz => by
        obtain ⟨f, hf, rfl⟩ := List.mem_map.mp ((mem z).mp hz)
        exact nm_str f.1 (hP2 f ((List.mem_filter.mp hf).1)) fo hfo
      refine ⟨_, _, .tup (st_of (e9 _ _ h8)) (dp_strs _ _), .tup (st_of h9) (dp_strs _ _), sh, sh, _, rfl, ?_⟩
      rw [eq_self sh]
      exact iteF ⟨rfl, e8.trans e9⟩
    rintro σ' G8 ⟨rfl, e8⟩
    have gt8 := gt7.mono e8
    have row8 := row7.ex e8
    clear gt7 row7 d7 e8 e6
    -- put
    refine q_cut (M := fun σ' G => ∃ v, σ' = At a r i (some (.ref p2)) (some (.str pa)) (some (.str tx)) (some (.str fo)) (some v) u9 u11 u12 u15 ∧ Ex G8 G ∧ PutV gs pa tx v G) ?_ ?_
    · exact ⟨_, rfl, _, rfl, _, rfl, 0, p2, gs, pa, tx, rfl, gt8, pp, by omega, tl2, by omega, .inl ⟨rfl, putQ_of fun v G e hv => ⟨v, rfl, e, hv⟩⟩⟩
    rintro σ' G9 ⟨v8, rfl, e9, pv9⟩
    have gt9 := gt8.mono e9
    have row9 := row8.ex e9
    clear gt8 row8 e9
    have okf : ∀ f ∈ gs, PyData.strOk f.1 = true ∧ PyData.strOk f.2 = true := fun f hf => (gt9.2.ok f hf).1.2.2
    refine q_cut (M := fun σ' G => σ' = At a r i (some (.ref p2)) (some (.str pa)) (some (.str tx)) (some (.str fo)) (some v8) u9 u11 u12 u15 ∧ Ex G9 G) ?_ ?_
    · refine ⟨_, rfl, _, rfl, _, rfl, _, rfl, p2, gs, pa, tx, rfl, gt9, hP2, hpa, putQ_of fun u G e hu => ?_⟩
      obtain ⟨d, da, db, sh⟩ := put_same (K := K) (pv9.mono e) hu (q_str pa hpa) tl3 okf
      refine ⟨d, d, da, db, sh, sh, _, rfl, ?_⟩
      rw [eq_self sh]
      exact iteF ⟨rfl, e⟩
    rintro σ' G10 ⟨rfl, e10⟩
    have gt10 := gt9.mono e10
    have row10 := row9.ex e10
    clear gt9 row9 e10 pv9
    -- less
    obtain ⟨xs, hx, pf, _⟩ := gt10.seq (K := K)
    have hlen := Bp.paired_len pf
    have big := el_fT (K := K) (σ := At a r i (some (.ref p2)) (some (.str pa)) (some (.str tx)) (some (.str fo)) (some v8) u9 u11 u12 u15) (H := G10) (j := 10) (tl := tVar 3) (tt := tTest (tOp rNe (tOp (rIxT K) (tVar 10) (tC (.int 0))) (tVar 5))) (te := tVar 10)
      (kpF G10 pa) id (ev_var (i := 3) (v := .ref p2) rfl) hx (by omega)
      (fun x H4 e4 hm => by
        obtain ⟨f, hf, c, rfl, hc⟩ := Bp.paired_mem pf hm
        unfold kpF
        simp only [hc]
        refine et_is (et_test (ev_op (ev_op (ev_var rfl) ev_c (rv_ixT (st_of (e4 _ _ hc)) rfl)) (ev_var rfl) (rv_ne rfl))) ?_
        congr 1
        exact decide_eq_decide.mpr ⟨fun h => by injection h, fun h => by rw [h]⟩)
      (fun x H4 e4 hm hk => ev_var rfl)
    have fm := fil_files (p := pa) pf
    rw [← List.map_id (List.filter _ xs)] at fm
    refine q_raw (cb_raw (big G10 (Ex.refl _) _ fun l1 G11 hl1 e11 h11 => ⟨l1, _, rfl, .inl ⟨sq_of h11, fun t1 ht1 => ?_⟩⟩))
    generalize List.map id (List.filter (kpF G10 pa) xs) = ls at fm h11 ⊢
    have e12 := e11.trans (Ex.new (o := .tup ls) ht1)
    have h12 : (upd G11 t1 (.tup ls)) t1 = some (.tup ls) := upd_same
    have gt12 := gt10.mono e12
    have row12 := row10.ex e12
    have hx12 := ex_t e12 hx
    have fm12 : Paired (FileAt (upd G11 t1 (.tup ls))) ls (Bp.without gs pa) := paired_mono fm fun _ _ z => z.mono e12
    clear big fm pf
    generalize upd G11 t1 (.tup ls) = G12 at h12 gt12 row12 hx12 fm12 ⊢
    have lls := Bp.paired_len fm12
    show tCut _ _ _ (At a r i (some (.ref p2)) (some (.str pa)) (some (.str tx)) (some (.str fo)) (some v8) (some (.ref t1)) u11 u12 u15) G12
    refine q_cut (M := fun σ' G => σ' = At a r i (some (.ref p2)) (some (.str pa)) (some (.str tx)) (some (.str fo)) (some v8) (some (.ref t1)) u11 u12 u15 ∧ Ex G12 G) ?_ ?_
    · refine ⟨_, rfl, _, rfl, _, rfl, 1, p2, gs, pa, tx, rfl, gt12, pp, by omega, tl2, by omega, .inr ⟨rfl, takQ_of fun v G e hv => ?_⟩⟩
      refine ev_if (v := if hasP gs pa = true then .ref t1 else .str (Str.ofString "absent")) (b := hasP gs pa) (et_is (et_test (ev_op (ev_lenT (ev_var (i := 9) rfl) (st_of (e _ _ h12))) (ev_lenT (ev_var (i := 3) rfl) (ex_t e hx12)) rv_I0)) ?_) (fun h => ev_is (ev_var (i := 9) rfl) ?_) (fun h => ev_is ev_c ?_) G (Ex.refl _) _ fun G13 e13 => ?_
      · rw [without_len]
        exact decide_eq_decide.mpr (by omega)
      · rw [if_pos h]
      · rw [h, if_neg (by decide)]
      · rcases hv with ⟨hh, t, ys, rfl, ht, pr⟩ | ⟨hh, rfl⟩
        · rw [if_pos hh]
          have sh := sh_files (fs := Bp.without gs pa) fun f hf => okf f ((List.mem_filter.mp hf).1)
          refine ⟨_, _, .tup (st_of (e13 _ _ ht)) (dp_files (paired_mono pr fun _ _ z => z.mono e13)), .tup (st_of ((e.trans e13) _ _ h12)) (dp_files (paired_mono fm12 fun _ _ z => z.mono (e.trans e13))), sh, sh, _, rfl, ?_⟩
          rw [eq_self sh]
          exact iteF ⟨rfl, e.trans e13⟩
        · rw [if_neg (by rw [hh]; decide)]
          have sh := sh_str (x := Str.ofString "absent") (by decide +kernel)
          refine ⟨_, _, .str _, .str _, sh, sh, _, rfl, ?_⟩
          rw [eq_self sh]
          exact iteF ⟨rfl, e.trans e13⟩
    rintro σ' G13 ⟨rfl, e13⟩
    have gt13 := gt12.mono e13
    have row13 := row12.ex e13
    clear gt12 row12 hx12 fm12 h12 e13 e12 gt10 row10 hx
    -- another tree
    refine ⟨_, rfl, r, rfl, row13, fun p3 hs G14 d14 hfree gu14 mem3 okw3 few3 => ?_⟩
    have gt14 := GT.dr gt13 row13 d14
    have row14 := d14.row
    show tCut _ _ _ (At a r i (some (.ref p2)) (some (.str pa)) (some (.str tx)) (some (.str fo)) (some v8) (some (.ref t1)) (some (.ref p3)) u12 u15) G14
    refine q_cut (M := fun σ' G => ∃ l ys, σ' = At a r i (some (.ref p2)) (some (.str pa)) (some (.str tx)) (some (.str fo)) (some v8) (some (.ref t1)) (some (.ref p3)) (some (.ref l)) u15 ∧ Ex G14 G ∧ G l = some (.lst (ys.map V.str)) ∧ AscS ys ∧ ∀ y, y ∈ ys ↔ (∃ f ∈ gs, f.1 = y) ∨ ∃ g ∈ hs, g.1 = y) ?_ ?_
    · obtain ⟨xa, ha, pa1, _⟩ := gt14.seq (K := K)
      obtain ⟨xb, hb, pb1, _⟩ := gu14.seq (K := K)
      have la := Bp.paired_len pa1
      have lb := Bp.paired_len pb1
      refine s_raw (cb_raw (cb_raw (lc_tup_raw (op_raw ⟨_, rfl, _, rfl, ?_⟩))))
      refine cat_go ha hb (by omega) fun c G15 e15 hc => ?_
      refine el_lcF (K := K) (i := 13) (j := 14) (fs := gs ++ hs) (fun _ => true) (fun f => .str f.1) (by decide) ev_c hc (paired_append (paired_mono pa1 fun _ _ z => z.mono e15) (paired_mono pb1 fun _ _ z => z.mono e15)) (by rw [List.length_append]; omega) (fun f H1 e1 hf => et_yes) (fun f H1 e1 hf _ => ev_var rfl) G15 (Ex.refl _) _ fun l G16 hl e16 h16 => ?_
      rw [List.filter_eq_self.mpr (fun _ _ => rfl)] at h16
      refine ⟨l, (gs ++ hs).map (·.1), rfl, sq_of (by rw [h16, List.map_map]; rfl), by rw [List.length_map, List.length_append]; omega, fun S hS => ⟨S, _, rfl, upd_same, by rw [List.length_map, List.length_append]; omega, fun ys l4 so nd mem hl4 => ⟨l4, ys, rfl, (e15.trans e16).trans ((Ex.new hS).trans (Ex.new hl4)), upd_same, asc_names so nd, fun y => ?_⟩⟩⟩
      rw [mem, List.map_append, List.mem_append, List.mem_map, List.mem_map]
    rintro σ' G17 ⟨l, ys, rfl, e17, hl, as, mem⟩
    have gt17 := gt14.mono e17
    have gu17 := gu14.mono e17
    have row17 := row14.ex e17
    clear gt14 gu14 row14 d14 gt13 row13 e17
    have hys : ys.length ≤ 40 := by
      have h := len_sub (l := gs.map (·.1) ++ hs.map (·.1)) as.nodup fun y hy => by
        rw [List.mem_append, List.mem_map, List.mem_map]
        exact (mem y).mp hy
      rw [List.length_append, List.length_map, List.length_map] at h
      omega
    refine q_asgL (xs := (ys.filter (difB gs hs)).map V.str) (ev_isL (el_fL (K := K) (j := 13) (fun v => match v with | .str y => difB gs hs y | _ => false) id (ev_var (i := 12) (v := .ref l) rfl) (sq_of hl) (by rw [List.length_map]; omega) (fun x H6 e6 hx6 => ?_) (fun x H6 e6 hx6 hk => ev_var rfl)) ?_) fun l5 G18 hl5 e18 h18 => ?_
    · obtain ⟨y, hy, rfl⟩ := List.mem_map.mp hx6
      exact et_test (ev_op (ev_call (z := textOf gs y) (ea_cons (ev_var rfl) (ea_cons (ev_var rfl) ea_nil)) fun H1 e1 Q' q' E' => ⟨p2, gs, y, rfl, gt17.mono (e6.trans e1), q'⟩)
        (ev_call (z := textOf hs y) (ea_cons (ev_var rfl) (ea_cons (ev_var rfl) ea_nil)) fun H1 e1 Q' q' E' => ⟨p3, hs, y, rfl, gu17.mono (e6.trans e1), q'⟩) (rv_ne (textOf_scal _ _ _)))
    · rw [List.map_id, List.filter_map]
      rfl
    have gt18 := gt17.mono e18
    have gu18 := gu17.mono e18
    have row18 := row17.ex e18
    clear gt17 gu17 row17 e18 hl
    -- differing
    refine ⟨_, rfl, _, rfl, p2, p3, gs, hs, rfl, gt18, gu18, fun zs l6 G19 as2 mem2 e19 h19 => ⟨_, rfl, ?_⟩⟩
    have ez : zs = ys := ascS_ext as2 as fun g => (mem2 g).trans (mem g).symm
    subst ez
    have sh := sh_strsL (zs := zs.filter (difB gs hs)) fun z hz => by
      rcases (mem z).mp ((List.mem_filter.mp hz).1) with ⟨f, hf, rfl⟩ | ⟨f, hf, rfl⟩
      · exact (gt18.2.ok f hf).1.2.2.1
      · exact (gu18.2.ok f hf).1.2.2.1
    refine ⟨_, _, .lst (sq_of h19) (dp_strs _ _), .lst (sq_of (e19 _ _ h18)) (dp_strs _ _), sh, sh, _, rfl, ?_⟩
    rw [eq_self sh]
    refine iteF ?_
    refine ⟨_, rfl, _, rfl, p2, p2, gs, gs, rfl, gt18.mono e19, gt18.mono e19, fun zs2 l7 G20 as3 mem4 e20 h20 => ⟨by show 0 ≤ sizeLine; decide, fun l8 hl8 => ?_⟩⟩
    have none2 : zs2.filter (difB gs gs) = [] := List.filter_eq_nil_iff.mpr fun y _ => by rw [difB_self]; decide
    rw [none2] at h20
    have e21 := Ex.new (o := .lst []) hl8
    have sh0 := sh_strsL (zs := []) fun z hz => by cases hz
    refine ⟨_, _, .lst (sq_of (e21 _ _ h20)) (dp_strs _ []), .lst (sq_of upd_same) (dp_strs _ []), sh0, sh0, _, rfl, ?_⟩
    rw [eq_self sh0]
    refine iteF ?_
    exact ⟨_, _, _, _, _, _, _, _, _, _, rfl, row18.ex ((e19.trans e20).trans e21)⟩
end
end Bl
namespace Bl
open PySem PySem.Spec PyProof.Rows L2 Bk Bm Evl Be Kr Ks Bp TL
theorem exm_at {K : PySem.W.Frag} {S T : Addr} {b : Bool} (h1 : PySem.W.subIn K (.ref T) (.type "BaseException") = some true) (h2 : PySem.W.isClsIn K T = true) (h3 : PySem.W.typeIn K (.ref T) = some (.type "type")) (h4 : PySem.W.subIn K (.ref S) (.ref T) = some b) :
    PySem.W.exmOne K (.ref S) (.ref T) = some b := by
  have e1 : (PySem.W.subIn K (.ref T) (.type "BaseException") == some true) = true := by
    rw [h1]
    rfl
  have e2 : ((PySem.W.clsIn K T).isSome && PySem.W.typeIn K (.ref T) == some (.type "type")) = true := by
    have h2' : (PySem.W.clsIn K T).isSome = true := h2
    rw [h2', h3]
    rfl
  show (if (PySem.W.subIn K (.ref T) (.type "BaseException") == some true) = true then (if ((PySem.W.clsIn K T).isSome && PySem.W.typeIn K (.ref T) == some (.type "type")) = true then PySem.W.subIn K (.ref S) (.ref T) else none) else none) = some b
  rw [if_pos e1, if_pos e2]
  exact h4
section
variable {l : PySem.W.OpenLaw} {w : World} {K : PySem.W.Frag} {h : Heap} {mg : Str → Option Value}
theorem all_mk {fa Cp Co Cw Cc Cf Ca fHS fNB fAP f0 f1 f2 f3 f4 f5 f6 f7 f8 f9 f10 f11 f12 f13 f14 f15 f16 f17 f18 f19 f20 f21 f22 f23 f24 f25 : Addr} {odHS anHS odNB anNB odAP anAP od0 an0 od1 an1 od2 an2 od3 an3 od4 an4 od5 an5 od6 an6 od7 an7 od8 an8 od9 an9 od10 an10 od11 an11 od12 an12 od13 an13 od14 an14 od15 an15 od16 an16 od17 an17 od18 an18 od19 an19 od20 an20 od21 an21 od22 an22 od23 an23 od24 an24 od25 an25 : Option Addr} {slHS slNB slAP sl0 sl1 sl2 sl3 sl4 sl5 sl6 sl7 sl8 sl9 sl10 sl11 sl12 sl13 sl14 sl15 sl16 sl17 sl18 sl19 sl20 sl21 sl22 sl23 sl24 sl25 : Array (Option Value)} {ocHS kVHS dcHS pmHS cdHS ctHS ocNB kVNB dcNB pmNB cdNB ctNB ocAP kVAP dcAP pmAP cdAP ctAP oc0 kV0 dc0 pm0 cd0 ct0 oc1 kV1 dc1 pm1 cd1 ct1 oc2 kV2 dc2 pm2 cd2 ct2 oc3 kV3 dc3 pm3 cd3 ct3 oc4 kV4 dc4 pm4 cd4 ct4 oc5 kV5 dc5 pm5 cd5 ct5 oc6 kV6 dc6 pm6 cd6 ct6 oc7 kV7 dc7 pm7 cd7 ct7 oc8 kV8 dc8 pm8 cd8 ct8 oc9 kV9 dc9 pm9 cd9 ct9 oc10 kV10 dc10 pm10 cd10 ct10 oc11 kV11 dc11 pm11 cd11 ct11 oc12 kV12 dc12 pm12 cd12 ct12 oc13 kV13 dc13 pm13 cd13 ct13 oc14 kV14 dc14 pm14 cd14 ct14 oc15 kV15 dc15 pm15 cd15 ct15 oc16 kV16 dc16 pm16 cd16 ct16 oc17 kV17 dc17 pm17 cd17 ct17 oc18 kV18 dc18 pm18 cd18 ct18 oc19 kV19 dc19 pm19 cd19 ct19 oc20 kV20 dc20 pm20 cd20 ct20 oc21 kV21 dc21 pm21 cd21 ct21 oc22 kV22 dc22 pm22 cd22 ct22 oc23 kV23 dc23 pm23 cd23 ct23 oc24 kV24 dc24 pm24 cd24 ct24 oc25 kV25 dc25 pm25 cd25 ct25 : Value} {tk0 tk1 tk2 tk3 : Tok} (X : K.In h) (G : h.Ns mainGlobals mg) (hfa : mg "law" = some (.ref fa))
    (aHS : PySem.W.nsIn K mainGlobals "has_signs" = some (some (.ref fHS)))
    (lHS : K.lookup fHS = some ⟨ocHS, odHS, .func (PySem.W.fnOf "has_signs" "has_signs" (defArgs sHas) (defBody sHas) (defScope sHas) .none kVHS dcHS pmHS anHS cdHS ctHS), slHS⟩)
    (cHS : PySem.W.codeIn K cdHS "has_signs" = true)
    (kHS : PySem.W.keepIn K (.ref fHS) = true)
    (aNB : PySem.W.nsIn K mainGlobals "names_behind" = some (some (.ref fNB)))
    (lNB : K.lookup fNB = some ⟨ocNB, odNB, .func (PySem.W.fnOf "names_behind" "names_behind" (defArgs sBehind) (defBody sBehind) (defScope sBehind) .none kVNB dcNB pmNB anNB cdNB ctNB), slNB⟩)
    (cNB : PySem.W.codeIn K cdNB "names_behind" = true)
    (kNB : PySem.W.keepIn K (.ref fNB) = true)
    (aAP : PySem.W.nsIn K mainGlobals "ascending_pairs" = some (some (.ref fAP)))
    (lAP : K.lookup fAP = some ⟨ocAP, odAP, .func (PySem.W.fnOf "ascending_pairs" "ascending_pairs" (defArgs sAsc) (defBody sAsc) (defScope sAsc) .none kVAP dcAP pmAP anAP cdAP ctAP), slAP⟩)
    (cAP : PySem.W.codeIn K cdAP "ascending_pairs" = true)
    (kAP : PySem.W.keepIn K (.ref fAP) = true)
    (a0 : PySem.W.nsIn K mainGlobals "is_name" = some (some (.ref f0)))
    (l0 : K.lookup f0 = some ⟨oc0, od0, .func (PySem.W.fnOf "is_name" "is_name" (defArgs sIsName) (defBody sIsName) (defScope sIsName) .none kV0 dc0 pm0 an0 cd0 ct0), sl0⟩)
    (c0 : PySem.W.codeIn K cd0 "is_name" = true)
    (k0 : PySem.W.keepIn K (.ref f0) = true)
    (a1 : PySem.W.nsIn K mainGlobals "is_path" = some (some (.ref f1)))
    (l1 : K.lookup f1 = some ⟨oc1, od1, .func (PySem.W.fnOf "is_path" "is_path" (defArgs sIsPath) (defBody sIsPath) (defScope sIsPath) .none kV1 dc1 pm1 an1 cd1 ct1), sl1⟩)
    (c1 : PySem.W.codeIn K cd1 "is_path" = true)
    (k1 : PySem.W.keepIn K (.ref f1) = true)
    (a2 : PySem.W.nsIn K mainGlobals "is_folder" = some (some (.ref f2)))
    (l2 : K.lookup f2 = some ⟨oc2, od2, .func (PySem.W.fnOf "is_folder" "is_folder" (defArgs sIsFolder) (defBody sIsFolder) (defScope sIsFolder) .none kV2 dc2 pm2 an2 cd2 ct2), sl2⟩)
    (c2 : PySem.W.codeIn K cd2 "is_folder" = true)
    (k2 : PySem.W.keepIn K (.ref f2) = true)
    (a3 : PySem.W.nsIn K mainGlobals "is_text" = some (some (.ref f3)))
    (l3 : K.lookup f3 = some ⟨oc3, od3, .func (PySem.W.fnOf "is_text" "is_text" (defArgs sIsText) (defBody sIsText) (defScope sIsText) .none kV3 dc3 pm3 an3 cd3 ct3), sl3⟩)
    (c3 : PySem.W.codeIn K cd3 "is_text" = true)
    (k3 : PySem.W.keepIn K (.ref f3) = true)
    (a4 : PySem.W.nsIn K mainGlobals "is_file" = some (some (.ref f4)))
    (l4 : K.lookup f4 = some ⟨oc4, od4, .func (PySem.W.fnOf "is_file" "is_file" (defArgs sIsFile) (defBody sIsFile) (defScope sIsFile) .none kV4 dc4 pm4 an4 cd4 ct4), sl4⟩)
    (c4 : PySem.W.codeIn K cd4 "is_file" = true)
    (k4 : PySem.W.keepIn K (.ref f4) = true)
    (a5 : PySem.W.nsIn K mainGlobals "lies_within" = some (some (.ref f5)))
    (l5 : K.lookup f5 = some ⟨oc5, od5, .func (PySem.W.fnOf "lies_within" "lies_within" (defArgs sLies) (defBody sLies) (defScope sLies) .none kV5 dc5 pm5 an5 cd5 ct5), sl5⟩)
    (c5 : PySem.W.codeIn K cd5 "lies_within" = true)
    (k5 : PySem.W.keepIn K (.ref f5) = true)
    (a6 : PySem.W.nsIn K mainGlobals "in_the_way" = some (some (.ref f6)))
    (l6 : K.lookup f6 = some ⟨oc6, od6, .func (PySem.W.fnOf "in_the_way" "in_the_way" (defArgs sWay) (defBody sWay) (defScope sWay) .none kV6 dc6 pm6 an6 cd6 ct6), sl6⟩)
    (c6 : PySem.W.codeIn K cd6 "in_the_way" = true)
    (k6 : PySem.W.keepIn K (.ref f6) = true)
    (a7 : PySem.W.nsIn K mainGlobals "may_follow" = some (some (.ref f7)))
    (l7 : K.lookup f7 = some ⟨oc7, od7, .func (PySem.W.fnOf "may_follow" "may_follow" (defArgs sFollow) (defBody sFollow) (defScope sFollow) .none kV7 dc7 pm7 an7 cd7 ct7), sl7⟩)
    (c7 : PySem.W.codeIn K cd7 "may_follow" = true)
    (k7 : PySem.W.keepIn K (.ref f7) = true)
    (a8 : PySem.W.nsIn K mainGlobals "check_path" = some (some (.ref f8)))
    (l8 : K.lookup f8 = some ⟨oc8, od8, .func (PySem.W.fnOf "check_path" "check_path" (defArgs sCkPath) (defBody sCkPath) (defScope sCkPath) .none kV8 dc8 pm8 an8 cd8 ct8), sl8⟩)
    (c8 : PySem.W.codeIn K cd8 "check_path" = true)
    (k8 : PySem.W.keepIn K (.ref f8) = true)
    (a9 : PySem.W.nsIn K mainGlobals "check_folder" = some (some (.ref f9)))
    (l9 : K.lookup f9 = some ⟨oc9, od9, .func (PySem.W.fnOf "check_folder" "check_folder" (defArgs sCkFolder) (defBody sCkFolder) (defScope sCkFolder) .none kV9 dc9 pm9 an9 cd9 ct9), sl9⟩)
    (c9 : PySem.W.codeIn K cd9 "check_folder" = true)
    (k9 : PySem.W.keepIn K (.ref f9) = true)
    (a10 : PySem.W.nsIn K mainGlobals "check_words" = some (some (.ref f10)))
    (l10 : K.lookup f10 = some ⟨oc10, od10, .func (PySem.W.fnOf "check_words" "check_words" (defArgs sCkWords) (defBody sCkWords) (defScope sCkWords) .none kV10 dc10 pm10 an10 cd10 ct10), sl10⟩)
    (c10 : PySem.W.codeIn K cd10 "check_words" = true)
    (k10 : PySem.W.keepIn K (.ref f10) = true)
    (a11 : PySem.W.nsIn K mainGlobals "check_tree" = some (some (.ref f11)))
    (l11 : K.lookup f11 = some ⟨oc11, od11, .func (PySem.W.fnOf "check_tree" "check_tree" (defArgs sCkTree) (defBody sCkTree) (defScope sCkTree) .none kV11 dc11 pm11 an11 cd11 ct11), sl11⟩)
    (c11 : PySem.W.codeIn K cd11 "check_tree" = true)
    (k11 : PySem.W.keepIn K (.ref f11) = true)
    (a12 : PySem.W.nsIn K mainGlobals "text_at" = some (some (.ref f12)))
    (l12 : K.lookup f12 = some ⟨oc12, od12, .func (PySem.W.fnOf "text_at" "text_at" (defArgs sTextAt) (defBody sTextAt) (defScope sTextAt) .none kV12 dc12 pm12 an12 cd12 ct12), sl12⟩)
    (c12 : PySem.W.codeIn K cd12 "text_at" = true)
    (k12 : PySem.W.keepIn K (.ref f12) = true)
    (a13 : PySem.W.nsIn K mainGlobals "names_in" = some (some (.ref f13)))
    (l13 : K.lookup f13 = some ⟨oc13, od13, .func (PySem.W.fnOf "names_in" "names_in" (defArgs sNamesIn) (defBody sNamesIn) (defScope sNamesIn) .none kV13 dc13 pm13 an13 cd13 ct13), sl13⟩)
    (c13 : PySem.W.codeIn K cd13 "names_in" = true)
    (k13 : PySem.W.keepIn K (.ref f13) = true)
    (a14 : PySem.W.nsIn K mainGlobals "put" = some (some (.ref f14)))
    (l14 : K.lookup f14 = some ⟨oc14, od14, .func (PySem.W.fnOf "put" "put" (defArgs sPut) (defBody sPut) (defScope sPut) .none kV14 dc14 pm14 an14 cd14 ct14), sl14⟩)
    (c14 : PySem.W.codeIn K cd14 "put" = true)
    (k14 : PySem.W.keepIn K (.ref f14) = true)
    (a15 : PySem.W.nsIn K mainGlobals "taken" = some (some (.ref f15)))
    (l15 : K.lookup f15 = some ⟨oc15, od15, .func (PySem.W.fnOf "taken" "taken" (defArgs Bp.sTaken) (defBody Bp.sTaken) (defScope Bp.sTaken) .none kV15 dc15 pm15 an15 cd15 ct15), sl15⟩)
    (c15 : PySem.W.codeIn K cd15 "taken" = true)
    (k15 : PySem.W.keepIn K (.ref f15) = true)
    (a16 : PySem.W.nsIn K mainGlobals "differing" = some (some (.ref f16)))
    (l16 : K.lookup f16 = some ⟨oc16, od16, .func (PySem.W.fnOf "differing" "differing" (defArgs sDiffering) (defBody sDiffering) (defScope sDiffering) .none kV16 dc16 pm16 an16 cd16 ct16), sl16⟩)
    (c16 : PySem.W.codeIn K cd16 "differing" = true)
    (k16 : PySem.W.keepIn K (.ref f16) = true)
    (a17 : PySem.W.nsIn K mainGlobals "_law_taken" = some (some (.ref f17)))
    (l17 : K.lookup f17 = some ⟨oc17, od17, .func (PySem.W.fnOf "_law_taken" "_law_taken" (defArgs Bl.sTaken) (defBody Bl.sTaken) (defScope Bl.sTaken) .none kV17 dc17 pm17 an17 cd17 ct17), sl17⟩)
    (c17 : PySem.W.codeIn K cd17 "_law_taken" = true)
    (k17 : PySem.W.keepIn K (.ref f17) = true)
    (a18 : PySem.W.nsIn K mainGlobals "_law_one" = some (some (.ref f18)))
    (l18 : K.lookup f18 = some ⟨oc18, od18, .func (PySem.W.fnOf "_law_one" "_law_one" (defArgs sOne) (defBody sOne) (defScope sOne) .none kV18 dc18 pm18 an18 cd18 ct18), sl18⟩)
    (c18 : PySem.W.codeIn K cd18 "_law_one" = true)
    (k18 : PySem.W.keepIn K (.ref f18) = true)
    (a19 : PySem.W.nsIn K mainGlobals "_law_words" = some (some (.ref f19)))
    (l19 : K.lookup f19 = some ⟨oc19, od19, .func (PySem.W.fnOf "_law_words" "_law_words" (defArgs sWords) (defBody sWords) (defScope sWords) .none kV19 dc19 pm19 an19 cd19 ct19), sl19⟩)
    (c19 : PySem.W.codeIn K cd19 "_law_words" = true)
    (k19 : PySem.W.keepIn K (.ref f19) = true)
    (a20 : PySem.W.nsIn K mainGlobals "_law_tree" = some (some (.ref f20)))
    (l20 : K.lookup f20 = some ⟨oc20, od20, .func (PySem.W.fnOf "_law_tree" "_law_tree" (defArgs sTree) (defBody sTree) (defScope sTree) .none kV20 dc20 pm20 an20 cd20 ct20), sl20⟩)
    (c20 : PySem.W.codeIn K cd20 "_law_tree" = true)
    (k20 : PySem.W.keepIn K (.ref f20) = true)
    (a21 : PySem.W.nsIn K mainGlobals "_law_seen" = some (some (.ref f21)))
    (l21 : K.lookup f21 = some ⟨oc21, od21, .func (PySem.W.fnOf "_law_seen" "_law_seen" (defArgs sSeen) (defBody sSeen) (defScope sSeen) .none kV21 dc21 pm21 an21 cd21 ct21), sl21⟩)
    (c21 : PySem.W.codeIn K cd21 "_law_seen" = true)
    (k21 : PySem.W.keepIn K (.ref f21) = true)
    (a22 : PySem.W.nsIn K mainGlobals "_law_names" = some (some (.ref f22)))
    (l22 : K.lookup f22 = some ⟨oc22, od22, .func (PySem.W.fnOf "_law_names" "_law_names" (defArgs sNamesL) (defBody sNamesL) (defScope sNamesL) .none kV22 dc22 pm22 an22 cd22 ct22), sl22⟩)
    (c22 : PySem.W.codeIn K cd22 "_law_names" = true)
    (k22 : PySem.W.keepIn K (.ref f22) = true)
    (a23 : PySem.W.nsIn K mainGlobals "_law_tried" = some (some (.ref f23)))
    (l23 : K.lookup f23 = some ⟨oc23, od23, .func (PySem.W.fnOf "_law_tried" "_law_tried" (defArgs sTried) (defBody sTried) (defScope sTried) .none kV23 dc23 pm23 an23 cd23 ct23), sl23⟩)
    (c23 : PySem.W.codeIn K cd23 "_law_tried" = true)
    (k23 : PySem.W.keepIn K (.ref f23) = true)
    (a24 : PySem.W.nsIn K mainGlobals "_law_due" = some (some (.ref f24)))
    (l24 : K.lookup f24 = some ⟨oc24, od24, .func (PySem.W.fnOf "_law_due" "_law_due" (defArgs sDue) (defBody sDue) (defScope sDue) .none kV24 dc24 pm24 an24 cd24 ct24), sl24⟩)
    (c24 : PySem.W.codeIn K cd24 "_law_due" = true)
    (k24 : PySem.W.keepIn K (.ref f24) = true)
    (a25 : PySem.W.nsIn K mainGlobals "law" = some (some (.ref f25)))
    (l25 : K.lookup f25 = some ⟨oc25, od25, .func (PySem.W.fnOf "law" "law" (defArgs sLaw) (defBody sLaw) (defScope sLaw) .none kV25 dc25 pm25 an25 cd25 ct25), sl25⟩)
    (c25 : PySem.W.codeIn K cd25 "law" = true)
    (k25 : PySem.W.keepIn K (.ref f25) = true)
    (aP : PySem.W.nsIn K mainGlobals "BadPath" = some (some (.ref Cp)))
    (qP : PySem.W.excIn K Cp vTail "ValueError.__new__" = true)
    (kkP : PySem.W.keepIn K (.ref Cp) = true)
    (bbP : PySem.W.subIn K (.ref Cp) (.type "BaseException") = some true)
    (tyP : PySem.W.typeIn K (.ref Cp) = some (.type "type"))
    (icP : PySem.W.isClsIn K Cp = true)
    (aO : PySem.W.nsIn K mainGlobals "BadFolder" = some (some (.ref Co)))
    (qO : PySem.W.excIn K Co vTail "ValueError.__new__" = true)
    (kkO : PySem.W.keepIn K (.ref Co) = true)
    (bbO : PySem.W.subIn K (.ref Co) (.type "BaseException") = some true)
    (tyO : PySem.W.typeIn K (.ref Co) = some (.type "type"))
    (icO : PySem.W.isClsIn K Co = true)
    (aW : PySem.W.nsIn K mainGlobals "BadWords" = some (some (.ref Cw)))
    (qW : PySem.W.excIn K Cw vTail "ValueError.__new__" = true)
    (kkW : PySem.W.keepIn K (.ref Cw) = true)
    (bbW : PySem.W.subIn K (.ref Cw) (.type "BaseException") = some true)
    (tyW : PySem.W.typeIn K (.ref Cw) = some (.type "type"))
    (icW : PySem.W.isClsIn K Cw = true)
    (aC : PySem.W.nsIn K mainGlobals "Clash" = some (some (.ref Cc)))
    (qC : PySem.W.excIn K Cc vTail "ValueError.__new__" = true)
    (kkC : PySem.W.keepIn K (.ref Cc) = true)
    (bbC : PySem.W.subIn K (.ref Cc) (.type "BaseException") = some true)
    (tyC : PySem.W.typeIn K (.ref Cc) = some (.type "type"))
    (icC : PySem.W.isClsIn K Cc = true)
    (aF : PySem.W.nsIn K mainGlobals "Full" = some (some (.ref Cf)))
    (qF : PySem.W.excIn K Cf vTail "ValueError.__new__" = true)
    (kkF : PySem.W.keepIn K (.ref Cf) = true)
    (bbF : PySem.W.subIn K (.ref Cf) (.type "BaseException") = some true)
    (tyF : PySem.W.typeIn K (.ref Cf) = some (.type "type"))
    (icF : PySem.W.isClsIn K Cf = true)
    (aA : PySem.W.nsIn K mainGlobals "Absent" = some (some (.ref Ca)))
    (qA : PySem.W.excIn K Ca vTail "ValueError.__new__" = true)
    (kkA : PySem.W.keepIn K (.ref Ca) = true)
    (bbA : PySem.W.subIn K (.ref Ca) (.type "BaseException") = some true)
    (tyA : PySem.W.typeIn K (.ref Ca) = some (.type "type"))
    (icA : PySem.W.isClsIn K Ca = true)
    (sCcCc : PySem.W.subIn K (.ref Cc) (.ref Cc) = some true)
    (sCfCc : PySem.W.subIn K (.ref Cf) (.ref Cc) = some false)
    (sCfCf : PySem.W.subIn K (.ref Cf) (.ref Cf) = some true)
    (sCaCc : PySem.W.subIn K (.ref Ca) (.ref Cc) = some false)
    (sCaCf : PySem.W.subIn K (.ref Ca) (.ref Cf) = some false)
    (sCaCa : PySem.W.subIn K (.ref Ca) (.ref Ca) = some true)
    (z0 : PySem.W.nsIn K mainGlobals "len" = some none)
    (z1 : PySem.W.nsIn K mainGlobals "all" = some none)
    (z2 : PySem.W.nsIn K mainGlobals "any" = some none)
    (z3 : PySem.W.nsIn K mainGlobals "isinstance" = some none)
    (z4 : PySem.W.nsIn K mainGlobals "str" = some none)
    (z5 : PySem.W.nsIn K mainGlobals "tuple" = some none)
    (z6 : PySem.W.nsIn K mainGlobals "list" = some none)
    (z7 : PySem.W.nsIn K mainGlobals "int" = some none)
    (z8 : PySem.W.nsIn K mainGlobals "range" = some none)
    (z9 : PySem.W.nsIn K mainGlobals "enumerate" = some none)
    (z10 : PySem.W.nsIn K mainGlobals "sorted" = some none)
    (z11 : PySem.W.nsIn K mainGlobals "set" = some none)
    (z12 : PySem.W.nsIn K mainGlobals "dict" = some none)
    (v0 : PySem.W.nsIn K mainGlobals "MOST_NAMES" = some (some (.int 3 tk0)))
    (v1 : PySem.W.nsIn K mainGlobals "LONGEST_NAME" = some (some (.int 6 tk1)))
    (v2 : PySem.W.nsIn K mainGlobals "LONGEST_TEXT" = some (some (.int 200 tk2)))
    (v3 : PySem.W.nsIn K mainGlobals "MOST_FILES" = some (some (.int 20 tk3)))
    : ∃ fd : FuncData, (∀ (s : Shared) (v : Value), BindsTo s fd ⟨[v], []⟩ [("_law_script", v)]) ∧ ∀ base : Heap, K.In base → base.Ns mainGlobals mg → FnOk l.prog w K mg base CX0 7 fa fd ["_law_script"] (spLaw K) := by
  have e := hfa.symm.trans (PySem.W.mg_of X G a25)
  cases e
  have T : Gv mg := ⟨PySem.W.mg_none_of X G z0, PySem.W.mg_none_of X G z1, PySem.W.mg_none_of X G z2, PySem.W.mg_none_of X G z3, PySem.W.mg_none_of X G z4, PySem.W.mg_none_of X G z5, PySem.W.mg_none_of X G z6, PySem.W.mg_none_of X G z7, PySem.W.mg_none_of X G z8, PySem.W.mg_none_of X G z9, ⟨_, PySem.W.mg_of X G v0⟩, ⟨_, PySem.W.mg_of X G v1⟩, ⟨_, PySem.W.mg_of X G v2⟩, ⟨_, PySem.W.mg_of X G v3⟩, PySem.W.mg_none_of X G z10, PySem.W.mg_none_of X G z11, PySem.W.mg_none_of X G z12⟩
  have FHS := fun_mk (st := sHas) lHS cHS kHS
  have bHS := FHS.binds (ps := ["value", "most"]) fun _ _ _ _ _ _ us hl => match us, hl with | [_, _], _ => rfl
  have FNB := fun_mk (st := sBehind) lNB cNB kNB
  have bNB := FNB.binds (ps := ["files", "folder"]) fun _ _ _ _ _ _ us hl => match us, hl with | [_, _], _ => rfl
  have FAP := fun_mk (st := sAsc) lAP cAP kAP
  have bAP := FAP.binds (ps := ["table"]) fun _ _ _ _ _ _ us hl => match us, hl with | [_], _ => rfl
  have F0 := fun_mk (st := sIsName) l0 c0 k0
  have b0 := F0.binds (ps := ["word"]) fun _ _ _ _ _ _ us hl => match us, hl with | [_], _ => rfl
  have F1 := fun_mk (st := sIsPath) l1 c1 k1
  have b1 := F1.binds (ps := ["value"]) fun _ _ _ _ _ _ us hl => match us, hl with | [_], _ => rfl
  have F2 := fun_mk (st := sIsFolder) l2 c2 k2
  have b2 := F2.binds (ps := ["value"]) fun _ _ _ _ _ _ us hl => match us, hl with | [_], _ => rfl
  have F3 := fun_mk (st := sIsText) l3 c3 k3
  have b3 := F3.binds (ps := ["value"]) fun _ _ _ _ _ _ us hl => match us, hl with | [_], _ => rfl
  have F4 := fun_mk (st := sIsFile) l4 c4 k4
  have b4 := F4.binds (ps := ["value"]) fun _ _ _ _ _ _ us hl => match us, hl with | [_], _ => rfl
  have F5 := fun_mk (st := sLies) l5 c5 k5
  have b5 := F5.binds (ps := ["path", "folder"]) fun _ _ _ _ _ _ us hl => match us, hl with | [_, _], _ => rfl
  have F6 := fun_mk (st := sWay) l6 c6 k6
  have b6 := F6.binds (ps := ["one", "other"]) fun _ _ _ _ _ _ us hl => match us, hl with | [_, _], _ => rfl
  have F7 := fun_mk (st := sFollow) l7 c7 k7
  have b7 := F7.binds (ps := ["path", "files"]) fun _ _ _ _ _ _ us hl => match us, hl with | [_, _], _ => rfl
  have F8 := fun_mk (st := sCkPath) l8 c8 k8
  have b8 := F8.binds (ps := ["value"]) fun _ _ _ _ _ _ us hl => match us, hl with | [_], _ => rfl
  have F9 := fun_mk (st := sCkFolder) l9 c9 k9
  have b9 := F9.binds (ps := ["value"]) fun _ _ _ _ _ _ us hl => match us, hl with | [_], _ => rfl
  have F10 := fun_mk (st := sCkWords) l10 c10 k10
  have b10 := F10.binds (ps := ["value"]) fun _ _ _ _ _ _ us hl => match us, hl with | [_], _ => rfl
  have F11 := fun_mk (st := sCkTree) l11 c11 k11
  have b11 := F11.binds (ps := ["value"]) fun _ _ _ _ _ _ us hl => match us, hl with | [_], _ => rfl
  have F12 := fun_mk (st := sTextAt) l12 c12 k12
  have b12 := F12.binds (ps := ["tree", "path"]) fun _ _ _ _ _ _ us hl => match us, hl with | [_, _], _ => rfl
  have F13 := fun_mk (st := sNamesIn) l13 c13 k13
  have b13 := F13.binds (ps := ["tree", "folder"]) fun _ _ _ _ _ _ us hl => match us, hl with | [_, _], _ => rfl
  have F14 := fun_mk (st := sPut) l14 c14 k14
  have b14 := F14.binds (ps := ["tree", "path", "text"]) fun _ _ _ _ _ _ us hl => match us, hl with | [_, _, _], _ => rfl
  have F15 := fun_mk (st := Bp.sTaken) l15 c15 k15
  have b15 := F15.binds (ps := ["tree", "path"]) fun _ _ _ _ _ _ us hl => match us, hl with | [_, _], _ => rfl
  have F16 := fun_mk (st := sDiffering) l16 c16 k16
  have b16 := F16.binds (ps := ["one", "other"]) fun _ _ _ _ _ _ us hl => match us, hl with | [_, _], _ => rfl
  have F17 := fun_mk (st := Bl.sTaken) l17 c17 k17
  have b17 := F17.binds (ps := ["_law_row", "_law_many"]) fun _ _ _ _ _ _ us hl => match us, hl with | [_, _], _ => rfl
  have F18 := fun_mk (st := sOne) l18 c18 k18
  have b18 := F18.binds (ps := ["_law_row", "_law_things"]) fun _ _ _ _ _ _ us hl => match us, hl with | [_, _], _ => rfl
  have F19 := fun_mk (st := sWords) l19 c19 k19
  have b19 := F19.binds (ps := ["_law_row"]) fun _ _ _ _ _ _ us hl => match us, hl with | [_], _ => rfl
  have F20 := fun_mk (st := sTree) l20 c20 k20
  have b20 := F20.binds (ps := ["_law_row"]) fun _ _ _ _ _ _ us hl => match us, hl with | [_], _ => rfl
  have F21 := fun_mk (st := sSeen) l21 c21 k21
  have b21 := F21.binds (ps := ["_law_tree_here", "_law_path"]) fun _ _ _ _ _ _ us hl => match us, hl with | [_, _], _ => rfl
  have F22 := fun_mk (st := sNamesL) l22 c22 k22
  have b22 := F22.binds (ps := ["_law_tree_here", "_law_folder"]) fun _ _ _ _ _ _ us hl => match us, hl with | [_, _], _ => rfl
  have F23 := fun_mk (st := sTried) l23 c23 k23
  have b23 := F23.binds (ps := ["_law_kind", "_law_tree_here", "_law_path", "_law_text"]) fun _ _ _ _ _ _ us hl => match us, hl with | [_, _, _, _], _ => rfl
  have F24 := fun_mk (st := sDue) l24 c24 k24
  have b24 := F24.binds (ps := ["_law_tree_here", "_law_path", "_law_text"]) fun _ _ _ _ _ _ us hl => match us, hl with | [_, _, _], _ => rfl
  have F25 := fun_mk (st := sLaw) l25 c25 k25
  have b25 := F25.binds (ps := ["_law_script"]) fun _ _ _ _ _ _ us hl => match us, hl with | [_], _ => rfl
  refine ⟨PySem.W.fnOf "law" "law" (defArgs sLaw) (defBody sLaw) (defScope sLaw) .none kV25 dc25 pm25 an25 cd25 ct25, fun s v => .of_eq rfl, fun base _ _ => ?_⟩
  have xP : Xc K mg "BadPath" Cp := ⟨PySem.W.mg_of X G aP, qP, kkP, bbP, tyP⟩
  have xF : Xc K mg "BadFolder" Co := ⟨PySem.W.mg_of X G aO, qO, kkO, bbO, tyO⟩
  have xW : Xc K mg "BadWords" Cw := ⟨PySem.W.mg_of X G aW, qW, kkW, bbW, tyW⟩
  have xs : Exs K mg Cc Cf Ca := ⟨⟨PySem.W.mg_of X G aC, qC, kkC, bbC, tyC⟩, ⟨PySem.W.mg_of X G aF, qF, kkF, bbF, tyF⟩, ⟨PySem.W.mg_of X G aA, qA, kkA, bbA, tyA⟩,
    exm_at bbC icC tyC sCcCc, exm_at bbC icC tyC sCfCc, exm_at bbF icF tyF sCfCf, exm_at bbC icC tyC sCaCc, exm_at bbF icF tyF sCaCf, exm_at bbA icA tyA sCaCa⟩
  have cName : Cal l.prog w K mg base CX0 1 "is_name" ["word"] spName := ⟨f0, _, ok_name F0 T, PySem.W.mg_of X G a0, k0, b0⟩
  have cPath : Cal l.prog w K mg base CX0 2 "is_path" ["value"] (spPath (K := K)) := ⟨f1, _, ok_path F1 T cName, PySem.W.mg_of X G a1, k1, b1⟩
  have cFolder : Cal l.prog w K mg base CX0 3 "is_folder" ["value"] spFolder := ⟨f2, _, ok_folder F2 cPath, PySem.W.mg_of X G a2, k2, b2⟩
  have cHas : Cal l.prog w K mg base CX0 1 "has_signs" ["value", "most"] (spHas (K := K)) := ⟨fHS, _, ok_has FHS T, PySem.W.mg_of X G aHS, kHS, bHS⟩
  have cText : Cal l.prog w K mg base CX0 2 "is_text" ["value"] (spText (K := K)) := ⟨f3, _, ok_text F3 T cHas, PySem.W.mg_of X G a3, k3, b3⟩
  have cFile : Cal l.prog w K mg base CX0 3 "is_file" ["value"] (spFile (K := K)) := ⟨f4, _, ok_file F4 T cPath cText, PySem.W.mg_of X G a4, k4, b4⟩
  have cLies : Cal l.prog w K mg base CX0 1 "lies_within" ["path", "folder"] spLies := ⟨f5, _, ok_lies F5, PySem.W.mg_of X G a5, k5, b5⟩
  have cWay : Cal l.prog w K mg base CX0 2 "in_the_way" ["one", "other"] spWay := ⟨f6, _, ok_way F6 cLies, PySem.W.mg_of X G a6, k6, b6⟩
  have cFollow : Cal l.prog w K mg base CX0 2 "may_follow" ["path", "files"] (spFollow (K := K)) := ⟨f7, _, ok_follow F7 T cLies, PySem.W.mg_of X G a7, k7, b7⟩
  have cCkP : Cal l.prog w K mg base (L2.CX l.prog w) 3 "check_path" ["value"] (spCk Cp isPathV) := ⟨f8, _, ok_ckPath F8 xP cPath, PySem.W.mg_of X G a8, k8, b8⟩
  have cCkF : Cal l.prog w K mg base (L2.CX l.prog w) 4 "check_folder" ["value"] (spCk Co isFolderV) := ⟨f9, _, ok_ckFolder F9 xF cFolder, PySem.W.mg_of X G a9, k9, b9⟩
  have cCkW : Cal l.prog w K mg base (L2.CX l.prog w) 3 "check_words" ["value"] (spCk Cw isTextV) := ⟨f10, _, ok_ckWords F10 xW cText, PySem.W.mg_of X G a10, k10, b10⟩
  have cCkT : Cal l.prog w K mg base CX0 4 "check_tree" ["value"] spGood := ⟨f11, _, ok_ckTree F11 T cFile cFollow, PySem.W.mg_of X G a11, k11, b11⟩
  have cTextAt : Cal l.prog w K mg base CX0 5 "text_at" ["tree", "path"] spTextAt := ⟨f12, _, ok_textAt F12 T cCkT cCkP, PySem.W.mg_of X G a12, k12, b12⟩
  have cBehind : Cal l.prog w K mg base CX0 2 "names_behind" ["files", "folder"] spBehind := ⟨fNB, _, ok_behind FNB T cLies, PySem.W.mg_of X G aNB, kNB, bNB⟩
  have cNames : Cal l.prog w K mg base CX0 5 "names_in" ["tree", "folder"] spNamesF := ⟨f13, _, ok_namesF F13 T cCkT cCkF cBehind, PySem.W.mg_of X G a13, k13, b13⟩
  have cAsc : Cal l.prog w K mg base CX0 1 "ascending_pairs" ["table"] (spAsc K) := ⟨fAP, _, ok_asc FAP T, PySem.W.mg_of X G aAP, kAP, bAP⟩
  have cPut : Cal l.prog w K mg base (L2.CX l.prog w) 5 "put" ["tree", "path", "text"] (spPutF Cc Cf) := ⟨f14, _, ok_put F14 T xs.clash xs.full cCkT cCkP cCkW cWay cAsc, PySem.W.mg_of X G a14, k14, b14⟩
  have cTaken : Cal l.prog w K mg base (L2.CX l.prog w) 5 "taken" ["tree", "path"] (spTakenF Ca) := ⟨f15, _, ok_takenF F15 T xs.absent cCkT cCkP, PySem.W.mg_of X G a15, k15, b15⟩
  have cDiff : Cal l.prog w K mg base CX0 5 "differing" ["one", "other"] spDif := ⟨f16, _, ok_dif F16 T cCkT, PySem.W.mg_of X G a16, k16, b16⟩
  have dT : Cal l.prog w K mg base CX0 1 "_law_taken" ["_law_row", "_law_many"] (spTaken (K := K)) := ⟨f17, _, Bl.ok_taken F17 T, PySem.W.mg_of X G a17, k17, b17⟩
  have dO : Cal l.prog w K mg base CX0 2 "_law_one" ["_law_row", "_law_things"] (spOne (K := K)) := ⟨f18, _, ok_one F18 T dT, PySem.W.mg_of X G a18, k18, b18⟩
  have dW : Cal l.prog w K mg base CX0 3 "_law_words" ["_law_row"] (spWords (K := K)) := ⟨f19, _, ok_words F19 T dT dO, PySem.W.mg_of X G a19, k19, b19⟩
  have dTr : Cal l.prog w K mg base CX0 4 "_law_tree" ["_law_row"] (spTree (K := K)) := ⟨f20, _, ok_tree F20 T dT dW, PySem.W.mg_of X G a20, k20, b20⟩
  have dS : Cal l.prog w K mg base CX0 1 "_law_seen" ["_law_tree_here", "_law_path"] spSeen := ⟨f21, _, ok_seen F21 T, PySem.W.mg_of X G a21, k21, b21⟩
  have dN : Cal l.prog w K mg base CX0 1 "_law_names" ["_law_tree_here", "_law_folder"] spNamesL := ⟨f22, _, ok_namesL F22 T, PySem.W.mg_of X G a22, k22, b22⟩
  have dD : Cal l.prog w K mg base CX0 6 "_law_tried" ["_law_kind", "_law_tree_here", "_law_path", "_law_text"] spTried := ⟨f23, _, ok_tried F23 xs cPut cTaken, PySem.W.mg_of X G a23, k23, b23⟩
  have dU : Cal l.prog w K mg base CX0 1 "_law_due" ["_law_tree_here", "_law_path", "_law_text"] spDue := ⟨f24, _, ok_due F24 T, PySem.W.mg_of X G a24, k24, b24⟩
  exact ok_law F25 T dT dO dW dTr cTextAt dS cNames dN dD dU cDiff
end
theorem walk {l : PySem.W.OpenLaw} {q : Program} {loose : List Str} {XP : (Str → Option Value) → Heap → Prop} {YP : World → Heap → Prop} {d : DefRec} {K : Params → PySem.W.Frag} (hn : l.most = some 63) (hdf : d.params.defaults = [])
    (hY : ∀ (w : World) (h : Heap), YP w h → (K w.params).In h)
    (F : ∀ (w : World) (mg : Str → Option Value) (fa : Addr) (h : Heap), (K w.params).In h → h.Ns mainGlobals mg → mg d.name = some (.ref fa) →
      ∃ fd : FuncData, (∀ (s : Shared) (u : Value), BindsTo s fd ⟨[u], []⟩ [("_law_script", u)]) ∧ ∀ base : Heap, (K w.params).In base → base.Ns mainGlobals mg → FnOk l.prog w (K w.params) mg base CX0 7 fa fd ["_law_script"] (spLaw (K w.params))) :
    PySem.W.WalkO q loose XP YP l.row.toRowW d [] (fun f vs => PySem.call f vs) :=
  L2.walk_of (n := 63) (k := 7) (x := "_law_script") (CX := fun _ => CX0) (sp := fun w => spLaw (K w.params)) hn (by decide) hdf ⟨rfl, by decide, by decide⟩ hY F (fun _ H a ns hl hO hS => by
    refine ⟨a, ns, rfl, ?_, fun _ => rfl⟩
    rcases hS with (h | ⟨o, h⟩) | h
    · rcases hO a with z | ⟨o, xs, z⟩
      · rw [h] at z; cases z
      · rw [h] at z; cases z
    · exact .inl ⟨o, h⟩
    · exact .inr h) fun _ _ _ _ _ z => z
end Bl
open PySem PySem.W PyProof.Rows
set_option maxRecDepth 100000 in
set_option maxHeartbeats 0 in
theorem PySem.Challenge.cw_buildroom_k01_whole_trees_holds : PySem.Challenge.rw_buildroom_k01_whole_trees.Holds := by
  w_on; o_law; k_head; (case hw => w_witness2)
  k_fill
  refine Bl.walk (l := PySem.Challenge.rw_buildroom_k01_whole_trees) rfl rfl (fun w h Y => PySem.W.kIn_of Y) ?F
  case F =>
    intro w mg fa h KX G hmg
    refine' Bl.all_mk KX G hmg ?aHS ?lHS ?cHS ?kHS ?aNB ?lNB ?cNB ?kNB ?aAP ?lAP ?cAP ?kAP ?a0 ?l0 ?c0 ?k0 ?a1 ?l1 ?c1 ?k1 ?a2 ?l2 ?c2 ?k2 ?a3 ?l3 ?c3 ?k3 ?a4 ?l4 ?c4 ?k4 ?a5 ?l5 ?c5 ?k5 ?a6 ?l6 ?c6 ?k6 ?a7 ?l7 ?c7 ?k7 ?a8 ?l8 ?c8 ?k8 ?a9 ?l9 ?c9 ?k9 ?a10 ?l10 ?c10 ?k10 ?a11 ?l11 ?c11 ?k11 ?a12 ?l12 ?c12 ?k12 ?a13 ?l13 ?c13 ?k13 ?a14 ?l14 ?c14 ?k14 ?a15 ?l15 ?c15 ?k15 ?a16 ?l16 ?c16 ?k16 ?a17 ?l17 ?c17 ?k17 ?a18 ?l18 ?c18 ?k18 ?a19 ?l19 ?c19 ?k19 ?a20 ?l20 ?c20 ?k20 ?a21 ?l21 ?c21 ?k21 ?a22 ?l22 ?c22 ?k22 ?a23 ?l23 ?c23 ?k23 ?a24 ?l24 ?c24 ?k24 ?a25 ?l25 ?c25 ?k25 ?aP ?qP ?kkP ?bbP ?tyP ?icP ?aO ?qO ?kkO ?bbO ?tyO ?icO ?aW ?qW ?kkW ?bbW ?tyW ?icW ?aC ?qC ?kkC ?bbC ?tyC ?icC ?aF ?qF ?kkF ?bbF ?tyF ?icF ?aA ?qA ?kkA ?bbA ?tyA ?icA ?sCcCc ?sCfCc ?sCfCf ?sCaCc ?sCaCf ?sCaCa ?z0 ?z1 ?z2 ?z3 ?z4 ?z5 ?z6 ?z7 ?z8 ?z9 ?z10 ?z11 ?z12 ?v0 ?v1 ?v2 ?v3
    (case aHS => k_is)
    (case lHS => k_is)
    (case cHS => k_is)
    (case kHS => k_is)
    (case aNB => k_is)
    (case lNB => k_is)
    (case cNB => k_is)
    (case kNB => k_is)
    (case aAP => k_is)
    (case lAP => k_is)
    (case cAP => k_is)
    (case kAP => k_is)
    (case a0 => k_is)
    (case l0 => k_is)
    (case c0 => k_is)
    (case k0 => k_is)
    (case a1 => k_is)
    (case l1 => k_is)
    (case c1 => k_is)
    (case k1 => k_is)
    (case a2 => k_is)
    (case l2 => k_is)
    (case c2 => k_is)
    (case k2 => k_is)
    (case a3 => k_is)
    (case l3 => k_is)
    (case c3 => k_is)
    (case k3 => k_is)
    (case a4 => k_is)
    (case l4 => k_is)
    (case c4 => k_is)
    (case k4 => k_is)
    (case a5 => k_is)
    (case l5 => k_is)
    (case c5 => k_is)
    (case k5 => k_is)
    (case a6 => k_is)
    (case l6 => k_is)
    (case c6 => k_is)
    (case k6 => k_is)
    (case a7 => k_is)
    (case l7 => k_is)
    (case c7 => k_is)
    (case k7 => k_is)
    (case a8 => k_is)
    (case l8 => k_is)
    (case c8 => k_is)
    (case k8 => k_is)
    (case a9 => k_is)
    (case l9 => k_is)
    (case c9 => k_is)
    (case k9 => k_is)
    (case a10 => k_is)
    (case l10 => k_is)
    (case c10 => k_is)
    (case k10 => k_is)
    (case a11 => k_is)
    (case l11 => k_is)
    (case c11 => k_is)
    (case k11 => k_is)
    (case a12 => k_is)
    (case l12 => k_is)
    (case c12 => k_is)
    (case k12 => k_is)
    (case a13 => k_is)
    (case l13 => k_is)
    (case c13 => k_is)
    (case k13 => k_is)
    (case a14 => k_is)
    (case l14 => k_is)
    (case c14 => k_is)
    (case k14 => k_is)
    (case a15 => k_is)
    (case l15 => k_is)
    (case c15 => k_is)
    (case k15 => k_is)
    (case a16 => k_is)
    (case l16 => k_is)
    (case c16 => k_is)
    (case k16 => k_is)
    (case a17 => k_is)
    (case l17 => k_is)
    (case c17 => k_is)
    (case k17 => k_is)
    (case a18 => k_is)
    (case l18 => k_is)
    (case c18 => k_is)
    (case k18 => k_is)
    (case a19 => k_is)
    (case l19 => k_is)
    (case c19 => k_is)
    (case k19 => k_is)
    (case a20 => k_is)
    (case l20 => k_is)
    (case c20 => k_is)
    (case k20 => k_is)
    (case a21 => k_is)
    (case l21 => k_is)
    (case c21 => k_is)
    (case k21 => k_is)
    (case a22 => k_is)
    (case l22 => k_is)
    (case c22 => k_is)
    (case k22 => k_is)
    (case a23 => k_is)
    (case l23 => k_is)
    (case c23 => k_is)
    (case k23 => k_is)
    (case a24 => k_is)
    (case l24 => k_is)
    (case c24 => k_is)
    (case k24 => k_is)
    (case a25 => k_is)
    (case l25 => k_is)
    (case c25 => k_is)
    (case k25 => k_is)
    (case aP => k_is)
    (case qP => k_exc)
    (case kkP => k_is)
    (case bbP => k_is)
    (case tyP => k_is)
    (case icP => k_is)
    (case aO => k_is)
    (case qO => k_exc)
    (case kkO => k_is)
    (case bbO => k_is)
    (case tyO => k_is)
    (case icO => k_is)
    (case aW => k_is)
    (case qW => k_exc)
    (case kkW => k_is)
    (case bbW => k_is)
    (case tyW => k_is)
    (case icW => k_is)
    (case aC => k_is)
    (case qC => k_exc)
    (case kkC => k_is)
    (case bbC => k_is)
    (case tyC => k_is)
    (case icC => k_is)
    (case aF => k_is)
    (case qF => k_exc)
    (case kkF => k_is)
    (case bbF => k_is)
    (case tyF => k_is)
    (case icF => k_is)
    (case aA => k_is)
    (case qA => k_exc)
    (case kkA => k_is)
    (case bbA => k_is)
    (case tyA => k_is)
    (case icA => k_is)
    (case sCcCc => first | rfl | k_is)
    (case sCfCc => first | rfl | k_is)
    (case sCfCf => first | rfl | k_is)
    (case sCaCc => first | rfl | k_is)
    (case sCaCf => first | rfl | k_is)
    (case sCaCa => first | rfl | k_is)
    (case z0 => k_is)
    (case z1 => k_is)
    (case z2 => k_is)
    (case z3 => k_is)
    (case z4 => k_is)
    (case z5 => k_is)
    (case z6 => k_is)
    (case z7 => k_is)
    (case z8 => k_is)
    (case z9 => k_is)
    (case z10 => k_is)
    (case z11 => k_is)
    (case z12 => k_is)
    (case v0 => k_is)
    (case v1 => k_is)
    (case v2 => k_is)
    (case v3 => k_is)
